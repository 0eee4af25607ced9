import Derived.Test.YtonmihojfcjmjaaGreatRows
import Derived.Test.YtonmihojfcjmjaaGreatBM
import Derived.Test.YtonmihojfcjmjaaGreatBK
import Derived.Handy
import Derived.WalkKit
import Derived.Laws.IdiomStrings
import Derived.WalkSpells
import Derived.WalkSmall
import Derived.Deep.QuietTactic
import Derived.Deep.RegionHeld3
import Derived.Deep.AppendLies
import Derived.Deep.LoopGhost
import Derived.Maps.AppendAt
import Derived.BigQuiet
/- Bytes back to a string. -/
namespace Go.Proofs.YtonmihojfcjmjaaGreat
open Go.RowKit

theorem bytes_back {W : World} {g : Nat} {xs : List Int} (q : Blk W g (xs.map (Value.int .u8)).toArray 5) (h : ∀ x ∈ xs, 0 ≤ x ∧ x ≤ 255) (n : Nat) (hn : xs.length = n) :
    (convert 79 9 (.slice (some ⟨g, 0, none⟩) n n)).run Tryz.prog W = .ok (.string ⟨(xs.map M.b8).toArray⟩) W := by
  have e : (xs.map M.b8).length = n := by simpa using hn
  have := run_convert_bytes_back (P := Tryz.prog) W 79 9 5 ⟨g, 0, none⟩ n (xs.map M.b8) Tryz.underlying79 Tryz.underlying5 Tryz.underlying9 (fun j hj => by
    have hj' : j < xs.length := by simpa using hj
    have c := q.cell j
    have hx := h xs[j] (List.getElem_mem hj')
    have e1 : ((xs.map M.b8)[j].toNat : Int) = xs[j] := by rw [List.getElem_map]; exact M.b8_lt _ hx.1 (by omega)
    rw [e1]
    have c2 : W.cell? ⟨g, j, none⟩ = some (.int .u8 xs[j]) := by rw [c]; simp [hj']
    by_cases h0 : j = 0
    · subst h0; simpa [Addr.add] using c2
    · simpa [Addr.add, h0] using c2)
  rw [e] at this
  exact this

theorem app_list (a b : ByteArray) : (a ++ b).data.toList = a.data.toList ++ b.data.toList := by simp

theorem ret_str2 {a b : ByteArray} {v : Value} (h : a = b) : Ending.returned (.tuple #[.string a, v]) = .returned (.tuple #[.string b, v]) := by rw [h]
theorem of_list {a : ByteArray} {xs : List UInt8} (h : a.data.toList = xs) : a = ⟨xs.toArray⟩ := by rw [← h]
end Go.Proofs.YtonmihojfcjmjaaGreat

/- Contracts of packets: the small ones. -/
namespace Go.Proofs.YtonmihojfcjmjaaGreat
open Go.RowKit
set_option linter.unusedVariables false
attribute [local go_sem] cell_set_off cell_set_blk

set_option maxHeartbeats 400000 in
theorem psigned_any (n : Int) (w : World) (h1 : 0 ≤ n) (h2 : n ≤ 255) : Calls Tryz.prog 92 #[.int .u8 n] w fun e w' => e = .returned (.int .i64 (M.sg n)) ∧ w' = w := by
  by_cases h : 127 < n
  · go_enter Tryz.func92, Tryz.ntmps92
    go_wp2
    go_ret
    exact ⟨ret_int (by unfold M.sg; rw [if_pos h]), rfl⟩
  · go_enter Tryz.func92, Tryz.ntmps92
    go_wp2
    go_ret
    exact ⟨ret_int (by unfold M.sg; rw [if_neg (by omega)]), rfl⟩

set_option maxHeartbeats 400000 in
theorem rsigned_any (n : Int) (w : World) (h1 : 0 ≤ n) (h2 : n ≤ 255) : Calls Tryz.prog 76 #[.int .u8 n] w fun e w' => e = .returned (.int .i64 (M.sg n)) ∧ w' = w := by
  by_cases h : 127 < n
  · go_enter Tryz.func76, Tryz.ntmps76
    go_wp2
    go_ret
    exact ⟨ret_int (by unfold M.sg; rw [if_pos h]), rfl⟩
  · go_enter Tryz.func76, Tryz.ntmps76
    go_wp2
    go_ret
    exact ⟨ret_int (by unfold M.sg; rw [if_neg (by omega)]), rfl⟩

set_option maxHeartbeats 1000000 in
theorem rsmall_any (p : M.V3) (w : World) :
    Calls Tryz.prog 77 #[.agg #[.int .i64 p.x, .int .i64 p.y, .int .i64 p.z]] w fun e w' => e = .returned (.bool (M.smallB p)) ∧ Below w.heap.size w w' := by
  go_enter Tryz.func77, Tryz.ntmps77
  go_wp2
  go_rounds 4
  all_goals (go_ret; exact ⟨ret_bool (by unfold M.smallB; (first | (simp [*]; done) | (simp; omega))), by go_grown⟩)

/-- The sum, less 256 as often as that goes. -/
def M.sum8 (l : List Int) : Int := l.sum % 256

theorem getD_drop {l : List Int} {k : Nat} (h : k < l.length) : l.drop k = l.getD k 0 :: l.drop (k + 1) := by
  rw [List.drop_eq_getElem_cons h]
  congr 1
  simp [List.getD_eq_getElem?_getD, h]

set_option maxHeartbeats 1000000 in
theorem psum_any (g cap : Nat) (l : List Int) (w : World) (hl : l.length ≤ 1000) (hc : ∀ k, k < l.length → w.cell? ⟨g, k, none⟩ = some (.int .u8 (l.getD k 0))) (hb : ∀ k, k < l.length → 0 ≤ l.getD k 0 ∧ l.getD k 0 ≤ 255) :
    Calls Tryz.prog 108 #[.slice (some ⟨g, 0, none⟩) l.length cap] w fun e w' => e = .returned (.int .u8 (M.sum8 l)) ∧ w' = w := by
  obtain ⟨Z, hZ⟩ : ∃ Z, M.sum8 l = Z := ⟨_, rfl⟩
  rw [hZ]
  have HZ : Hid ((0 + (l.drop 0).sum) % 256 = Z) := by unfold Hid; rw [← hZ]; simp [M.sum8]
  have HC : Hid (∀ k, k < l.length → w.cell? ⟨g, k, none⟩ = some (.int .u8 (l.getD k 0))) := hc
  have HB : Hid (∀ k, k < l.length → 0 ≤ l.getD k 0 ∧ l.getD k 0 ≤ 255) := hb
  clear hZ hc hb
  go_enter Tryz.func108, Tryz.ntmps108
  go_wp2_with fail
  go_loopg [3, 8] (l.length + 1) (fun k u3 u8 wr => ∃ (j : Nat) (z : Int), u3 = .int .u8 z ∧ u8 = .int .i64 j ∧ 0 ≤ z ∧ z ≤ 255 ∧ j ≤ l.length ∧ k + j = l.length + 1 ∧ Hid ((z + (l.drop j).sum) % 256 = Z) ∧ wr = w)
  case atStart => exact ⟨0, 0, rfl, rfl, by omega, by omega, Nat.zero_le _, by omega, HZ, rfl⟩
  case round =>
    obtain ⟨j, z, rfl, rfl, z1, z2, hj, hk, hP, rfl⟩ := hrel
    by_cases hlt : j < l.length
    · have c0 := HC.out j hlt
      have b0 := HB.out j hlt
      have hP2 : Hid ((z + (l.getD j 0 + (l.drop (j + 1)).sum)) % 256 = Z) := by unfold Hid; have := hP.out; rw [getD_drop hlt, List.sum_cons] at this; exact this
      clear hP
      generalize l.getD j 0 = y at c0 b0 hP2
      obtain ⟨b1, b2⟩ := b0
      have j0 : (0 : Int) ≤ (j : Int) := by omega
      have j1 : (j : Int) < (l.length : Int) := by omega
      have j2 : (l.length : Int) ≤ 1000 := by omega
      go_wp2
      go_roundg (gk - 1)
      case measure => omega
      case rel => exact ⟨j + 1, (z + y) % 256, rfl, by go_num, by omega, by omega, hlt, by omega, by unfold Hid; have := hP2.out; omega, rfl⟩
    · have j1 : ¬ (j : Int) < (l.length : Int) := by omega
      have E : Hid (z = Z) := by have := hP.out; rw [List.drop_of_length_le (by omega)] at this; simp at this; unfold Hid; omega
      clear hP
      go_wp2
      go_ret
      exact ⟨ret_int E.out, rfl⟩

theorem psum_at (g cap n : Nat) (l : List Int) (w : World) (hn : l.length = n) (hl : n ≤ 1000) (hc : ∀ k, k < n → w.cell? ⟨g, k, none⟩ = some (.int .u8 (l.getD k 0))) (hb : ∀ k, k < n → 0 ≤ l.getD k 0 ∧ l.getD k 0 ≤ 255) (K : Int) (hK : Hid (M.sum8 l = K)) :
    Calls Tryz.prog 108 #[.slice (some ⟨g, 0, none⟩) n cap] w fun e w' => e = .returned (.int .u8 K) ∧ w' = w := by
  subst hn
  rw [← hK.out]
  exact psum_any g cap l w hl hc hb

end Go.Proofs.YtonmihojfcjmjaaGreat

/- Contracts of packets: write. -/
namespace Go.Proofs.YtonmihojfcjmjaaGreat
open Go.RowKit
set_option linter.unusedVariables false
attribute [local go_sem] cell_set_off cell_set_blk

theorem infoByte : (Tryz.prog.info? 5).map (fun i => (i.zero, i.size, i.bytes)) = some (some (.int .u8 0), 1, 1) := by kernel_rfl

/-- Bytes as cells. -/
def byteVs (l : List UInt8) : List Value := l.map fun b => .int .u8 (b.toNat : Int)

theorem row_at {W : World} {base e g n cap m : Nat} {xs : List Value} (h : W.ownsRow base e 1 (.slice (some ⟨g, 0, none⟩) n cap) m xs) {j : Nat} {x : Value} (hx : xs[j]? = some x) : W.cell? ⟨g, j, none⟩ = some x := by
  rcases h.2 with ⟨h0, _⟩ | ⟨g', cap', cur, hv, _, hh, _, _, _, ht⟩
  · cases h0
  · cases hv
    simp only [World.cell?, hh]
    rw [← ht] at hx
    have hj := (List.getElem?_eq_some_iff.1 hx).1
    rw [List.getElem?_take_of_lt (by simp at hj; omega)] at hx
    simpa using hx

theorem row_ge {W : World} {base e size g n cap m : Nat} {xs : List Value} (h : W.ownsRow base e size (.slice (some ⟨g, 0, none⟩) n cap) m xs) : base ≤ g := by
  rcases h.2 with ⟨h0, _⟩ | ⟨g', cap', cur, hv, hb, _⟩
  · cases h0
  · cases hv; exact hb

/-- string(b), b a row of one's own. -/
theorem conv_row {W : World} {base g n cap : Nat} {l : List UInt8} (h : W.ownsRow base 5 1 (.slice (some ⟨g, 0, none⟩) n cap) n (byteVs l)) :
    (convert 79 9 (.slice (some ⟨g, 0, none⟩) n cap)).run Tryz.prog W = .ok (.string ⟨l.toArray⟩) W := by
  have hl : n = l.length := by have := h.1; simp [byteVs] at this; omega
  subst hl
  refine run_convert_bytes_back _ 79 9 5 ⟨g, 0, none⟩ cap l Tryz.underlying79 Tryz.underlying5 Tryz.underlying9 ?_
  intro j hj
  have := row_at h (j := j) (x := .int .u8 (l[j].toNat : Int)) (by simp [byteVs, hj])
  by_cases h0 : j = 0
  · subst h0; simpa [Addr.add] using this
  · simpa [Addr.add, h0] using this

theorem byteVs_b8 (l : List Int) (h : ∀ x ∈ l, 0 ≤ x ∧ x ≤ 255) : byteVs (l.map M.b8) = l.map (Value.int .u8) := by
  induction l with
  | nil => rfl
  | cons x l ih =>
    have hx := h x (by simp)
    have e := ih (fun y hy => h y (by simp [hy]))
    simp only [byteVs, List.map_cons] at e ⊢
    rw [e, M.b8_lt x (by omega) (by omega)]

/-- The numbers that write lays. -/
def M.Cmd.nums (c : M.Cmd) (f : Int) : List Int := [67, c.seq % 256, c.seq / 256, f, c.mv.x % 256, c.mv.y % 256, c.mv.z % 256, c.aim.x % 256, c.aim.y % 256, c.aim.z % 256, c.time % 256, c.time / 256 % 256, c.time / 65536]

theorem M.nums_bd (c : M.Cmd) (h : M.Fits c) (f : Int) (h1 : 0 ≤ f) (h2 : f ≤ 1) : ∀ x ∈ c.nums f, 0 ≤ x ∧ x ≤ 255 := by
  obtain ⟨s1, s2, t1, t2, _, _⟩ := h
  intro x hx
  simp only [M.Cmd.nums, List.mem_cons, List.not_mem_nil, or_false] at hx
  rcases hx with rfl | rfl | rfl | rfl | rfl | rfl | rfl | rfl | rfl | rfl | rfl | rfl | rfl <;> omega

theorem M.nums_sum (c : M.Cmd) (h : M.Fits c) : (c.nums (M.fireN c.fire)).sum % 256 = c.chk := by
  obtain ⟨s1, s2, t1, t2, _, _⟩ := h
  rw [M.chk_eq]
  simp only [M.Cmd.nums, List.sum_cons, List.sum_nil]
  omega

theorem M.b8_mod (n : Int) : M.b8 (n % 256) = M.b8 n := by unfold M.b8; congr 2; omega

theorem M.nums_pack (c : M.Cmd) (h : M.Fits c) : (⟨(((c.nums (M.fireN c.fire)) ++ [c.chk]).map M.b8).toArray⟩ : ByteArray) = c.pack := by
  obtain ⟨s1, s2, t1, t2, _, _⟩ := h
  have e67 : M.b8 67 = 67 := by decide
  simp only [M.Cmd.nums, M.Cmd.pack, List.cons_append, List.nil_append, List.map_cons, List.map_nil, M.b8_mod, e67]

theorem M.getD_mem {l : List Int} {k : Nat} (h : k < l.length) : l.getD k 0 ∈ l := by
  simp [List.getD_eq_getElem?_getD, h]

theorem row13 (l : List Int) {n : Nat} (hn : l.length = n) (k : Nat) (hk : k < n) : ((l.map (Value.int .u8)).toArray)[k]? = some (.int .u8 (l.getD k 0)) := by
  subst hn
  simp [List.getD_eq_getElem?_getD, hk]

theorem row_lit {W : World} {b : Nat} {cs : Array Value} {t base : Nat} (h : Blk W b cs t) (hb : base ≤ b) (hm : cs.size ≤ maxLen) : W.ownsRow base t 1 (.slice (some ⟨b, 0, none⟩) cs.size cs.size) cs.size cs.toList :=
  ⟨by simp, .inr ⟨b, cs.size, cs, rfl, hb, h.at_, Nat.le_refl _, hm, by simp, by rw [Nat.mul_one]; exact List.take_of_length_le (by simp)⟩⟩

theorem row_b8 {W : World} {base : Nat} {v : Value} {n : Nat} {l : List Int} {K : Int} (h : W.ownsRow base 5 1 v n (l.map (Value.int .u8) ++ [.int .u8 K])) (hl : ∀ x ∈ l, 0 ≤ x ∧ x ≤ 255) (h1 : 0 ≤ K) (h2 : K ≤ 255) : W.ownsRow base 5 1 v n (byteVs ((l ++ [K]).map M.b8)) := by
  rw [byteVs_b8 _ (fun x hx => by simp at hx; rcases hx with hx | rfl; exact hl x hx; exact ⟨h1, h2⟩), List.map_append]
  exact h

set_option maxHeartbeats 2000000 in
theorem write_no (c : M.Cmd) (w : World) (h : M.Fits c) (hf : c.fire = false) : Calls Tryz.prog 94 #[.agg #[.int .i64 c.seq, .bool c.fire, .int .i64 c.mv.x, .int .i64 c.mv.y, .int .i64 c.mv.z, .int .i64 c.aim.x, .int .i64 c.aim.y, .int .i64 c.aim.z, .int .i64 c.time]] w fun e w' => e = .returned (.string c.pack) ∧ Below w.heap.size w w' := by
  have HF : Hid (M.Fits c) := h
  have hF : M.fireN c.fire = 0 := by rw [hf]; rfl
  have hK := M.nums_sum c h
  have hR := M.nums_pack c h
  rw [hF] at hK hR
  obtain ⟨K, hK2⟩ : ∃ K, c.chk = K := ⟨_, rfl⟩
  rw [hK2] at hK hR
  have HK : Hid (M.sum8 (c.nums 0) = K) := hK
  have HR : Hid ((⟨((c.nums 0 ++ [K]).map M.b8).toArray⟩ : ByteArray) = c.pack) := hR
  have K1 : 0 ≤ K := by rw [← hK]; omega
  have K2 : K ≤ 255 := by rw [← hK]; omega
  have HB : Hid (∀ x ∈ c.nums 0, 0 ≤ x ∧ x ≤ 255) := M.nums_bd c h 0 (by omega) (by omega)
  obtain ⟨s1, s2, t1, t2, ⟨x1, x2, y1, y2, z1, z2⟩, ⟨u1, u2, v1, v2, k1, k2⟩⟩ := h
  obtain ⟨i0, hi0, hz0, hz1, hz2⟩ := info_parts infoByte
  clear hK hR hK2 hF
  have HQ : Hid (Blk ((w.alloc (.cells #[.int .i64 c.seq, .bool false, .int .i64 c.mv.x, .int .i64 c.mv.y, .int .i64 c.mv.z, .int .i64 c.aim.x, .int .i64 c.aim.y, .int .i64 c.aim.z, .int .i64 c.time] 50)).alloc (.cells ((c.nums 0).map (Value.int .u8)).toArray 5)) (w.heap.size + 1) ((c.nums 0).map (Value.int .u8)).toArray 5) := Blk.new (by simp)
  have HO : Hid (((w.alloc (.cells #[.int .i64 c.seq, .bool false, .int .i64 c.mv.x, .int .i64 c.mv.y, .int .i64 c.mv.z, .int .i64 c.aim.x, .int .i64 c.aim.y, .int .i64 c.aim.z, .int .i64 c.time] 50)).alloc (.cells ((c.nums 0).map (Value.int .u8)).toArray 5)).ownsRow w.heap.size 5 1 (.slice (some ⟨w.heap.size + 1, 0, none⟩) 13 13) 13 ((c.nums 0).map (Value.int .u8))) := row_lit HQ.out (by omega) (by simp [maxLen])
  rw [hf]
  go_enter Tryz.func94, Tryz.ntmps94
  go_wp2_with fail
  refine (psum_at (w.heap.size + 1) 13 13 (c.nums 0) _ rfl (by omega) ?_ ?_ K HK).mono ?_
  · intro k hk
    exact (HQ.out.cell k).trans (row13 _ rfl k hk)
  · intro k hk
    exact HB.out _ (M.getD_mem hk)
  rintro e w1 ⟨rfl, rfl⟩
  go_wp2_with (at_builtin; refine wpList_append_lies _ (by rfl) _ _ _ (by rfl) w.heap.size 5 i0 _ 1 1 Tryz.underlying79 hi0 hz0 hz1 hz2 rfl (by omega) (.slice (some ⟨w.heap.size + 1, 0, none⟩) 13 13) 13 ((c.nums 0).map (Value.int .u8)) (by rfl) (Go.World.ownsRow.alloc HO.out _) ⟨w.heap.size + 2, 0, none⟩ 1 1 [.int .u8 K] (by rfl) (by rfl) (World.news_of_block (cs := #[.int .u8 K]) (t := 5) (fr := (0, 0)) (Blk.new (by simp)).at_) (by simp [Value.oneCell']) (by omega) (by unfold maxLen; omega) (by omega) (by simp; omega) (w.heap.size + 3) (by simp) ?_; intro g1 cap1 w1 hown1 hgrow1 hat1 hlt1; have hconv := conv_row (l := (c.nums 0 ++ [K]).map M.b8) (row_b8 hown1 HB.out K1 K2); rw [HR.out] at hconv)
  go_ret
  exact ⟨rfl, (show Below w.heap.size w (((w.alloc _).alloc _).alloc _) from by go_grown).grown hgrow1 (by simp; omega) (fun k hk => by simp [Value.ownBlock] at hk; omega)⟩

set_option maxHeartbeats 2000000 in
theorem write_yes (c : M.Cmd) (w : World) (h : M.Fits c) (hf : c.fire = true) : Calls Tryz.prog 94 #[.agg #[.int .i64 c.seq, .bool c.fire, .int .i64 c.mv.x, .int .i64 c.mv.y, .int .i64 c.mv.z, .int .i64 c.aim.x, .int .i64 c.aim.y, .int .i64 c.aim.z, .int .i64 c.time]] w fun e w' => e = .returned (.string c.pack) ∧ Below w.heap.size w w' := by
  have HF : Hid (M.Fits c) := h
  have hF : M.fireN c.fire = 1 := by rw [hf]; rfl
  have hK := M.nums_sum c h
  have hR := M.nums_pack c h
  rw [hF] at hK hR
  obtain ⟨K, hK2⟩ : ∃ K, c.chk = K := ⟨_, rfl⟩
  rw [hK2] at hK hR
  have HK : Hid (M.sum8 (c.nums 1) = K) := hK
  have HR : Hid ((⟨((c.nums 1 ++ [K]).map M.b8).toArray⟩ : ByteArray) = c.pack) := hR
  have K1 : 0 ≤ K := by rw [← hK]; omega
  have K2 : K ≤ 255 := by rw [← hK]; omega
  have HB : Hid (∀ x ∈ c.nums 1, 0 ≤ x ∧ x ≤ 255) := M.nums_bd c h 1 (by omega) (by omega)
  obtain ⟨s1, s2, t1, t2, ⟨x1, x2, y1, y2, z1, z2⟩, ⟨u1, u2, v1, v2, k1, k2⟩⟩ := h
  obtain ⟨i0, hi0, hz0, hz1, hz2⟩ := info_parts infoByte
  clear hK hR hK2 hF
  have HQ : Hid (Blk ((w.alloc (.cells #[.int .i64 c.seq, .bool true, .int .i64 c.mv.x, .int .i64 c.mv.y, .int .i64 c.mv.z, .int .i64 c.aim.x, .int .i64 c.aim.y, .int .i64 c.aim.z, .int .i64 c.time] 50)).alloc (.cells ((c.nums 1).map (Value.int .u8)).toArray 5)) (w.heap.size + 1) ((c.nums 1).map (Value.int .u8)).toArray 5) := Blk.new (by simp)
  have HO : Hid (((w.alloc (.cells #[.int .i64 c.seq, .bool true, .int .i64 c.mv.x, .int .i64 c.mv.y, .int .i64 c.mv.z, .int .i64 c.aim.x, .int .i64 c.aim.y, .int .i64 c.aim.z, .int .i64 c.time] 50)).alloc (.cells ((c.nums 1).map (Value.int .u8)).toArray 5)).ownsRow w.heap.size 5 1 (.slice (some ⟨w.heap.size + 1, 0, none⟩) 13 13) 13 ((c.nums 1).map (Value.int .u8))) := row_lit HQ.out (by omega) (by simp [maxLen])
  rw [hf]
  go_enter Tryz.func94, Tryz.ntmps94
  go_wp2_with fail
  refine (psum_at (w.heap.size + 1) 13 13 (c.nums 1) _ rfl (by omega) ?_ ?_ K HK).mono ?_
  · intro k hk
    exact (HQ.out.cell k).trans (row13 _ rfl k hk)
  · intro k hk
    exact HB.out _ (M.getD_mem hk)
  rintro e w1 ⟨rfl, rfl⟩
  go_wp2_with (at_builtin; refine wpList_append_lies _ (by rfl) _ _ _ (by rfl) w.heap.size 5 i0 _ 1 1 Tryz.underlying79 hi0 hz0 hz1 hz2 rfl (by omega) (.slice (some ⟨w.heap.size + 1, 0, none⟩) 13 13) 13 ((c.nums 1).map (Value.int .u8)) (by rfl) (Go.World.ownsRow.alloc HO.out _) ⟨w.heap.size + 2, 0, none⟩ 1 1 [.int .u8 K] (by rfl) (by rfl) (World.news_of_block (cs := #[.int .u8 K]) (t := 5) (fr := (0, 0)) (Blk.new (by simp)).at_) (by simp [Value.oneCell']) (by omega) (by unfold maxLen; omega) (by omega) (by simp; omega) (w.heap.size + 3) (by simp) ?_; intro g1 cap1 w1 hown1 hgrow1 hat1 hlt1; have hconv := conv_row (l := (c.nums 1 ++ [K]).map M.b8) (row_b8 hown1 HB.out K1 K2); rw [HR.out] at hconv)
  go_ret
  exact ⟨rfl, (show Below w.heap.size w (((w.alloc _).alloc _).alloc _) from by go_grown).grown hgrow1 (by simp; omega) (fun k hk => by simp [Value.ownBlock] at hk; omega)⟩

theorem write_any (c : M.Cmd) (w : World) (h : M.Fits c) : Calls Tryz.prog 94 #[.agg #[.int .i64 c.seq, .bool c.fire, .int .i64 c.mv.x, .int .i64 c.mv.y, .int .i64 c.mv.z, .int .i64 c.aim.x, .int .i64 c.aim.y, .int .i64 c.aim.z, .int .i64 c.time]] w fun e w' => e = .returned (.string c.pack) ∧ Below w.heap.size w w' := by
  cases hf : c.fire
  · rw [← hf]; exact write_no c w h hf
  · rw [← hf]; exact write_yes c w h hf
end Go.Proofs.YtonmihojfcjmjaaGreat
