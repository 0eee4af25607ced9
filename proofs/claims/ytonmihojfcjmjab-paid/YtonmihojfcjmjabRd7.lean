import Derived.Test.YtonmihojfcjmjabRd6
import Derived.Test.YtonmihojfcjmjabBK
/- Contracts: Read, Check. -/
namespace Go.Proofs.Ytonmihojfcjmjab
open Go.RowKit
set_option linter.unusedVariables false
attribute [local go_sem] cell_set_off cell_set_blk
attribute [local go_sem ↓] big65 big65'

/-- The cells of a map: its leaves, its pairs. -/
def mapC (v : Value) (ps : Nat → Bool) : Nat → Value
  | 0 => v
  | i + 1 => .bool (ps i)
/-- These are a map's cells. -/
structure MapIs (cs : Array Value) (v : Value) (ps : Nat → Bool) : Prop where
  is : cs = cellsOf 65 (mapC v ps)
theorem MapIs.at0 {cs : Array Value} {v : Value} {ps : Nat → Bool} (h : MapIs cs v ps) : cs[0]? = some v := by rw [h.is]; exact cellsOf_get _ (by omega)

theorem zeroReader : Try.zeroCells101 = cellsOf 69 (rdC ⟨#[]⟩ ⟨0, 0, 0, []⟩ (.slice none 0 0) M.noPairs) := by kernel_rfl
theorem zeroMap : Try.zeroCells70 = cellsOf 65 (mapC (.slice none 0 0) M.noPairs) := by kernel_rfl

/-- What Read gives back. -/
def ReadPost (s : ByteArray) (w : World) (r : Ending) (w' : World) : Prop := ∃ (e k : Int) (cs : Array Value), r = .returned (.tuple #[.agg cs, .int .i64 e, .int .i64 k]) ∧ (cs.size = 65 ∧ ∀ v ∈ cs.toList, v.oneCell' = true) ∧ M.errS s = (e, k) ∧
  (e = 0 → ∃ (x : Option Addr) (n cap : Nat), MapIs cs (.slice x n cap) (M.prs s) ∧ w'.ownsRow w.heap.size 154 7 (.slice x n cap) (M.top s).2.leaves.length (flat (M.top s).2.leaves)) ∧ Below w.heap.size w w'

theorem ReadPost.bad {s : ByteArray} {w w' : World} {e k : Int} {cs : Array Value} (h : M.errS s = (e, k)) (he : e ≠ 0) (hc : cs.size = 65 ∧ ∀ v ∈ cs.toList, v.oneCell' = true) (hb : Below w.heap.size w w') : ReadPost s w (.returned (.tuple #[.agg cs, .int .i64 e, .int .i64 k])) w' :=
  ⟨e, k, cs, rfl, hc, h, fun x => absurd x he, hb⟩
theorem errS_long {s : ByteArray} (h : 512 < s.size) : M.errS s = (2, 0) := by unfold M.errS; rw [if_pos h]
theorem errS_tree {s : ByteArray} (h : s.size ≤ 512) (h1 : (M.top s).1 = false) : M.errS s = (3, ((M.top s).2.place : Int)) := by unfold M.errS; rw [if_neg (by omega), if_pos h1]
theorem errS_pair {s : ByteArray} {k : Nat} (h : s.size ≤ 512) (h1 : (M.top s).1 = true) (h2 : M.pairsF s (s.size + 1) (M.top s).2.place = some k) : M.errS s = (3, (k : Int)) := by
  unfold M.errS; rw [if_neg (by omega), if_neg (by simp [h1]), h2]
theorem errS_none {s : ByteArray} (h : s.size ≤ 512) (h1 : (M.top s).1 = true) (h2 : M.pairsF s (s.size + 1) (M.top s).2.place = none) : M.errS s = if 0 ≤ (M.top s).2.wrong then (4, (M.top s).2.wrong) else (0, 0) := by
  unfold M.errS; rw [if_neg (by omega), if_neg (by simp [h1]), h2]

theorem Fr.toBelow {B R : Nat} {v v' : Value} {w W W' : World} (hw : Below B w W) (hB : B ≤ W.heap.size) (h : Fr R v W W' v') (hR : B ≤ R) (hv : ∀ g, v.ownBlock = some g → B ≤ g) : Below B w W' := by
  refine hw.trans ⟨h.os, h.tape, h.output, h.size, fun k hk => h.block k (by omega) (by omega) (fun e => ?_)⟩
  have := hv k e.symm
  omega

theorem reader_cells (s : ByteArray) : (Try.zeroCells101.toList.set 0 (.string s)).set 3 (.int .i64 (-1)) = (cellsOf 69 (rdC s M.st0 (.slice none 0 0) M.noPairs)).toList := by
  rw [zeroReader, cellsOf_toList_set, cellsOf_toList_set]
  exact congrArg Array.toList (cellsOf_congr (fun j _ => by match j with | 0 => rfl | 1 => rfl | 2 => rfl | 3 => rfl | 4 => rfl | j + 5 => simp [rdC]))
theorem rdC_one (s : ByteArray) (st : M.St) (x : Option Addr) (n cap : Nat) (ps : Nat → Bool) : ∀ i, i < 69 → (rdC s st (.slice x n cap) ps i).oneCell' = true := fun j _ => by match j with | 0 => rfl | 1 => rfl | 2 => rfl | 3 => rfl | 4 => rfl | j + 5 => rfl
theorem mapC_one (x : Option Addr) (n cap : Nat) (ps : Nat → Bool) : ∀ i, i < 65 → (mapC (.slice x n cap) ps i).oneCell' = true := fun j _ => by match j with | 0 => rfl | j + 1 => rfl
theorem zeroMap_one : ∀ v ∈ Try.zeroCells70.toList, v.oneCell' = true := by rw [zeroMap]; exact cellsOf_one (mapC_one _ _ _ _)

/-- A result that is a whole variable, and two more. -/
theorem results_map {fn : Func} {p u v : Tmp} (h : fn.results = #[.cell p 70, .tmp u, .tmp v]) (tmps : Array Value) (w : World) (g : Nat) (cs : Array Value)
    (hp : tmps.getD p undef = .pointer (some ⟨g, 0, none⟩)) (q : Blk w g cs 70) (hc : cs.size = 65) : (results fn tmps).run Try.prog w = .ok (.tuple #[.agg cs, tmps.getD u undef, tmps.getD v undef]) w := by
  have hp' : tmps[p]?.getD undef = .pointer (some ⟨g, 0, none⟩) := by simpa using hp
  have hl := run_loadVar_row (P := Try.prog) w g 70 70 cs (0, 0) _ q.at_ Try.underlying70 rfl (by rw [hc]; kernel_rfl)
  simp [results, h, hp', asAddr, hl]

set_option maxHeartbeats 1000000 in
theorem read_long (s : ByteArray) (w : World) (h : 512 < s.size) (hm : s.size ≤ maxLen) : Calls Try.prog 27 #[.string s] w (ReadPost s w) := by
  have E : Hid (M.errS s = (2, 0)) := errS_long h
  have hc : decide ((512 : Int) < (s.size : Int)) = true := by simp; omega
  unfold maxLen at hm
  obtain ⟨W1, hst, q0, ho⟩ := store_new (P := Try.prog) (show Blk (w.alloc (.cells Try.zeroCells70 70)) w.heap.size Try.zeroCells70 70 from Blk.new rfl) Try.zeroCells70.toList (by simp) zeroMap_one
  have hb : Below w.heap.size w W1 := On.toBelow (by go_grown) (by simp) ho (Nat.le_refl _)
  have c0 : Hid (Blk W1 w.heap.size Try.zeroCells70 70) := by unfold Hid; simpa using q0
  clear ho
  go_enter Try.func27, Try.ntmps27
  go_wp2
  exact bodyPost_ret (v := .tuple #[.agg Try.zeroCells70, .int .i64 2, .int .i64 0]) (results_map Try.results27 _ _ _ _ rfl c0.out Try.zeroCells70_size) rfl (.bad E.out (by omega) ⟨Try.zeroCells70_size, zeroMap_one⟩ hb)

set_option maxHeartbeats 1000000 in
theorem read_short (s : ByteArray) (w : World) (hs : s.size ≤ 512) : Calls Try.prog 27 #[.string s] w (ReadPost s w) := by
  have HI : Hid ((M.top s).2.Inv s) := M.top_inv s
  obtain ⟨W1, hst, q1, ho⟩ := store_new (P := Try.prog) (show Blk ((w.alloc (.cells Try.zeroCells70 70)).alloc (.cells Try.zeroCells101 101)) (w.heap.size + 1) Try.zeroCells101 101 from Blk.new (by simp)) ((Try.zeroCells101.toList.set 0 (.string s)).set 3 (.int .i64 (-1))) (by simp) (by rw [reader_cells]; exact cellsOf_one (rdC_one _ _ _ _ _ _))
  have q1' : Blk W1 (w.heap.size + 1) (cellsOf 69 (rdC s M.st0 (.slice none 0 0) M.noPairs)) 101 := by rw [reader_cells] at q1; exact q1
  have q0 : Blk W1 w.heap.size Try.zeroCells70 70 := (show Blk ((w.alloc (.cells Try.zeroCells70 70)).alloc (.cells Try.zeroCells101 101)) w.heap.size Try.zeroCells70 70 from (Blk.new rfl).alloc).on ho (by omega)
  have B1 : Below w.heap.size w W1 := On.toBelow (by go_grown) (by simp; omega) ho (by omega)
  clear q1 ho
  have z1 := q1'.lt
  go_enter Try.func27, Try.ntmps27
  go_wp2_with fail
  refine (readMap_any (w.heap.size + 1) s (.slice none 0 0) _ ⟨q1', ⟨rfl, .inl ⟨rfl, rfl⟩⟩, by simp [Value.ownBlock]⟩ hs).mono ?_
  rintro rr W ⟨b, k, v', ps, rfl, H, F, hR, hP⟩
  replace q0 := q0.fr F (by omega) (by simp [Value.ownBlock])
  have hb : Below w.heap.size w W := F.toBelow B1 (by omega) (by omega) (by simp [Value.ownBlock])
  have hvne : Hid (∀ g, v'.ownBlock = some g → g ≠ w.heap.size) := by
    intro g hg
    rcases F.row with e | ⟨x, e, hx⟩
    · rw [e] at hg; cases hg
    · rw [e] at hg
      have : x = g := by simpa using hg
      omega
  have hvge : Hid (∀ g, v'.ownBlock = some g → w.heap.size ≤ g) := by
    intro g hg
    rcases F.row with e | ⟨x, e, hx⟩
    · rw [e] at hg; cases hg
    · rw [e] at hg
      have : x = g := by simpa using hg
      omega
  have HR : Hid (MapR s b k) := hR
  have HPS : Hid (b = true → ps = M.prs s) := hP
  clear F hR hP hst q1' B1 z1
  obtain ⟨k0, k1, k2, k3, k4, kf, kl⟩ := H.blk.five
  have cf := q0.frozen
  cases b
  · have E : Hid (M.errS s = (3, (k : Int))) := by
      rcases HR.out with ⟨_, ⟨h1, rfl⟩ | ⟨h1, h2⟩⟩ | ⟨h, _⟩
      · exact errS_tree hs h1
      · exact errS_pair hs h1 h2
      · cases h
    clear HR HPS
    simp only [M.St.goto] at k1 k2 k3
    clear H
    have hst : (storeCells ⟨w.heap.size, 0, none⟩ Try.zeroCells70.toList 0).run Try.prog W.drew = .ok () W.drew := store_same (q0.same rfl) zeroMap_one
    have c0 := hid q0
    go_wp2
    go_region
    all_goals go_wp2
    all_goals exact bodyPost_ret (v := .tuple #[.agg Try.zeroCells70, .int .i64 3, .int .i64 k]) (results_map Try.results27 _ _ _ _ rfl (c0.out.same rfl) Try.zeroCells70_size) rfl (.bad E.out (by omega) ⟨Try.zeroCells70_size, zeroMap_one⟩ (by go_grown))
  · have E : Hid (M.errS s = if 0 ≤ (M.top s).2.wrong then (4, (M.top s).2.wrong) else (0, 0)) := by
      rcases HR.out with ⟨h, _⟩ | ⟨_, h1, h2⟩
      · cases h
      · exact errS_none hs h1 h2
    clear HR
    obtain rfl := HPS.out rfl
    simp only [M.St.goto] at k1 k2 k3
    have hw := HI.out.w1
    by_cases hz : 0 ≤ (M.top s).2.wrong
    · have E2 : Hid (M.errS s = (4, (M.top s).2.wrong)) := by unfold Hid; rw [E.out, if_pos hz]
      clear H E HPS
      generalize (M.top s).2.wrong = x at *
      have hx : (x != -1) = true := by rw [bne_iff_ne]; omega
      have hst : (storeCells ⟨w.heap.size, 0, none⟩ Try.zeroCells70.toList 0).run Try.prog W.drew = .ok () W.drew := store_same (q0.same rfl) zeroMap_one
      have c0 := hid q0
      clear hw hz
      go_wp2
      go_region
      all_goals go_wp2
      all_goals exact bodyPost_ret (v := .tuple #[.agg Try.zeroCells70, .int .i64 4, .int .i64 x]) (results_map Try.results27 _ _ _ _ rfl (c0.out.same rfl) Try.zeroCells70_size) rfl (.bad E2.out (by omega) ⟨Try.zeroCells70_size, zeroMap_one⟩ (by go_grown))
    · have E2 : Hid (M.errS s = (0, 0)) := by unfold Hid; rw [E.out, if_neg hz]
      have hx : (M.top s).2.wrong = -1 := by omega
      rw [hx] at k3
      have HO : Hid (W.ownsRow 0 154 7 v' (M.top s).2.leaves.length (flat (M.top s).2.leaves)) := H.own
      obtain ⟨x, n, cap, rfl⟩ : ∃ x n cap, v' = .slice x n cap := by
        rcases HO.out.2 with ⟨e, _⟩ | ⟨g, cap, _, e, _⟩
        · exact ⟨_, _, _, e⟩
        · exact ⟨_, _, _, e⟩
      have hld : (big 65 ⟨w.heap.size + 1, 4, none⟩).run Try.prog W = .ok (cellsOf 65 (mapC (.slice x n cap) (M.prs s))) W :=
        big_range (fun j hj => by rw [H.blk.cellC (4 + j) (by omega)]; match j with | 0 => rfl | j + 1 => rw [show 4 + (j + 1) = j + 5 by omega]; rfl)
      obtain ⟨W2, hst, q2, ho⟩ := store_new (P := Try.prog) q0 (cellsOf 65 (mapC (.slice x n cap) (M.prs s))).toList (by simp [cellsOf_size]) (cellsOf_one (mapC_one _ _ _ _))
      have hsz : (cellsOf 65 (mapC (.slice x n cap) (M.prs s))).size = 65 := cellsOf_size _ _
      have h1c : ∀ v ∈ (cellsOf 65 (mapC (.slice x n cap) (M.prs s))).toList, v.oneCell' = true := cellsOf_one (mapC_one _ _ _ _)
      have hb2 : Below w.heap.size w W2 := On.toBelow hb hb.size ho (Nat.le_refl _)
      have O2 : Hid (W2.ownsRow 0 154 7 (.slice x n cap) (M.top s).2.leaves.length (flat (M.top s).2.leaves)) := own_of HO.out (fun g hg => ho.block g (own_lt HO.out hg) (hvne.out g hg))
      have HM := hid (MapIs.mk (cs := cellsOf 65 (mapC (.slice x n cap) (M.prs s))) (v := .slice x n cap) (ps := M.prs s) rfl)
      generalize cellsOf 65 (mapC (.slice x n cap) (M.prs s)) = cs at *
      have c0 : Hid (Blk W2 w.heap.size cs 70) := by unfold Hid; simpa using q2
      clear E hw hz hx H HO HPS ho q0
      go_wp2
      exact bodyPost_ret (v := .tuple #[.agg cs, .int .i64 0, .int .i64 0]) (results_map Try.results27 _ _ _ _ rfl c0.out hsz) rfl ⟨0, 0, cs, rfl, ⟨hsz, h1c⟩, E2.out, fun _ => ⟨x, n, cap, HM.out, own_base O2.out hvge.out⟩, hb2⟩

theorem read_any (s : ByteArray) (w : World) (hm : s.size ≤ maxLen) : Calls Try.prog 27 #[.string s] w (ReadPost s w) := by
  by_cases h : 512 < s.size
  · exact read_long s w h hm
  · exact read_short s w (by omega)

/-- A map is laid into a variable of its own. -/
theorem keep_map (W : World) (cs : Array Value) (h : cs.size = 65 ∧ ∀ v ∈ cs.toList, v.oneCell' = true) : ∃ W2, (storeCells ⟨W.heap.size, 0, none⟩ cs.toList 0).run Try.prog (W.alloc (.cells Try.zeroCells70 70)) = .ok () W2 ∧ Blk W2 W.heap.size cs 70 ∧ Below W.heap.size W W2 ∧ W.heap.size < W2.heap.size := by
  obtain ⟨W2, h1, h2, h3⟩ := store_new (P := Try.prog) (show Blk (W.alloc (.cells Try.zeroCells70 70)) W.heap.size Try.zeroCells70 70 from Blk.new rfl) cs.toList (by rw [Try.zeroCells70_size]; simpa using h.1) h.2
  have h2' : Blk W2 W.heap.size cs 70 := by simpa using h2
  exact ⟨W2, h1, h2', On.toBelow (by go_grown) (by simp) h3 (Nat.le_refl _), h2'.lt⟩

/-- What Check gives back. -/
def CheckPost (s : ByteArray) (w : World) (r : Ending) (w' : World) : Prop := ∃ e k : Int, r = .returned (.tuple #[.int .i64 e, .int .i64 k]) ∧ M.errS s = (e, k) ∧ Below w.heap.size w w'


end Go.Proofs.Ytonmihojfcjmjab
