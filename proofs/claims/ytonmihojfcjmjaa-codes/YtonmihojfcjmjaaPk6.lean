/- Contracts of the document's answer: Encode. -/
import Derived.Test.YtonmihojfcjmjaaPk3
namespace Go.Proofs.Ytonmihojfcjmjaa
open Go.RowKit
set_option linter.unusedVariables false
attribute [local go_sem] cell_set_off cell_set_blk

theorem rsmall_is (p : M.V3) (w : World) (B : Bool) (h : Hid (M.smallB p = B)) :
    Calls Try.prog 53 #[.agg #[.int .i64 p.x, .int .i64 p.y, .int .i64 p.z]] w fun e w' => e = .returned (.bool B) ∧ Below w.heap.size w w' := by
  rw [← h.out]
  exact rsmall_any p w

theorem M.fits_cases (c : M.Cmd) (B1 B2 : Bool) (h : c.fitsB = false) (h1 : M.smallB c.mv = B1) (h2 : M.smallB c.aim = B2) :
    c.seq < 1 ∨ (¬ c.seq < 1 ∧ 65535 < c.seq) ∨ (¬ c.seq < 1 ∧ ¬ 65535 < c.seq ∧ B1 = false) ∨ (¬ c.seq < 1 ∧ ¬ 65535 < c.seq ∧ B1 = true ∧ B2 = false) ∨ (¬ c.seq < 1 ∧ ¬ 65535 < c.seq ∧ B1 = true ∧ B2 = true ∧ c.time < 0) ∨ (¬ c.seq < 1 ∧ ¬ 65535 < c.seq ∧ B1 = true ∧ B2 = true ∧ ¬ c.time < 0 ∧ 16777215 < c.time) := by
  unfold M.Cmd.fitsB M.Cmd.numB at h
  rw [h1, h2] at h
  cases B1 <;> cases B2 <;> simp at h <;> simp <;> omega

set_option maxHeartbeats 2000000 in
theorem rEncode_no (c : M.Cmd) (w : World) (h : c.fitsB = false) : Calls Try.prog 29 #[.agg #[.int .i64 c.seq, .bool c.fire, .int .i64 c.mv.x, .int .i64 c.mv.y, .int .i64 c.mv.z, .int .i64 c.aim.x, .int .i64 c.aim.y, .int .i64 c.aim.z, .int .i64 c.time]] w fun e w' => e = .returned (.tuple #[.string ⟨#[]⟩, .int .i64 5]) ∧ Below w.heap.size w w' := by
  obtain ⟨B1, hB1⟩ : ∃ B1, M.smallB c.mv = B1 := ⟨_, rfl⟩
  obtain ⟨B2, hB2⟩ : ∃ B2, M.smallB c.aim = B2 := ⟨_, rfl⟩
  have H1 : Hid (M.smallB c.mv = B1) := hB1
  have H2 : Hid (M.smallB c.aim = B2) := hB2
  have hcs := M.fits_cases c B1 B2 h hB1 hB2
  clear hB1 hB2 h
  rcases hcs with k1 | ⟨k1, k2⟩ | ⟨k1, k2, rfl⟩ | ⟨k1, k2, rfl, rfl⟩ | ⟨k1, k2, rfl, rfl, k3⟩ | ⟨k1, k2, rfl, rfl, k3, k4⟩
  all_goals
    go_enter Try.func29, Try.ntmps29
    go_wp2_with fail
    refine (rsmall_is c.mv _ _ H1).mono ?_
    rintro e w1 ⟨rfl, hb⟩
    have q0 := (show Blk _ w.heap.size #[.int .i64 c.seq, .bool c.fire, .int .i64 c.mv.x, .int .i64 c.mv.y, .int .i64 c.mv.z, .int .i64 c.aim.x, .int .i64 c.aim.y, .int .i64 c.aim.z, .int .i64 c.time] 50 from (by repeat' (first | (with_reducible assumption) | (refine Blk.new ?_; (first | (simp; done) | rfl); done) | (with_reducible refine Blk.alloc ?_) | (with_reducible refine Blk.drew ?_) | (with_reducible refine Blk.drewN ?_)))).after hb
    have hb1 : Below w.heap.size w w1 := bl (by go_grown) hb
    clear hb
    obtain ⟨a0, a1, a2, a3, a4, a5, a6, a7, a8, af, az⟩ := q0.nine
    go_wp2_with fail
    refine (rsmall_is c.aim _ _ H2).mono ?_
    rintro e w2 ⟨rfl, hb⟩
    replace q0 := q0.after hb
    have hb2 : Below w.heap.size w w2 := bl (by go_grown) hb
    clear hb a0 a1 a2 a3 a4 a5 a6 a7 a8 af az
    obtain ⟨a0, a1, a2, a3, a4, a5, a6, a7, a8, af, az⟩ := q0.nine
    go_wp2
    go_ret2
    exact ⟨rfl, by go_grown⟩

/-- The numbers that the document lays. -/
def M.Cmd.raw (c : M.Cmd) (f : Int) : List Int := [67, c.seq % 256, c.seq / 256, f, c.mv.x, c.mv.y, c.mv.z, c.aim.x, c.aim.y, c.aim.z, c.time % 256, c.time / 256 % 256, c.time / 65536]

theorem M.raw_bd (c : M.Cmd) (h : M.Fits c) (f : Int) (h1 : 0 ≤ f) (h2 : f ≤ 1) : ∀ x ∈ c.raw f, -128 ≤ x ∧ x ≤ 255 := by
  obtain ⟨s1, s2, t1, t2, ⟨_, _, _, _, _, _⟩, ⟨_, _, _, _, _, _⟩⟩ := h
  intro x hx
  simp only [M.Cmd.raw, List.mem_cons, List.not_mem_nil, or_false] at hx
  rcases hx with rfl | rfl | rfl | rfl | rfl | rfl | rfl | rfl | rfl | rfl | rfl | rfl | rfl <;> omega

theorem M.raw_nums (c : M.Cmd) (h : M.Fits c) (f : Int) (h1 : 0 ≤ f) (h2 : f ≤ 1) : (c.raw f).map (fun x => (x + 256) % 256) = c.nums f := by
  obtain ⟨s1, s2, t1, t2, ⟨_, _, _, _, _, _⟩, ⟨_, _, _, _, _, _⟩⟩ := h
  simp only [M.Cmd.raw, M.Cmd.nums, List.map_cons, List.map_nil, List.cons.injEq, and_true]
  refine ⟨?_, ?_, ?_, ?_, ?_, ?_, ?_, ?_, ?_, ?_, ?_, ?_, ?_⟩ <;> omega

theorem M.take_snoc {l : List Int} {j : Nat} (h : j < l.length) : l.take (j + 1) = l.take j ++ [l.getD j 0] := by
  rw [List.take_succ_eq_append_getElem h]
  simp [List.getD_eq_getElem?_getD, h]

theorem M.raw_step (c : M.Cmd) (h : M.Fits c) (f : Int) (h1 : 0 ≤ f) (h2 : f ≤ 1) (j : Nat) (hj : j < 13) : (c.nums f).getD j 0 = ((c.raw f).getD j 0 + 256) % 256 := by
  rw [← M.raw_nums c h f h1 h2]
  have hl : j < (c.raw f).length := hj
  simp [List.getD_eq_getElem?_getD, hl]

theorem M.take_bd {l : List Int} (h : ∀ x ∈ l, 0 ≤ x ∧ x ≤ 255) (j : Nat) : 0 ≤ (l.take j).sum ∧ (l.take j).sum ≤ 255 * (j : Int) := by
  induction j generalizing l with
  | zero => simp
  | succ j ih =>
    cases l with
    | nil => simp; omega
    | cons x l =>
      have := ih (l := l) (fun y hy => h y (by simp [hy]))
      have := h x (by simp)
      simp only [List.take_succ_cons, List.sum_cons]
      omega

theorem rowI {W : World} {b : Nat} {l : List Int} {t : TypeId} (q : Blk W b (l.map (Value.int .i64)).toArray t) (k : Nat) (hk : k < l.length) : W.cell? ⟨b, k, none⟩ = some (.int .i64 (l.getD k 0)) := by
  rw [q.cell k]
  simp [List.getD_eq_getElem?_getD, hk]

theorem row_own {W : World} {base e size n : Nat} {v : Value} {xs : List Value} (h : W.ownsRow base e size v n xs) : ∀ k, v.ownBlock = some k → base ≤ k := by
  intro k hk
  rcases h.2 with ⟨rfl, _⟩ | ⟨g', cap, cur, rfl, hb, _⟩
  · cases hk
  · have : g' = k := by simpa [Value.ownBlock] using hk
    omega

set_option maxRecDepth 100000 in
set_option maxHeartbeats 4000000 in
theorem rEncode_f (c : M.Cmd) (w : World) (h : M.Fits c) (hf : c.fire = false) : Calls Try.prog 29 #[.agg #[.int .i64 c.seq, .bool c.fire, .int .i64 c.mv.x, .int .i64 c.mv.y, .int .i64 c.mv.z, .int .i64 c.aim.x, .int .i64 c.aim.y, .int .i64 c.aim.z, .int .i64 c.time]] w fun e w' => e = .returned (.tuple #[.string c.pack, .int .i64 0]) ∧ Below w.heap.size w w' := by
  have HF : Hid (M.Fits c) := h
  have hF : M.fireN c.fire = 0 := by rw [hf]; rfl
  have hK := M.nums_sum c h
  have hR := M.nums_pack c h
  rw [hF] at hK hR
  obtain ⟨K, hK2⟩ : ∃ K, c.chk = K := ⟨_, rfl⟩
  rw [hK2] at hK hR
  have HK : Hid ((c.nums 0).sum % 256 = K) := hK
  have HR : Hid ((⟨((c.nums 0 ++ [K]).map M.b8).toArray⟩ : ByteArray) = c.pack) := hR
  have K1 : 0 ≤ K := by rw [← hK]; omega
  have K2 : K ≤ 255 := by rw [← hK]; omega
  have HB : Hid (∀ x ∈ c.nums 0, 0 ≤ x ∧ x ≤ 255) := M.nums_bd c h 0 (by omega) (by omega)
  have HW : Hid (∀ x ∈ c.raw 0, -128 ≤ x ∧ x ≤ 255) := M.raw_bd c h 0 (by omega) (by omega)
  have HS : Hid (∀ j, j < 13 → (c.nums 0).getD j 0 = ((c.raw 0).getD j 0 + 256) % 256) := M.raw_step c h 0 (by omega) (by omega)
  have H1 : Hid (M.smallB c.mv = true) := (M.smallB_iff _).2 h.mv
  have H2 : Hid (M.smallB c.aim = true) := (M.smallB_iff _).2 h.aim
  obtain ⟨s1, s2, t1, t2, ⟨x1, x2, y1, y2, z1, z2⟩, ⟨u1, u2, v1, v2, k1, k2⟩⟩ := h
  obtain ⟨i0, hi0, hz0, hz1, hz2⟩ := info_parts infoByte
  clear hK hR hK2 hF
  have d1 : decide (c.seq < 1) = false := by simp; omega
  have d2 : decide (65535 < c.seq) = false := by simp; omega
  have d3 : decide (c.time < 0) = false := by simp; omega
  have d4 : decide (16777215 < c.time) = false := by simp; omega
  rw [hf]
  go_enter Try.func29, Try.ntmps29
  go_wp2_with fail
  refine (rsmall_is c.mv _ _ H1).mono ?_
  rintro e w1 ⟨rfl, hb⟩
  have q0 := (show Blk _ w.heap.size #[.int .i64 c.seq, .bool false, .int .i64 c.mv.x, .int .i64 c.mv.y, .int .i64 c.mv.z, .int .i64 c.aim.x, .int .i64 c.aim.y, .int .i64 c.aim.z, .int .i64 c.time] 50 from (by repeat' (first | (with_reducible assumption) | (refine Blk.new ?_; (first | (simp; done) | rfl); done) | (with_reducible refine Blk.alloc ?_) | (with_reducible refine Blk.drew ?_) | (with_reducible refine Blk.drewN ?_)))).after hb
  have hb1 : Below w.heap.size w w1 := bl (by go_grown) hb
  clear hb
  obtain ⟨a0, a1, a2, a3, a4, a5, a6, a7, a8, af, az⟩ := q0.nine
  go_wp2_with fail
  refine (rsmall_is c.aim _ _ H2).mono ?_
  rintro e w2 ⟨rfl, hb⟩
  replace q0 := q0.after hb
  have hb2 : Below w.heap.size w w2 := bl (by go_grown) hb
  clear hb a0 a1 a2 a3 a4 a5 a6 a7 a8 af az
  obtain ⟨a0, a1, a2, a3, a4, a5, a6, a7, a8, af, az⟩ := q0.nine
  go_wp2_with fail
  have qr : Blk (w2.alloc (.cells ((c.raw 0).map (Value.int .i64)).toArray 3)) w2.heap.size ((c.raw 0).map (Value.int .i64)).toArray 3 := Blk.new rfl
  have B3 : Below w.heap.size w (w2.alloc (.cells ((c.raw 0).map (Value.int .i64)).toArray 3)) := by go_grown
  have e3 : (w2.alloc (.cells ((c.raw 0).map (Value.int .i64)).toArray 3)).heap.size = w2.heap.size + 1 := by simp
  change Code.wp _ _ _ _ (w2.alloc (.cells ((c.raw 0).map (Value.int .i64)).toArray 3))
  generalize w2.alloc (.cells ((c.raw 0).map (Value.int .i64)).toArray 3) = W3 at qr B3 e3 ⊢
  have HQ : Hid (Blk W3 w2.heap.size ((c.raw 0).map (Value.int .i64)).toArray 3) := qr
  clear qr a0 a1 a2 a3 a4 a5 a6 a7 a8 af az q0 hb1 hb2
  go_loopg [8, 9, 10] 14 (fun k u8 u9 u10 wr => ∃ (j : Nat), u9 = .int .i64 ((c.nums 0).take j).sum ∧ u10 = .int .i64 j ∧ j ≤ 13 ∧ k + j = 14 ∧ wr.ownsRow W3.heap.size 5 1 u8 j (((c.nums 0).take j).map (Value.int .u8)) ∧ Below W3.heap.size W3 wr)
  case atStart => exact ⟨0, rfl, rfl, Nat.zero_le _, rfl, ⟨rfl, .inl ⟨rfl, rfl⟩⟩, Below.refl _ _⟩
  case round =>
    obtain ⟨j, rfl, rfl, hj, hk, hO, hBW⟩ := hrel
    have hO2 : Hid (wr.ownsRow W3.heap.size 5 1 u8 j (((c.nums 0).take j).map (Value.int .u8))) := hO
    obtain ⟨S, hS⟩ : ∃ S, ((c.nums 0).take j).sum = S := ⟨_, rfl⟩
    have sb := M.take_bd HB.out j
    rw [hS] at sb
    obtain ⟨S1, S2⟩ := sb
    have HSS : Hid (((c.nums 0).take j).sum = S) := hS
    rw [hS]
    clear hS hO
    by_cases hlt : j < 13
    · have c0 := (rowI (HQ.out.after hBW) j hlt)
      have b0 := HW.out _ (M.getD_mem (l := c.raw 0) (k := j) hlt)
      have hst := HS.out j hlt
      have hyb := HB.out _ (M.getD_mem (l := c.nums 0) (k := j) hlt)
      have HT : Hid ((c.nums 0).take (j + 1) = (c.nums 0).take j ++ [(c.nums 0).getD j 0]) := M.take_snoc (l := c.nums 0) hlt
      generalize (c.raw 0).getD j 0 = y at c0 b0 hst
      generalize (c.nums 0).getD j 0 = x at hst hyb HT
      obtain ⟨b1, b2⟩ := b0
      have hst2 : x = y % 256 := by omega
      have HX : Hid (x = y % 256) := hst2
      rw [hst2] at hyb
      obtain ⟨v1, v2⟩ := hyb
      clear hst hst2
      have j0 : (0 : Int) ≤ (j : Int) := by omega
      have j1 : (j : Int) < 13 := by omega
      have S3 : S ≤ 3315 := by omega
      clear S2
      have hz : W3.heap.size ≤ wr.heap.size := hBW.size
      go_wp2_with (at_builtin; refine wpList_append_lies _ (by rfl) _ _ _ (by rfl) W3.heap.size 5 i0 _ 1 1 Try.underlying56 hi0 hz0 hz1 hz2 rfl (by omega) u8 j (((c.nums 0).take j).map (Value.int .u8)) (by rfl) (Go.World.ownsRow.alloc hO2.out _) ⟨wr.heap.size, 0, none⟩ 1 1 [.int .u8 (y % 256)] (by rfl) (by rfl) (World.news_of_block (cs := #[.int .u8 (y % 256)]) (t := 5) (fr := (0, 0)) (Blk.new rfl).at_) (by simp [Value.oneCell']) (by omega) (by unfold maxLen; omega) (by omega) (by simp; omega) (wr.heap.size + 1) (by simp) ?_; intro g1 cap1 w4 hown1 hgrow1 hat1 hlt1)
      go_roundg (gk - 1)
      case measure => omega
      case rel =>
        refine ⟨j + 1, ?_, by go_num, hlt, by omega, ?_, ?_⟩
        · rw [HT.out, List.sum_append, HSS.out, HX.out]; simp
        · rw [HT.out, List.map_append, HX.out]; exact hown1
        · exact (hBW.alloc hz _).grown hgrow1 (by simp; omega) (row_own hO2.out)
    · obtain rfl : j = 13 := by omega
      have e13 : (c.nums 0).take 13 = c.nums 0 := rfl
      rw [e13] at hO2 HSS
      have HK2 : Hid (S % 256 = K) := by unfold Hid; rw [← HSS.out]; exact HK.out
      have hz : W3.heap.size ≤ wr.heap.size := hBW.size
      have S3 : S ≤ 3315 := by omega
      clear S2 HSS
      go_wp2_with (at_builtin; rw [HK2.out]; refine wpList_append_lies _ (by rfl) _ _ _ (by rfl) W3.heap.size 5 i0 _ 1 1 Try.underlying56 hi0 hz0 hz1 hz2 rfl (by omega) u8 13 ((c.nums 0).map (Value.int .u8)) (by rfl) (Go.World.ownsRow.alloc hO2.out _) ⟨wr.heap.size, 0, none⟩ 1 1 [.int .u8 K] (by rfl) (by rfl) (World.news_of_block (cs := #[.int .u8 K]) (t := 5) (fr := (0, 0)) (Blk.new rfl).at_) (by simp [Value.oneCell']) (by omega) (by unfold maxLen; omega) (by omega) (by simp; omega) (wr.heap.size + 1) (by simp) ?_; intro g1 cap1 w4 hown1 hgrow1 hat1 hlt1; have hconv := conv_row (l := (c.nums 0 ++ [K]).map M.b8) (row_b8 hown1 HB.out K1 K2); rw [HR.out] at hconv)
      go_ret2
      exact ⟨rfl, bl B3 ((hBW.alloc hz _).grown hgrow1 (by simp; omega) (row_own hO2.out))⟩

set_option maxRecDepth 100000 in
set_option maxHeartbeats 4000000 in
theorem rEncode_t (c : M.Cmd) (w : World) (h : M.Fits c) (hf : c.fire = true) : Calls Try.prog 29 #[.agg #[.int .i64 c.seq, .bool c.fire, .int .i64 c.mv.x, .int .i64 c.mv.y, .int .i64 c.mv.z, .int .i64 c.aim.x, .int .i64 c.aim.y, .int .i64 c.aim.z, .int .i64 c.time]] w fun e w' => e = .returned (.tuple #[.string c.pack, .int .i64 0]) ∧ Below w.heap.size w w' := by
  have HF : Hid (M.Fits c) := h
  have hF : M.fireN c.fire = 1 := by rw [hf]; rfl
  have hK := M.nums_sum c h
  have hR := M.nums_pack c h
  rw [hF] at hK hR
  obtain ⟨K, hK2⟩ : ∃ K, c.chk = K := ⟨_, rfl⟩
  rw [hK2] at hK hR
  have HK : Hid ((c.nums 1).sum % 256 = K) := hK
  have HR : Hid ((⟨((c.nums 1 ++ [K]).map M.b8).toArray⟩ : ByteArray) = c.pack) := hR
  have K1 : 0 ≤ K := by rw [← hK]; omega
  have K2 : K ≤ 255 := by rw [← hK]; omega
  have HB : Hid (∀ x ∈ c.nums 1, 0 ≤ x ∧ x ≤ 255) := M.nums_bd c h 1 (by omega) (by omega)
  have HW : Hid (∀ x ∈ c.raw 1, -128 ≤ x ∧ x ≤ 255) := M.raw_bd c h 1 (by omega) (by omega)
  have HS : Hid (∀ j, j < 13 → (c.nums 1).getD j 0 = ((c.raw 1).getD j 0 + 256) % 256) := M.raw_step c h 1 (by omega) (by omega)
  have H1 : Hid (M.smallB c.mv = true) := (M.smallB_iff _).2 h.mv
  have H2 : Hid (M.smallB c.aim = true) := (M.smallB_iff _).2 h.aim
  obtain ⟨s1, s2, t1, t2, ⟨x1, x2, y1, y2, z1, z2⟩, ⟨u1, u2, v1, v2, k1, k2⟩⟩ := h
  obtain ⟨i0, hi0, hz0, hz1, hz2⟩ := info_parts infoByte
  clear hK hR hK2 hF
  have d1 : decide (c.seq < 1) = false := by simp; omega
  have d2 : decide (65535 < c.seq) = false := by simp; omega
  have d3 : decide (c.time < 0) = false := by simp; omega
  have d4 : decide (16777215 < c.time) = false := by simp; omega
  rw [hf]
  go_enter Try.func29, Try.ntmps29
  go_wp2_with fail
  refine (rsmall_is c.mv _ _ H1).mono ?_
  rintro e w1 ⟨rfl, hb⟩
  have q0 := (show Blk _ w.heap.size #[.int .i64 c.seq, .bool true, .int .i64 c.mv.x, .int .i64 c.mv.y, .int .i64 c.mv.z, .int .i64 c.aim.x, .int .i64 c.aim.y, .int .i64 c.aim.z, .int .i64 c.time] 50 from (by repeat' (first | (with_reducible assumption) | (refine Blk.new ?_; (first | (simp; done) | rfl); done) | (with_reducible refine Blk.alloc ?_) | (with_reducible refine Blk.drew ?_) | (with_reducible refine Blk.drewN ?_)))).after hb
  have hb1 : Below w.heap.size w w1 := bl (by go_grown) hb
  clear hb
  obtain ⟨a0, a1, a2, a3, a4, a5, a6, a7, a8, af, az⟩ := q0.nine
  go_wp2_with fail
  refine (rsmall_is c.aim _ _ H2).mono ?_
  rintro e w2 ⟨rfl, hb⟩
  replace q0 := q0.after hb
  have hb2 : Below w.heap.size w w2 := bl (by go_grown) hb
  clear hb a0 a1 a2 a3 a4 a5 a6 a7 a8 af az
  obtain ⟨a0, a1, a2, a3, a4, a5, a6, a7, a8, af, az⟩ := q0.nine
  go_wp2_with fail
  have qr : Blk (w2.alloc (.cells ((c.raw 1).map (Value.int .i64)).toArray 3)) w2.heap.size ((c.raw 1).map (Value.int .i64)).toArray 3 := Blk.new rfl
  have B3 : Below w.heap.size w (w2.alloc (.cells ((c.raw 1).map (Value.int .i64)).toArray 3)) := by go_grown
  have e3 : (w2.alloc (.cells ((c.raw 1).map (Value.int .i64)).toArray 3)).heap.size = w2.heap.size + 1 := by simp
  change Code.wp _ _ _ _ (w2.alloc (.cells ((c.raw 1).map (Value.int .i64)).toArray 3))
  generalize w2.alloc (.cells ((c.raw 1).map (Value.int .i64)).toArray 3) = W3 at qr B3 e3 ⊢
  have HQ : Hid (Blk W3 w2.heap.size ((c.raw 1).map (Value.int .i64)).toArray 3) := qr
  clear qr a0 a1 a2 a3 a4 a5 a6 a7 a8 af az q0 hb1 hb2
  go_loopg [8, 9, 10] 14 (fun k u8 u9 u10 wr => ∃ (j : Nat), u9 = .int .i64 ((c.nums 1).take j).sum ∧ u10 = .int .i64 j ∧ j ≤ 13 ∧ k + j = 14 ∧ wr.ownsRow W3.heap.size 5 1 u8 j (((c.nums 1).take j).map (Value.int .u8)) ∧ Below W3.heap.size W3 wr)
  case atStart => exact ⟨0, rfl, rfl, Nat.zero_le _, rfl, ⟨rfl, .inl ⟨rfl, rfl⟩⟩, Below.refl _ _⟩
  case round =>
    obtain ⟨j, rfl, rfl, hj, hk, hO, hBW⟩ := hrel
    have hO2 : Hid (wr.ownsRow W3.heap.size 5 1 u8 j (((c.nums 1).take j).map (Value.int .u8))) := hO
    obtain ⟨S, hS⟩ : ∃ S, ((c.nums 1).take j).sum = S := ⟨_, rfl⟩
    have sb := M.take_bd HB.out j
    rw [hS] at sb
    obtain ⟨S1, S2⟩ := sb
    have HSS : Hid (((c.nums 1).take j).sum = S) := hS
    rw [hS]
    clear hS hO
    by_cases hlt : j < 13
    · have c0 := (rowI (HQ.out.after hBW) j hlt)
      have b0 := HW.out _ (M.getD_mem (l := c.raw 1) (k := j) hlt)
      have hst := HS.out j hlt
      have hyb := HB.out _ (M.getD_mem (l := c.nums 1) (k := j) hlt)
      have HT : Hid ((c.nums 1).take (j + 1) = (c.nums 1).take j ++ [(c.nums 1).getD j 0]) := M.take_snoc (l := c.nums 1) hlt
      generalize (c.raw 1).getD j 0 = y at c0 b0 hst
      generalize (c.nums 1).getD j 0 = x at hst hyb HT
      obtain ⟨b1, b2⟩ := b0
      have hst2 : x = y % 256 := by omega
      have HX : Hid (x = y % 256) := hst2
      rw [hst2] at hyb
      obtain ⟨v1, v2⟩ := hyb
      clear hst hst2
      have j0 : (0 : Int) ≤ (j : Int) := by omega
      have j1 : (j : Int) < 13 := by omega
      have S3 : S ≤ 3315 := by omega
      clear S2
      have hz : W3.heap.size ≤ wr.heap.size := hBW.size
      go_wp2_with (at_builtin; refine wpList_append_lies _ (by rfl) _ _ _ (by rfl) W3.heap.size 5 i0 _ 1 1 Try.underlying56 hi0 hz0 hz1 hz2 rfl (by omega) u8 j (((c.nums 1).take j).map (Value.int .u8)) (by rfl) (Go.World.ownsRow.alloc hO2.out _) ⟨wr.heap.size, 0, none⟩ 1 1 [.int .u8 (y % 256)] (by rfl) (by rfl) (World.news_of_block (cs := #[.int .u8 (y % 256)]) (t := 5) (fr := (0, 0)) (Blk.new rfl).at_) (by simp [Value.oneCell']) (by omega) (by unfold maxLen; omega) (by omega) (by simp; omega) (wr.heap.size + 1) (by simp) ?_; intro g1 cap1 w4 hown1 hgrow1 hat1 hlt1)
      go_roundg (gk - 1)
      case measure => omega
      case rel =>
        refine ⟨j + 1, ?_, by go_num, hlt, by omega, ?_, ?_⟩
        · rw [HT.out, List.sum_append, HSS.out, HX.out]; simp
        · rw [HT.out, List.map_append, HX.out]; exact hown1
        · exact (hBW.alloc hz _).grown hgrow1 (by simp; omega) (row_own hO2.out)
    · obtain rfl : j = 13 := by omega
      have e13 : (c.nums 1).take 13 = c.nums 1 := rfl
      rw [e13] at hO2 HSS
      have HK2 : Hid (S % 256 = K) := by unfold Hid; rw [← HSS.out]; exact HK.out
      have hz : W3.heap.size ≤ wr.heap.size := hBW.size
      have S3 : S ≤ 3315 := by omega
      clear S2 HSS
      go_wp2_with (at_builtin; rw [HK2.out]; refine wpList_append_lies _ (by rfl) _ _ _ (by rfl) W3.heap.size 5 i0 _ 1 1 Try.underlying56 hi0 hz0 hz1 hz2 rfl (by omega) u8 13 ((c.nums 1).map (Value.int .u8)) (by rfl) (Go.World.ownsRow.alloc hO2.out _) ⟨wr.heap.size, 0, none⟩ 1 1 [.int .u8 K] (by rfl) (by rfl) (World.news_of_block (cs := #[.int .u8 K]) (t := 5) (fr := (0, 0)) (Blk.new rfl).at_) (by simp [Value.oneCell']) (by omega) (by unfold maxLen; omega) (by omega) (by simp; omega) (wr.heap.size + 1) (by simp) ?_; intro g1 cap1 w4 hown1 hgrow1 hat1 hlt1; have hconv := conv_row (l := (c.nums 1 ++ [K]).map M.b8) (row_b8 hown1 HB.out K1 K2); rw [HR.out] at hconv)
      go_ret2
      exact ⟨rfl, bl B3 ((hBW.alloc hz _).grown hgrow1 (by simp; omega) (row_own hO2.out))⟩

theorem rEncode_any (c : M.Cmd) (w : World) : Calls Try.prog 29 #[.agg #[.int .i64 c.seq, .bool c.fire, .int .i64 c.mv.x, .int .i64 c.mv.y, .int .i64 c.mv.z, .int .i64 c.aim.x, .int .i64 c.aim.y, .int .i64 c.aim.z, .int .i64 c.time]] w fun e w' => e = .returned (.tuple #[.string (M.encS c), .int .i64 (M.encE c)]) ∧ Below w.heap.size w w' := by
  cases hB : c.fitsB
  · have e1 : M.encS c = ⟨#[]⟩ := by unfold M.encS; rw [hB]; rfl
    have e2 : M.encE c = 5 := by unfold M.encE; rw [hB]; rfl
    rw [e1, e2]
    exact rEncode_no c w hB
  · have e1 : M.encS c = c.pack := by unfold M.encS; rw [hB]; rfl
    have e2 : M.encE c = 0 := by unfold M.encE; rw [hB]; rfl
    rw [e1, e2]
    cases hf : c.fire
    · rw [← hf]; exact rEncode_f c w ((M.fitsB_iff c).1 hB) hf
    · rw [← hf]; exact rEncode_t c w ((M.fitsB_iff c).1 hB) hf

end Go.Proofs.Ytonmihojfcjmjaa
