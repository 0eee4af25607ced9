import Derived.Test.YtonmihojfcjmjaaGreatBPl
/- Contracts of the document's answer: Encode. -/
namespace Go.Proofs.YtonmihojfcjmjaaGreat
open Go.RowKit
set_option linter.unusedVariables false
attribute [local go_sem] cell_set_off cell_set_blk

theorem rsmall_is (p : M.V3) (w : World) (B : Bool) (h : Hid (M.smallB p = B)) :
    Calls Tryz.prog 77 #[.agg #[.int .i64 p.x, .int .i64 p.y, .int .i64 p.z]] w fun e w' => e = .returned (.bool B) ∧ Below w.heap.size w w' := by
  rw [← h.out]
  exact rsmall_any p w

theorem M.fits_cases (c : M.Cmd) (B1 B2 : Bool) (h : c.fitsB = false) (h1 : M.smallB c.mv = B1) (h2 : M.smallB c.aim = B2) :
    c.seq < 1 ∨ (¬ c.seq < 1 ∧ 65535 < c.seq) ∨ (¬ c.seq < 1 ∧ ¬ 65535 < c.seq ∧ B1 = false) ∨ (¬ c.seq < 1 ∧ ¬ 65535 < c.seq ∧ B1 = true ∧ B2 = false) ∨ (¬ c.seq < 1 ∧ ¬ 65535 < c.seq ∧ B1 = true ∧ B2 = true ∧ c.time < 0) ∨ (¬ c.seq < 1 ∧ ¬ 65535 < c.seq ∧ B1 = true ∧ B2 = true ∧ ¬ c.time < 0 ∧ 16777215 < c.time) := by
  unfold M.Cmd.fitsB M.Cmd.numB at h
  rw [h1, h2] at h
  cases B1 <;> cases B2 <;> simp at h <;> simp <;> omega

set_option maxHeartbeats 2000000 in
theorem rEncode_no (c : M.Cmd) (w : World) (h : c.fitsB = false) : Calls Tryz.prog 60 #[.agg #[.int .i64 c.seq, .bool c.fire, .int .i64 c.mv.x, .int .i64 c.mv.y, .int .i64 c.mv.z, .int .i64 c.aim.x, .int .i64 c.aim.y, .int .i64 c.aim.z, .int .i64 c.time]] w fun e w' => e = .returned (.tuple #[.string ⟨#[]⟩, .int .i64 5]) ∧ Below w.heap.size w w' := by
  obtain ⟨B1, hB1⟩ : ∃ B1, M.smallB c.mv = B1 := ⟨_, rfl⟩
  obtain ⟨B2, hB2⟩ : ∃ B2, M.smallB c.aim = B2 := ⟨_, rfl⟩
  have H1 : Hid (M.smallB c.mv = B1) := hB1
  have H2 : Hid (M.smallB c.aim = B2) := hB2
  have hcs := M.fits_cases c B1 B2 h hB1 hB2
  clear hB1 hB2 h
  rcases hcs with k1 | ⟨k1, k2⟩ | ⟨k1, k2, rfl⟩ | ⟨k1, k2, rfl, rfl⟩ | ⟨k1, k2, rfl, rfl, k3⟩ | ⟨k1, k2, rfl, rfl, k3, k4⟩
  all_goals
    go_enter Tryz.func60, Tryz.ntmps60
    go_wp2_with fail
    refine (rsmall_is c.mv _ _ H1).mono ?_
    rintro e w1 ⟨rfl, hb⟩
    have q0 := (show Blk _ w.heap.size #[.int .i64 c.seq, .bool c.fire, .int .i64 c.mv.x, .int .i64 c.mv.y, .int .i64 c.mv.z, .int .i64 c.aim.x, .int .i64 c.aim.y, .int .i64 c.aim.z, .int .i64 c.time] 50 from (by repeat' (first | (with_reducible assumption) | (refine Blk.new ?_; (first | (simp; done) | rfl); done) | (with_reducible refine Blk.alloc ?_) | (with_reducible refine Blk.drew ?_) | (with_reducible refine Blk.drewN ?_)))).after hb
    have hb1 : Below w.heap.size w w1 := bl (by go_grown) hb
    clear hb
    obtain ⟨a0, a1, a2, a3, a4, a5, a6, a7, a8, af, az⟩ := q0.nine
    go_wp2_with fail
    refine (rsmall_is c.aim _ _ H2).mono ?_
    rintro e w2 ⟨rfl, hb⟩
    replace q0 := q0.after hb
    have hb2 : Below w.heap.size w w2 := bl (by go_grown) hb
    clear hb a0 a1 a2 a3 a4 a5 a6 a7 a8 af az
    obtain ⟨a0, a1, a2, a3, a4, a5, a6, a7, a8, af, az⟩ := q0.nine
    go_wp2
    go_ret2
    exact ⟨rfl, by go_grown⟩

/-- The numbers that the document lays. -/
def M.Cmd.raw (c : M.Cmd) (f : Int) : List Int := [67, c.seq % 256, c.seq / 256, f, c.mv.x, c.mv.y, c.mv.z, c.aim.x, c.aim.y, c.aim.z, c.time % 256, c.time / 256 % 256, c.time / 65536]

theorem M.raw_bd (c : M.Cmd) (h : M.Fits c) (f : Int) (h1 : 0 ≤ f) (h2 : f ≤ 1) : ∀ x ∈ c.raw f, -128 ≤ x ∧ x ≤ 255 := by
  obtain ⟨s1, s2, t1, t2, ⟨_, _, _, _, _, _⟩, ⟨_, _, _, _, _, _⟩⟩ := h
  intro x hx
  simp only [M.Cmd.raw, List.mem_cons, List.not_mem_nil, or_false] at hx
  rcases hx with rfl | rfl | rfl | rfl | rfl | rfl | rfl | rfl | rfl | rfl | rfl | rfl | rfl <;> omega

theorem M.raw_nums (c : M.Cmd) (h : M.Fits c) (f : Int) (h1 : 0 ≤ f) (h2 : f ≤ 1) : (c.raw f).map (fun x => (x + 256) % 256) = c.nums f := by
  obtain ⟨s1, s2, t1, t2, ⟨_, _, _, _, _, _⟩, ⟨_, _, _, _, _, _⟩⟩ := h
  simp only [M.Cmd.raw, M.Cmd.nums, List.map_cons, List.map_nil, List.cons.injEq, and_true]
  refine ⟨?_, ?_, ?_, ?_, ?_, ?_, ?_, ?_, ?_, ?_, ?_, ?_, ?_⟩ <;> omega

theorem M.take_snoc {l : List Int} {j : Nat} (h : j < l.length) : l.take (j + 1) = l.take j ++ [l.getD j 0] := by
  rw [List.take_succ_eq_append_getElem h]
  simp [List.getD_eq_getElem?_getD, h]

theorem M.raw_step (c : M.Cmd) (h : M.Fits c) (f : Int) (h1 : 0 ≤ f) (h2 : f ≤ 1) (j : Nat) (hj : j < 13) : (c.nums f).getD j 0 = ((c.raw f).getD j 0 + 256) % 256 := by
  rw [← M.raw_nums c h f h1 h2]
  have hl : j < (c.raw f).length := hj
  simp [List.getD_eq_getElem?_getD, hl]

theorem M.take_bd {l : List Int} (h : ∀ x ∈ l, 0 ≤ x ∧ x ≤ 255) (j : Nat) : 0 ≤ (l.take j).sum ∧ (l.take j).sum ≤ 255 * (j : Int) := by
  induction j generalizing l with
  | zero => simp
  | succ j ih =>
    cases l with
    | nil => simp; omega
    | cons x l =>
      have := ih (l := l) (fun y hy => h y (by simp [hy]))
      have := h x (by simp)
      simp only [List.take_succ_cons, List.sum_cons]
      omega

theorem rowI {W : World} {b : Nat} {l : List Int} {t : TypeId} (q : Blk W b (l.map (Value.int .i64)).toArray t) (k : Nat) (hk : k < l.length) : W.cell? ⟨b, k, none⟩ = some (.int .i64 (l.getD k 0)) := by
  rw [q.cell k]
  simp [List.getD_eq_getElem?_getD, hk]

theorem row_own {W : World} {base e size n : Nat} {v : Value} {xs : List Value} (h : W.ownsRow base e size v n xs) : ∀ k, v.ownBlock = some k → base ≤ k := by
  intro k hk
  rcases h.2 with ⟨rfl, _⟩ | ⟨g', cap, cur, rfl, hb, _⟩
  · cases hk
  · have : g' = k := by simpa [Value.ownBlock] using hk
    omega

set_option maxRecDepth 100000 in
set_option maxHeartbeats 4000000 in
theorem rEncode_f (c : M.Cmd) (w : World) (h : M.Fits c) (hf : c.fire = false) : Calls Tryz.prog 60 #[.agg #[.int .i64 c.seq, .bool c.fire, .int .i64 c.mv.x, .int .i64 c.mv.y, .int .i64 c.mv.z, .int .i64 c.aim.x, .int .i64 c.aim.y, .int .i64 c.aim.z, .int .i64 c.time]] w fun e w' => e = .returned (.tuple #[.string c.pack, .int .i64 0]) ∧ Below w.heap.size w w' := by
  have HF : Hid (M.Fits c) := h
  have hF : M.fireN c.fire = 0 := by rw [hf]; rfl
  have hK := M.nums_sum c h
  have hR := M.nums_pack c h
  rw [hF] at hK hR
  obtain ⟨K, hK2⟩ : ∃ K, c.chk = K := ⟨_, rfl⟩
  rw [hK2] at hK hR
  have HK : Hid ((c.nums 0).sum % 256 = K) := hK
  have HR : Hid ((⟨((c.nums 0 ++ [K]).map M.b8).toArray⟩ : ByteArray) = c.pack) := hR
  have K1 : 0 ≤ K := by rw [← hK]; omega
  have K2 : K ≤ 255 := by rw [← hK]; omega
  have HB : Hid (∀ x ∈ c.nums 0, 0 ≤ x ∧ x ≤ 255) := M.nums_bd c h 0 (by omega) (by omega)
  have HW : Hid (∀ x ∈ c.raw 0, -128 ≤ x ∧ x ≤ 255) := M.raw_bd c h 0 (by omega) (by omega)
  have HS : Hid (∀ j, j < 13 → (c.nums 0).getD j 0 = ((c.raw 0).getD j 0 + 256) % 256) := M.raw_step c h 0 (by omega) (by omega)
  have H1 : Hid (M.smallB c.mv = true) := (M.smallB_iff _).2 h.mv
  have H2 : Hid (M.smallB c.aim = true) := (M.smallB_iff _).2 h.aim
  obtain ⟨s1, s2, t1, t2, ⟨x1, x2, y1, y2, z1, z2⟩, ⟨u1, u2, v1, v2, k1, k2⟩⟩ := h
  obtain ⟨i0, hi0, hz0, hz1, hz2⟩ := info_parts infoByte
  clear hK hR hK2 hF
  have d1 : decide (c.seq < 1) = false := by simp; omega
  have d2 : decide (65535 < c.seq) = false := by simp; omega
  have d3 : decide (c.time < 0) = false := by simp; omega
  have d4 : decide (16777215 < c.time) = false := by simp; omega
  rw [hf]
  go_enter Tryz.func60, Tryz.ntmps60
  go_wp2_with fail
  refine (rsmall_is c.mv _ _ H1).mono ?_
  rintro e w1 ⟨rfl, hb⟩
  have q0 := (show Blk _ w.heap.size #[.int .i64 c.seq, .bool false, .int .i64 c.mv.x, .int .i64 c.mv.y, .int .i64 c.mv.z, .int .i64 c.aim.x, .int .i64 c.aim.y, .int .i64 c.aim.z, .int .i64 c.time] 50 from (by repeat' (first | (with_reducible assumption) | (refine Blk.new ?_; (first | (simp; done) | rfl); done) | (with_reducible refine Blk.alloc ?_) | (with_reducible refine Blk.drew ?_) | (with_reducible refine Blk.drewN ?_)))).after hb
  have hb1 : Below w.heap.size w w1 := bl (by go_grown) hb
  clear hb
  obtain ⟨a0, a1, a2, a3, a4, a5, a6, a7, a8, af, az⟩ := q0.nine
  go_wp2_with fail
  refine (rsmall_is c.aim _ _ H2).mono ?_
  rintro e w2 ⟨rfl, hb⟩
  replace q0 := q0.after hb
  have hb2 : Below w.heap.size w w2 := bl (by go_grown) hb
  clear hb a0 a1 a2 a3 a4 a5 a6 a7 a8 af az
  obtain ⟨a0, a1, a2, a3, a4, a5, a6, a7, a8, af, az⟩ := q0.nine
  go_wp2_with fail
  have qr : Blk (w2.alloc (.cells ((c.raw 0).map (Value.int .i64)).toArray 3)) w2.heap.size ((c.raw 0).map (Value.int .i64)).toArray 3 := Blk.new rfl
  have B3 : Below w.heap.size w (w2.alloc (.cells ((c.raw 0).map (Value.int .i64)).toArray 3)) := by go_grown
  have e3 : (w2.alloc (.cells ((c.raw 0).map (Value.int .i64)).toArray 3)).heap.size = w2.heap.size + 1 := by simp
  change Code.wp _ _ _ _ (w2.alloc (.cells ((c.raw 0).map (Value.int .i64)).toArray 3))
  generalize w2.alloc (.cells ((c.raw 0).map (Value.int .i64)).toArray 3) = W3 at qr B3 e3 ⊢
  have HQ : Hid (Blk W3 w2.heap.size ((c.raw 0).map (Value.int .i64)).toArray 3) := qr
  clear qr a0 a1 a2 a3 a4 a5 a6 a7 a8 af az q0 hb1 hb2
  go_loopg [8, 9, 10] 14 (fun k u8 u9 u10 wr => ∃ (j : Nat), u9 = .int .i64 ((c.nums 0).take j).sum ∧ u10 = .int .i64 j ∧ j ≤ 13 ∧ k + j = 14 ∧ wr.ownsRow W3.heap.size 5 1 u8 j (((c.nums 0).take j).map (Value.int .u8)) ∧ Below W3.heap.size W3 wr)
  case atStart => exact ⟨0, rfl, rfl, Nat.zero_le _, rfl, ⟨rfl, .inl ⟨rfl, rfl⟩⟩, Below.refl _ _⟩
  case round =>
    obtain ⟨j, rfl, rfl, hj, hk, hO, hBW⟩ := hrel
    have hO2 : Hid (wr.ownsRow W3.heap.size 5 1 u8 j (((c.nums 0).take j).map (Value.int .u8))) := hO
    obtain ⟨S, hS⟩ : ∃ S, ((c.nums 0).take j).sum = S := ⟨_, rfl⟩
    have sb := M.take_bd HB.out j
    rw [hS] at sb
    obtain ⟨S1, S2⟩ := sb
    have HSS : Hid (((c.nums 0).take j).sum = S) := hS
    rw [hS]
    clear hS hO
    by_cases hlt : j < 13
    · have c0 := (rowI (HQ.out.after hBW) j hlt)
      have b0 := HW.out _ (M.getD_mem (l := c.raw 0) (k := j) hlt)
      have hst := HS.out j hlt
      have hyb := HB.out _ (M.getD_mem (l := c.nums 0) (k := j) hlt)
      have HT : Hid ((c.nums 0).take (j + 1) = (c.nums 0).take j ++ [(c.nums 0).getD j 0]) := M.take_snoc (l := c.nums 0) hlt
      generalize (c.raw 0).getD j 0 = y at c0 b0 hst
      generalize (c.nums 0).getD j 0 = x at hst hyb HT
      obtain ⟨b1, b2⟩ := b0
      have hst2 : x = y % 256 := by omega
      have HX : Hid (x = y % 256) := hst2
      rw [hst2] at hyb
      obtain ⟨v1, v2⟩ := hyb
      clear hst hst2
      have j0 : (0 : Int) ≤ (j : Int) := by omega
      have j1 : (j : Int) < 13 := by omega
      have S3 : S ≤ 3315 := by omega
      clear S2
      have hz : W3.heap.size ≤ wr.heap.size := hBW.size
      go_wp2_with (at_builtin; refine wpList_append_lies _ (by rfl) _ _ _ (by rfl) W3.heap.size 5 i0 _ 1 1 Tryz.underlying79 hi0 hz0 hz1 hz2 rfl (by omega) u8 j (((c.nums 0).take j).map (Value.int .u8)) (by rfl) (Go.World.ownsRow.alloc hO2.out _) ⟨wr.heap.size, 0, none⟩ 1 1 [.int .u8 (y % 256)] (by rfl) (by rfl) (World.news_of_block (cs := #[.int .u8 (y % 256)]) (t := 5) (fr := (0, 0)) (Blk.new rfl).at_) (by simp [Value.oneCell']) (by omega) (by unfold maxLen; omega) (by omega) (by simp; omega) (wr.heap.size + 1) (by simp) ?_; intro g1 cap1 w4 hown1 hgrow1 hat1 hlt1)
      go_roundg (gk - 1)
      case measure => omega
      case rel =>
        refine ⟨j + 1, ?_, by go_num, hlt, by omega, ?_, ?_⟩
        · rw [HT.out, List.sum_append, HSS.out, HX.out]; simp
        · rw [HT.out, List.map_append, HX.out]; exact hown1
        · exact (hBW.alloc hz _).grown hgrow1 (by simp; omega) (row_own hO2.out)
    · obtain rfl : j = 13 := by omega
      have e13 : (c.nums 0).take 13 = c.nums 0 := rfl
      rw [e13] at hO2 HSS
      have HK2 : Hid (S % 256 = K) := by unfold Hid; rw [← HSS.out]; exact HK.out
      have hz : W3.heap.size ≤ wr.heap.size := hBW.size
      have S3 : S ≤ 3315 := by omega
      clear S2 HSS
      go_wp2_with (at_builtin; rw [HK2.out]; refine wpList_append_lies _ (by rfl) _ _ _ (by rfl) W3.heap.size 5 i0 _ 1 1 Tryz.underlying79 hi0 hz0 hz1 hz2 rfl (by omega) u8 13 ((c.nums 0).map (Value.int .u8)) (by rfl) (Go.World.ownsRow.alloc hO2.out _) ⟨wr.heap.size, 0, none⟩ 1 1 [.int .u8 K] (by rfl) (by rfl) (World.news_of_block (cs := #[.int .u8 K]) (t := 5) (fr := (0, 0)) (Blk.new rfl).at_) (by simp [Value.oneCell']) (by omega) (by unfold maxLen; omega) (by omega) (by simp; omega) (wr.heap.size + 1) (by simp) ?_; intro g1 cap1 w4 hown1 hgrow1 hat1 hlt1; have hconv := conv_row (l := (c.nums 0 ++ [K]).map M.b8) (row_b8 hown1 HB.out K1 K2); rw [HR.out] at hconv)
      go_ret2
      exact ⟨rfl, bl B3 ((hBW.alloc hz _).grown hgrow1 (by simp; omega) (row_own hO2.out))⟩

set_option maxRecDepth 100000 in
set_option maxHeartbeats 4000000 in
theorem rEncode_t (c : M.Cmd) (w : World) (h : M.Fits c) (hf : c.fire = true) : Calls Tryz.prog 60 #[.agg #[.int .i64 c.seq, .bool c.fire, .int .i64 c.mv.x, .int .i64 c.mv.y, .int .i64 c.mv.z, .int .i64 c.aim.x, .int .i64 c.aim.y, .int .i64 c.aim.z, .int .i64 c.time]] w fun e w' => e = .returned (.tuple #[.string c.pack, .int .i64 0]) ∧ Below w.heap.size w w' := by
  have HF : Hid (M.Fits c) := h
  have hF : M.fireN c.fire = 1 := by rw [hf]; rfl
  have hK := M.nums_sum c h
  have hR := M.nums_pack c h
  rw [hF] at hK hR
  obtain ⟨K, hK2⟩ : ∃ K, c.chk = K := ⟨_, rfl⟩
  rw [hK2] at hK hR
  have HK : Hid ((c.nums 1).sum % 256 = K) := hK
  have HR : Hid ((⟨((c.nums 1 ++ [K]).map M.b8).toArray⟩ : ByteArray) = c.pack) := hR
  have K1 : 0 ≤ K := by rw [← hK]; omega
  have K2 : K ≤ 255 := by rw [← hK]; omega
  have HB : Hid (∀ x ∈ c.nums 1, 0 ≤ x ∧ x ≤ 255) := M.nums_bd c h 1 (by omega) (by omega)
  have HW : Hid (∀ x ∈ c.raw 1, -128 ≤ x ∧ x ≤ 255) := M.raw_bd c h 1 (by omega) (by omega)
  have HS : Hid (∀ j, j < 13 → (c.nums 1).getD j 0 = ((c.raw 1).getD j 0 + 256) % 256) := M.raw_step c h 1 (by omega) (by omega)
  have H1 : Hid (M.smallB c.mv = true) := (M.smallB_iff _).2 h.mv
  have H2 : Hid (M.smallB c.aim = true) := (M.smallB_iff _).2 h.aim
  obtain ⟨s1, s2, t1, t2, ⟨x1, x2, y1, y2, z1, z2⟩, ⟨u1, u2, v1, v2, k1, k2⟩⟩ := h
  obtain ⟨i0, hi0, hz0, hz1, hz2⟩ := info_parts infoByte
  clear hK hR hK2 hF
  have d1 : decide (c.seq < 1) = false := by simp; omega
  have d2 : decide (65535 < c.seq) = false := by simp; omega
  have d3 : decide (c.time < 0) = false := by simp; omega
  have d4 : decide (16777215 < c.time) = false := by simp; omega
  rw [hf]
  go_enter Tryz.func60, Tryz.ntmps60
  go_wp2_with fail
  refine (rsmall_is c.mv _ _ H1).mono ?_
  rintro e w1 ⟨rfl, hb⟩
  have q0 := (show Blk _ w.heap.size #[.int .i64 c.seq, .bool true, .int .i64 c.mv.x, .int .i64 c.mv.y, .int .i64 c.mv.z, .int .i64 c.aim.x, .int .i64 c.aim.y, .int .i64 c.aim.z, .int .i64 c.time] 50 from (by repeat' (first | (with_reducible assumption) | (refine Blk.new ?_; (first | (simp; done) | rfl); done) | (with_reducible refine Blk.alloc ?_) | (with_reducible refine Blk.drew ?_) | (with_reducible refine Blk.drewN ?_)))).after hb
  have hb1 : Below w.heap.size w w1 := bl (by go_grown) hb
  clear hb
  obtain ⟨a0, a1, a2, a3, a4, a5, a6, a7, a8, af, az⟩ := q0.nine
  go_wp2_with fail
  refine (rsmall_is c.aim _ _ H2).mono ?_
  rintro e w2 ⟨rfl, hb⟩
  replace q0 := q0.after hb
  have hb2 : Below w.heap.size w w2 := bl (by go_grown) hb
  clear hb a0 a1 a2 a3 a4 a5 a6 a7 a8 af az
  obtain ⟨a0, a1, a2, a3, a4, a5, a6, a7, a8, af, az⟩ := q0.nine
  go_wp2_with fail
  have qr : Blk (w2.alloc (.cells ((c.raw 1).map (Value.int .i64)).toArray 3)) w2.heap.size ((c.raw 1).map (Value.int .i64)).toArray 3 := Blk.new rfl
  have B3 : Below w.heap.size w (w2.alloc (.cells ((c.raw 1).map (Value.int .i64)).toArray 3)) := by go_grown
  have e3 : (w2.alloc (.cells ((c.raw 1).map (Value.int .i64)).toArray 3)).heap.size = w2.heap.size + 1 := by simp
  change Code.wp _ _ _ _ (w2.alloc (.cells ((c.raw 1).map (Value.int .i64)).toArray 3))
  generalize w2.alloc (.cells ((c.raw 1).map (Value.int .i64)).toArray 3) = W3 at qr B3 e3 ⊢
  have HQ : Hid (Blk W3 w2.heap.size ((c.raw 1).map (Value.int .i64)).toArray 3) := qr
  clear qr a0 a1 a2 a3 a4 a5 a6 a7 a8 af az q0 hb1 hb2
  go_loopg [8, 9, 10] 14 (fun k u8 u9 u10 wr => ∃ (j : Nat), u9 = .int .i64 ((c.nums 1).take j).sum ∧ u10 = .int .i64 j ∧ j ≤ 13 ∧ k + j = 14 ∧ wr.ownsRow W3.heap.size 5 1 u8 j (((c.nums 1).take j).map (Value.int .u8)) ∧ Below W3.heap.size W3 wr)
  case atStart => exact ⟨0, rfl, rfl, Nat.zero_le _, rfl, ⟨rfl, .inl ⟨rfl, rfl⟩⟩, Below.refl _ _⟩
  case round =>
    obtain ⟨j, rfl, rfl, hj, hk, hO, hBW⟩ := hrel
    have hO2 : Hid (wr.ownsRow W3.heap.size 5 1 u8 j (((c.nums 1).take j).map (Value.int .u8))) := hO
    obtain ⟨S, hS⟩ : ∃ S, ((c.nums 1).take j).sum = S := ⟨_, rfl⟩
    have sb := M.take_bd HB.out j
    rw [hS] at sb
    obtain ⟨S1, S2⟩ := sb
    have HSS : Hid (((c.nums 1).take j).sum = S) := hS
    rw [hS]
    clear hS hO
    by_cases hlt : j < 13
    · have c0 := (rowI (HQ.out.after hBW) j hlt)
      have b0 := HW.out _ (M.getD_mem (l := c.raw 1) (k := j) hlt)
      have hst := HS.out j hlt
      have hyb := HB.out _ (M.getD_mem (l := c.nums 1) (k := j) hlt)
      have HT : Hid ((c.nums 1).take (j + 1) = (c.nums 1).take j ++ [(c.nums 1).getD j 0]) := M.take_snoc (l := c.nums 1) hlt
      generalize (c.raw 1).getD j 0 = y at c0 b0 hst
      generalize (c.nums 1).getD j 0 = x at hst hyb HT
      obtain ⟨b1, b2⟩ := b0
      have hst2 : x = y % 256 := by omega
      have HX : Hid (x = y % 256) := hst2
      rw [hst2] at hyb
      obtain ⟨v1, v2⟩ := hyb
      clear hst hst2
      have j0 : (0 : Int) ≤ (j : Int) := by omega
      have j1 : (j : Int) < 13 := by omega
      have S3 : S ≤ 3315 := by omega
      clear S2
      have hz : W3.heap.size ≤ wr.heap.size := hBW.size
      go_wp2_with (at_builtin; refine wpList_append_lies _ (by rfl) _ _ _ (by rfl) W3.heap.size 5 i0 _ 1 1 Tryz.underlying79 hi0 hz0 hz1 hz2 rfl (by omega) u8 j (((c.nums 1).take j).map (Value.int .u8)) (by rfl) (Go.World.ownsRow.alloc hO2.out _) ⟨wr.heap.size, 0, none⟩ 1 1 [.int .u8 (y % 256)] (by rfl) (by rfl) (World.news_of_block (cs := #[.int .u8 (y % 256)]) (t := 5) (fr := (0, 0)) (Blk.new rfl).at_) (by simp [Value.oneCell']) (by omega) (by unfold maxLen; omega) (by omega) (by simp; omega) (wr.heap.size + 1) (by simp) ?_; intro g1 cap1 w4 hown1 hgrow1 hat1 hlt1)
      go_roundg (gk - 1)
      case measure => omega
      case rel =>
        refine ⟨j + 1, ?_, by go_num, hlt, by omega, ?_, ?_⟩
        · rw [HT.out, List.sum_append, HSS.out, HX.out]; simp
        · rw [HT.out, List.map_append, HX.out]; exact hown1
        · exact (hBW.alloc hz _).grown hgrow1 (by simp; omega) (row_own hO2.out)
    · obtain rfl : j = 13 := by omega
      have e13 : (c.nums 1).take 13 = c.nums 1 := rfl
      rw [e13] at hO2 HSS
      have HK2 : Hid (S % 256 = K) := by unfold Hid; rw [← HSS.out]; exact HK.out
      have hz : W3.heap.size ≤ wr.heap.size := hBW.size
      have S3 : S ≤ 3315 := by omega
      clear S2 HSS
      go_wp2_with (at_builtin; rw [HK2.out]; refine wpList_append_lies _ (by rfl) _ _ _ (by rfl) W3.heap.size 5 i0 _ 1 1 Tryz.underlying79 hi0 hz0 hz1 hz2 rfl (by omega) u8 13 ((c.nums 1).map (Value.int .u8)) (by rfl) (Go.World.ownsRow.alloc hO2.out _) ⟨wr.heap.size, 0, none⟩ 1 1 [.int .u8 K] (by rfl) (by rfl) (World.news_of_block (cs := #[.int .u8 K]) (t := 5) (fr := (0, 0)) (Blk.new rfl).at_) (by simp [Value.oneCell']) (by omega) (by unfold maxLen; omega) (by omega) (by simp; omega) (wr.heap.size + 1) (by simp) ?_; intro g1 cap1 w4 hown1 hgrow1 hat1 hlt1; have hconv := conv_row (l := (c.nums 1 ++ [K]).map M.b8) (row_b8 hown1 HB.out K1 K2); rw [HR.out] at hconv)
      go_ret2
      exact ⟨rfl, bl B3 ((hBW.alloc hz _).grown hgrow1 (by simp; omega) (row_own hO2.out))⟩

theorem rEncode_any (c : M.Cmd) (w : World) : Calls Tryz.prog 60 #[.agg #[.int .i64 c.seq, .bool c.fire, .int .i64 c.mv.x, .int .i64 c.mv.y, .int .i64 c.mv.z, .int .i64 c.aim.x, .int .i64 c.aim.y, .int .i64 c.aim.z, .int .i64 c.time]] w fun e w' => e = .returned (.tuple #[.string (M.encS c), .int .i64 (M.encE c)]) ∧ Below w.heap.size w w' := by
  cases hB : c.fitsB
  · have e1 : M.encS c = ⟨#[]⟩ := by unfold M.encS; rw [hB]; rfl
    have e2 : M.encE c = 5 := by unfold M.encE; rw [hB]; rfl
    rw [e1, e2]
    exact rEncode_no c w hB
  · have e1 : M.encS c = c.pack := by unfold M.encS; rw [hB]; rfl
    have e2 : M.encE c = 0 := by unfold M.encE; rw [hB]; rfl
    rw [e1, e2]
    cases hf : c.fire
    · rw [← hf]; exact rEncode_f c w ((M.fitsB_iff c).1 hB) hf
    · rw [← hf]; exact rEncode_t c w ((M.fitsB_iff c).1 hB) hf

end Go.Proofs.YtonmihojfcjmjaaGreat

/- Contracts of the document's answer: Decode. -/
namespace Go.Proofs.YtonmihojfcjmjaaGreat
open Go.RowKit
set_option linter.unusedVariables false
attribute [local go_sem] cell_set_off cell_set_blk

theorem rsigned_b (b : UInt8) (w : World) : Calls Tryz.prog 76 #[.int .u8 (b.toNat : Int)] w fun e w' => e = .returned (.int .i64 (M.sg (b.toNat : Int))) ∧ w' = w :=
  rsigned_any _ w (by omega) (by have := b.toNat_lt; omega)

set_option maxHeartbeats 1000000 in
theorem rway_4 (p : ByteArray) (w : World) (v : M.V3) (hp : p.size = 14) (h1 : Hid (M.sg (p[4].toNat : Int) = v.x)) (h2 : Hid (M.sg (p[5].toNat : Int) = v.y)) (h3 : Hid (M.sg (p[6].toNat : Int) = v.z)) :
    Calls Tryz.prog 59 #[.string p, .int .i64 4] w fun e w' => e = .returned (.agg #[.int .i64 v.x, .int .i64 v.y, .int .i64 v.z]) ∧ Below w.heap.size w w' := by
  go_enter Tryz.func59, Tryz.ntmps59
  go_wp2_with (go_at_call 76; refine (rsigned_b _ _).mono ?_; rintro e w1 ⟨rfl, rfl⟩)
  rw [h1.out, h2.out, h3.out]
  exact bodyPost_ret (v := .agg #[.int .i64 v.x, .int .i64 v.y, .int .i64 v.z]) (by simp [results, Tryz.results59, go_sem]) rfl ⟨rfl, by go_grown⟩

set_option maxHeartbeats 1000000 in
theorem rway_7 (p : ByteArray) (w : World) (v : M.V3) (hp : p.size = 14) (h1 : Hid (M.sg (p[7].toNat : Int) = v.x)) (h2 : Hid (M.sg (p[8].toNat : Int) = v.y)) (h3 : Hid (M.sg (p[9].toNat : Int) = v.z)) :
    Calls Tryz.prog 59 #[.string p, .int .i64 7] w fun e w' => e = .returned (.agg #[.int .i64 v.x, .int .i64 v.y, .int .i64 v.z]) ∧ Below w.heap.size w w' := by
  go_enter Tryz.func59, Tryz.ntmps59
  go_wp2_with (go_at_call 76; refine (rsigned_b _ _).mono ?_; rintro e w1 ⟨rfl, rfl⟩)
  rw [h1.out, h2.out, h3.out]
  exact bodyPost_ret (v := .agg #[.int .i64 v.x, .int .i64 v.y, .int .i64 v.z]) (by simp [results, Tryz.results59, go_sem]) rfl ⟨rfl, by go_grown⟩

theorem take_lit {P : Program} {Q : Exit → Act → World → Prop} {md : Region.Mode} {S : World → Prop} {l : List Oper} {i : Nat} {oi : Oper} {v : Value} {fuel : Nat} {listed : Array Bool} {a : Act} {w : World} (hi : l[i]? = some oi)
    (hs : Region.noSelect l.toArray = true) (hf : Region.free md l.toArray listed i = true) (hr : (Region.ready md l.toArray listed).contains i = true)
    (hQ : ∀ c a w, Q (.panic c) (a.put oi.dst v) w → Q (.panic c) a w) (hy : YieldsIf P l.toArray S oi v a) (hS : S w)
    (h : wpAnyH P md l.toArray Q S fuel (listed.setIfInBounds i true) (a.put oi.dst v) w) : wpAnyH P md l.toArray Q S (fuel + 1) listed a w :=
  wpAnyH_take (by simpa using hi) hs hf hr hQ hy hS h

theorem rdSeq2 {a b : Nat} (ha : a < 256) (hb : b < 256) : wrap64 (wrap64 (a : Int) + wrap64 ((256 : Int) * wrap64 (b : Int))) = (a : Int) + 256 * (b : Int) := by
  rw [IntWalk.wrap64_in (a : Int) (by omega), IntWalk.wrap64_in (b : Int) (by omega), IntWalk.wrap64_in (256 * (b : Int)) (by omega), IntWalk.wrap64_in _ (by omega)]
theorem rdTime2 {a b c : Nat} (ha : a < 256) (hb : b < 256) (hc : c < 256) : wrap64 (wrap64 (wrap64 (a : Int) + wrap64 ((256 : Int) * wrap64 (b : Int))) + wrap64 ((65536 : Int) * wrap64 (c : Int))) = (a : Int) + 256 * (b : Int) + 65536 * (c : Int) := by
  rw [rdSeq2 ha hb, IntWalk.wrap64_in (c : Int) (by omega), IntWalk.wrap64_in (65536 * (c : Int)) (by omega), IntWalk.wrap64_in _ (by omega)]

set_option maxRecDepth 100000 in
set_option maxHeartbeats 4000000 in
theorem rDecode_any (p : ByteArray) (w : World) (c : M.Cmd) (e : Int) (hs : p.size ≤ maxLen) (hc : Hid (M.decR p = c)) (he : Hid (M.decE p = e)) :
    Calls Tryz.prog 39 #[.string p] w fun r w' => r = .returned (.tuple #[.agg #[.int .i64 c.seq, .bool c.fire, .int .i64 c.mv.x, .int .i64 c.mv.y, .int .i64 c.mv.z, .int .i64 c.aim.x, .int .i64 c.aim.y, .int .i64 c.aim.z, .int .i64 c.time], .int .i64 e]) ∧ Below w.heap.size w w' := by
  unfold maxLen at hs
  by_cases h1 : 14 < p.size
  · obtain rfl : M.Cmd.zero = c := by rw [← hc.out]; unfold M.decR; rw [M.okB_size (by omega)]; rfl
    obtain rfl : (2 : Int) = e := by rw [← he.out]; unfold M.decE; rw [if_pos h1]
    clear hc he
    go_enter Tryz.func39, Tryz.ntmps39
    go_wp2
    exact bodyPost_ret (v := .tuple #[.agg #[.int .i64 0, .bool false, .int .i64 0, .int .i64 0, .int .i64 0, .int .i64 0, .int .i64 0, .int .i64 0, .int .i64 0], .int .i64 2]) (by simp [results, Tryz.results39, go_sem]) rfl ⟨rfl, by go_grown⟩
  by_cases h2 : p.size < 14
  · obtain rfl : M.Cmd.zero = c := by rw [← hc.out]; unfold M.decR; rw [M.okB_size (by omega)]; rfl
    obtain rfl : (8 : Int) = e := by rw [← he.out]; unfold M.decE; rw [if_neg h1, M.okB_size (by omega)]; rfl
    clear hc he
    go_enter Tryz.func39, Tryz.ntmps39
    go_wp2
    exact bodyPost_ret (v := .tuple #[.agg #[.int .i64 0, .bool false, .int .i64 0, .int .i64 0, .int .i64 0, .int .i64 0, .int .i64 0, .int .i64 0, .int .i64 0], .int .i64 8]) (by simp [results, Tryz.results39, go_sem]) rfl ⟨rfl, by go_grown⟩
  have hp : p.size = 14 := by omega
  obtain ⟨d, hd⟩ : ∃ d, M.decC p = d := ⟨_, rfl⟩
  have HD : Hid (M.decC p = d) := hd
  have hcs := hd
  unfold M.decC M.rd at hcs
  rw [M.byteAt_lt (s := p) (i := 1) (by omega), M.byteAt_lt (s := p) (i := 2) (by omega), M.byteAt_lt (s := p) (i := 3) (by omega), M.byteAt_lt (s := p) (i := 4) (by omega), M.byteAt_lt (s := p) (i := 5) (by omega), M.byteAt_lt (s := p) (i := 6) (by omega), M.byteAt_lt (s := p) (i := 7) (by omega), M.byteAt_lt (s := p) (i := 8) (by omega), M.byteAt_lt (s := p) (i := 9) (by omega), M.byteAt_lt (s := p) (i := 10) (by omega), M.byteAt_lt (s := p) (i := 11) (by omega), M.byteAt_lt (s := p) (i := 12) (by omega)] at hcs
  have E0 : Hid (wrap64 (wrap64 (p[1].toNat : Int) + wrap64 ((256 : Int) * wrap64 (p[2].toNat : Int))) = d.seq) := by unfold Hid; rw [← hcs]; exact rdSeq2 p[1].toNat_lt p[2].toNat_lt
  have E1 : Hid (((p[3].toNat : Int) == 1) = d.fire) := by unfold Hid; rw [← hcs]; rfl
  have E2 : Hid (M.sg (p[4].toNat : Int) = d.mv.x) := by unfold Hid; rw [← hcs]
  have E3 : Hid (M.sg (p[5].toNat : Int) = d.mv.y) := by unfold Hid; rw [← hcs]
  have E4 : Hid (M.sg (p[6].toNat : Int) = d.mv.z) := by unfold Hid; rw [← hcs]
  have E5 : Hid (M.sg (p[7].toNat : Int) = d.aim.x) := by unfold Hid; rw [← hcs]
  have E6 : Hid (M.sg (p[8].toNat : Int) = d.aim.y) := by unfold Hid; rw [← hcs]
  have E7 : Hid (M.sg (p[9].toNat : Int) = d.aim.z) := by unfold Hid; rw [← hcs]
  have E8 : Hid (wrap64 (wrap64 (wrap64 (p[10].toNat : Int) + wrap64 ((256 : Int) * wrap64 (p[11].toNat : Int))) + wrap64 ((65536 : Int) * wrap64 (p[12].toNat : Int))) = d.time) := by unfold Hid; rw [← hcs]; exact rdTime2 p[10].toNat_lt p[11].toNat_lt p[12].toNat_lt
  clear hcs
  have HP : Hid (p.size = 14) := hp
  go_enter Tryz.func39, Tryz.ntmps39
  go_wp2_with fail
  refine (rway_4 p _ d.mv HP.out E2 E3 E4).mono ?_
  rintro r w1 ⟨rfl, hb⟩
  have q0 := (show Blk _ w.heap.size #[.int .i64 0, .bool false, .int .i64 0, .int .i64 0, .int .i64 0, .int .i64 0, .int .i64 0, .int .i64 0, .int .i64 0] 50 from (by repeat' (first | (with_reducible assumption) | (refine Blk.new ?_; (first | (simp; done) | rfl); done) | (with_reducible refine Blk.alloc ?_) | (with_reducible refine Blk.drew ?_) | (with_reducible refine Blk.drewN ?_)))).after hb
  have hb1 : Below w.heap.size w w1 := bl (by go_grown) hb
  clear hb
  have z1 : w.heap.size < w1.heap.size := q0.lt
  go_wp2_with fail
  refine (rway_7 p _ d.aim HP.out E5 E6 E7).mono ?_
  rintro r w2 ⟨rfl, hb⟩
  have q1 := (show Blk (w1.alloc _) w1.heap.size #[.int .i64 d.mv.x, .int .i64 d.mv.y, .int .i64 d.mv.z] 27 from Blk.new rfl).after hb
  replace q0 := q0.alloc.after hb
  have hb2 : Below w.heap.size w w2 := bl (by go_grown) hb
  clear hb
  have z2 : w1.heap.size < w2.heap.size := q1.lt
  go_wp2_with fail
  have q2 := (show Blk (w2.alloc _) w2.heap.size #[.int .i64 d.aim.x, .int .i64 d.aim.y, .int .i64 d.aim.z] 27 from Blk.new rfl)
  replace q0 := q0.alloc (o := .cells #[.int .i64 d.aim.x, .int .i64 d.aim.y, .int .i64 d.aim.z] 27)
  replace q1 := q1.alloc (o := .cells #[.int .i64 d.aim.x, .int .i64 d.aim.y, .int .i64 d.aim.z] 27)
  have hb3 : Below w.heap.size w (w2.alloc (.cells #[.int .i64 d.aim.x, .int .i64 d.aim.y, .int .i64 d.aim.z] 27)) := by go_grown
  generalize w2.alloc (.cells #[.int .i64 d.aim.x, .int .i64 d.aim.y, .int .i64 d.aim.z] 27) = w3 at q0 q1 q2 hb3 ⊢
  obtain ⟨m0, m1, m2, mf, mz⟩ := q1.three
  obtain ⟨n0, n1, n2, nf, nz⟩ := q2.three
  refine wp_region_held_drew (S := (fun w' => w'.cell? ⟨w1.heap.size, 0, none⟩ = some (.int .i64 d.mv.x) ∧ w'.cell? ⟨w1.heap.size, 1, none⟩ = some (.int .i64 d.mv.y) ∧ w'.cell? ⟨w1.heap.size, 2, none⟩ = some (.int .i64 d.mv.z) ∧ w'.cell? ⟨w2.heap.size, 0, none⟩ = some (.int .i64 d.aim.x) ∧ w'.cell? ⟨w2.heap.size, 1, none⟩ = some (.int .i64 d.aim.y) ∧ w'.cell? ⟨w2.heap.size, 2, none⟩ = some (.int .i64 d.aim.z))) (by kernel_rfl) ⟨m0, m1, m2, n0, n1, n2⟩ (fun hHeld => ?_)
  refine take_lit (i := 0) (oi := _) (v := ?v0) rfl (by kernel_rfl) (by kernel_rfl) (by kernel_rfl) (fun _ _ _ h => h) (Or.inl ⟨by rfl, ?hy0⟩) (by assumption) ?rest0
  case hy0 => (intro w hSw; (try dsimp only at hSw); go_simp; first | done | (with_reducible rfl))
  simp only [Act.put, List.setIfInBounds_toArray, List.set_cons_zero, List.set_cons_succ]
  refine take_lit (i := 1) (oi := _) (v := ?v1) rfl (by kernel_rfl) (by kernel_rfl) (by kernel_rfl) (fun _ _ _ h => h) (Or.inl ⟨by rfl, ?hy1⟩) (by assumption) ?rest1
  case hy1 => (intro w hSw; (try dsimp only at hSw); go_simp; first | done | (with_reducible rfl))
  simp only [Act.put, List.setIfInBounds_toArray, List.set_cons_zero, List.set_cons_succ]
  refine take_lit (i := 2) (oi := _) (v := ?v2) rfl (by kernel_rfl) (by kernel_rfl) (by kernel_rfl) (fun _ _ _ h => h) (Or.inl ⟨by rfl, ?hy2⟩) (by assumption) ?rest2
  case hy2 => (intro w hSw; (try dsimp only at hSw); go_simp; first | done | (with_reducible rfl))
  simp only [Act.put, List.setIfInBounds_toArray, List.set_cons_zero, List.set_cons_succ]
  refine take_lit (i := 3) (oi := _) (v := ?v3) rfl (by kernel_rfl) (by kernel_rfl) (by kernel_rfl) (fun _ _ _ h => h) (Or.inl ⟨by rfl, ?hy3⟩) (by assumption) ?rest3
  case hy3 => (intro w hSw; (try dsimp only at hSw); go_simp; first | done | (with_reducible rfl))
  simp only [Act.put, List.setIfInBounds_toArray, List.set_cons_zero, List.set_cons_succ]
  refine take_lit (i := 4) (oi := _) (v := ?v4) rfl (by kernel_rfl) (by kernel_rfl) (by kernel_rfl) (fun _ _ _ h => h) (Or.inl ⟨by rfl, ?hy4⟩) (by assumption) ?rest4
  case hy4 => (intro w hSw; (try dsimp only at hSw); go_simp; first | done | (with_reducible rfl))
  simp only [Act.put, List.setIfInBounds_toArray, List.set_cons_zero, List.set_cons_succ]
  refine take_lit (i := 5) (oi := _) (v := ?v5) rfl (by kernel_rfl) (by kernel_rfl) (by kernel_rfl) (fun _ _ _ h => h) (Or.inl ⟨by rfl, ?hy5⟩) (by assumption) ?rest5
  case hy5 => (intro w hSw; (try dsimp only at hSw); go_simp; first | done | (with_reducible rfl))
  simp only [Act.put, List.setIfInBounds_toArray, List.set_cons_zero, List.set_cons_succ]
  refine take_lit (i := 6) (oi := _) (v := ?v6) rfl (by kernel_rfl) (by kernel_rfl) (by kernel_rfl) (fun _ _ _ h => h) (Or.inl ⟨by rfl, ?hy6⟩) (by assumption) ?rest6
  case hy6 => (intro w hSw; (try dsimp only at hSw); go_simp; first | done | (with_reducible rfl))
  simp only [Act.put, List.setIfInBounds_toArray, List.set_cons_zero, List.set_cons_succ]
  refine take_lit (i := 7) (oi := _) (v := ?v7) rfl (by kernel_rfl) (by kernel_rfl) (by kernel_rfl) (fun _ _ _ h => h) (Or.inl ⟨by rfl, ?hy7⟩) (by assumption) ?rest7
  case hy7 => (intro w hSw; (try dsimp only at hSw); go_simp; first | done | (with_reducible rfl))
  simp only [Act.put, List.setIfInBounds_toArray, List.set_cons_zero, List.set_cons_succ]
  refine take_lit (i := 8) (oi := _) (v := ?v8) rfl (by kernel_rfl) (by kernel_rfl) (by kernel_rfl) (fun _ _ _ h => h) (Or.inl ⟨by rfl, ?hy8⟩) (by assumption) ?rest8
  case hy8 => (intro w hSw; (try dsimp only at hSw); go_simp; first | done | (with_reducible rfl))
  simp only [Act.put, List.setIfInBounds_toArray, List.set_cons_zero, List.set_cons_succ]
  refine take_lit (i := 9) (oi := _) (v := ?v9) rfl (by kernel_rfl) (by kernel_rfl) (by kernel_rfl) (fun _ _ _ h => h) (Or.inl ⟨by rfl, ?hy9⟩) (by assumption) ?rest9
  case hy9 => (intro w hSw; (try dsimp only at hSw); go_simp; first | done | (with_reducible rfl))
  simp only [Act.put, List.setIfInBounds_toArray, List.set_cons_zero, List.set_cons_succ]
  refine take_lit (i := 10) (oi := _) (v := ?v10) rfl (by kernel_rfl) (by kernel_rfl) (by kernel_rfl) (fun _ _ _ h => h) (Or.inl ⟨by rfl, ?hy10⟩) (by assumption) ?rest10
  case hy10 => (intro w hSw; (try dsimp only at hSw); go_simp; first | done | (with_reducible rfl))
  simp only [Act.put, List.setIfInBounds_toArray, List.set_cons_zero, List.set_cons_succ]
  refine take_lit (i := 11) (oi := _) (v := ?v11) rfl (by kernel_rfl) (by kernel_rfl) (by kernel_rfl) (fun _ _ _ h => h) (Or.inl ⟨by rfl, ?hy11⟩) (by assumption) ?rest11
  case hy11 => (intro w hSw; (try dsimp only at hSw); go_simp; first | done | (with_reducible rfl))
  simp only [Act.put, List.setIfInBounds_toArray, List.set_cons_zero, List.set_cons_succ]
  refine take_lit (i := 12) (oi := _) (v := ?v12) rfl (by kernel_rfl) (by kernel_rfl) (by kernel_rfl) (fun _ _ _ h => h) (Or.inl ⟨by rfl, ?hy12⟩) (by assumption) ?rest12
  case hy12 => (intro w hSw; (try dsimp only at hSw); go_simp; first | done | (with_reducible rfl))
  simp only [Act.put, List.setIfInBounds_toArray, List.set_cons_zero, List.set_cons_succ]
  refine take_lit (i := 13) (oi := _) (v := ?v13) rfl (by kernel_rfl) (by kernel_rfl) (by kernel_rfl) (fun _ _ _ h => h) (Or.inl ⟨by rfl, ?hy13⟩) (by assumption) ?rest13
  case hy13 => (intro w hSw; (try dsimp only at hSw); go_simp; first | done | (with_reducible rfl))
  simp only [Act.put, List.setIfInBounds_toArray, List.set_cons_zero, List.set_cons_succ]
  refine take_lit (i := 14) (oi := _) (v := ?v14) rfl (by kernel_rfl) (by kernel_rfl) (by kernel_rfl) (fun _ _ _ h => h) (Or.inl ⟨by rfl, ?hy14⟩) (by assumption) ?rest14
  case hy14 => (intro w hSw; (try dsimp only at hSw); go_simp; first | done | (with_reducible rfl))
  simp only [Act.put, List.setIfInBounds_toArray, List.set_cons_zero, List.set_cons_succ]
  refine take_lit (i := 15) (oi := _) (v := ?v15) rfl (by kernel_rfl) (by kernel_rfl) (by kernel_rfl) (fun _ _ _ h => h) (Or.inl ⟨by rfl, ?hy15⟩) (by assumption) ?rest15
  case hy15 => (intro w hSw; (try dsimp only at hSw); go_simp; first | done | (with_reducible rfl))
  simp only [Act.put, List.setIfInBounds_toArray, List.set_cons_zero, List.set_cons_succ]
  refine take_lit (i := 16) (oi := _) (v := ?v16) rfl (by kernel_rfl) (by kernel_rfl) (by kernel_rfl) (fun _ _ _ h => h) (Or.inl ⟨by rfl, ?hy16⟩) (by assumption) ?rest16
  case hy16 => (intro w hSw; (try dsimp only at hSw); go_simp; first | done | (with_reducible rfl))
  simp only [Act.put, List.setIfInBounds_toArray, List.set_cons_zero, List.set_cons_succ]
  refine take_lit (i := 17) (oi := _) (v := ?v17) rfl (by kernel_rfl) (by kernel_rfl) (by kernel_rfl) (fun _ _ _ h => h) (Or.inl ⟨by rfl, ?hy17⟩) (by assumption) ?rest17
  case hy17 => (intro w hSw; (try dsimp only at hSw); go_simp; first | done | (with_reducible rfl))
  simp only [Act.put, List.setIfInBounds_toArray, List.set_cons_zero, List.set_cons_succ]
  refine take_lit (i := 18) (oi := _) (v := ?v18) rfl (by kernel_rfl) (by kernel_rfl) (by kernel_rfl) (fun _ _ _ h => h) (Or.inl ⟨by rfl, ?hy18⟩) (by assumption) ?rest18
  case hy18 => (intro w hSw; (try dsimp only at hSw); go_simp; first | done | (with_reducible rfl))
  simp only [Act.put, List.setIfInBounds_toArray, List.set_cons_zero, List.set_cons_succ]
  refine take_lit (i := 19) (oi := _) (v := ?v19) rfl (by kernel_rfl) (by kernel_rfl) (by kernel_rfl) (fun _ _ _ h => h) (Or.inl ⟨by rfl, ?hy19⟩) (by assumption) ?rest19
  case hy19 => (intro w hSw; (try dsimp only at hSw); go_simp; first | done | (with_reducible rfl))
  simp only [Act.put, List.setIfInBounds_toArray, List.set_cons_zero, List.set_cons_succ]
  refine take_lit (i := 20) (oi := _) (v := ?v20) rfl (by kernel_rfl) (by kernel_rfl) (by kernel_rfl) (fun _ _ _ h => h) (Or.inl ⟨by rfl, ?hy20⟩) (by assumption) ?rest20
  case hy20 => (intro w hSw; (try dsimp only at hSw); go_simp; first | done | (with_reducible rfl))
  simp only [Act.put, List.setIfInBounds_toArray, List.set_cons_zero, List.set_cons_succ]
  refine take_lit (i := 21) (oi := _) (v := ?v21) rfl (by kernel_rfl) (by kernel_rfl) (by kernel_rfl) (fun _ _ _ h => h) (Or.inl ⟨by rfl, ?hy21⟩) (by assumption) ?rest21
  case hy21 => (intro w hSw; (try dsimp only at hSw); go_simp; first | done | (with_reducible rfl))
  simp only [Act.put, List.setIfInBounds_toArray, List.set_cons_zero, List.set_cons_succ]
  refine take_lit (i := 22) (oi := _) (v := ?v22) rfl (by kernel_rfl) (by kernel_rfl) (by kernel_rfl) (fun _ _ _ h => h) (Or.inl ⟨by rfl, ?hy22⟩) (by assumption) ?rest22
  case hy22 => (intro w hSw; (try dsimp only at hSw); go_simp; first | done | (with_reducible rfl))
  simp only [Act.put, List.setIfInBounds_toArray, List.set_cons_zero, List.set_cons_succ]
  refine take_lit (i := 23) (oi := _) (v := ?v23) rfl (by kernel_rfl) (by kernel_rfl) (by kernel_rfl) (fun _ _ _ h => h) (Or.inl ⟨by rfl, ?hy23⟩) (by assumption) ?rest23
  case hy23 => (intro w hSw; (try dsimp only at hSw); go_simp; first | done | (with_reducible rfl))
  simp only [Act.put, List.setIfInBounds_toArray, List.set_cons_zero, List.set_cons_succ]
  refine take_lit (i := 24) (oi := _) (v := ?v24) rfl (by kernel_rfl) (by kernel_rfl) (by kernel_rfl) (fun _ _ _ h => h) (Or.inl ⟨by rfl, ?hy24⟩) (by assumption) ?rest24
  case hy24 => (intro w hSw; (try dsimp only at hSw); go_simp; first | done | (with_reducible rfl))
  simp only [Act.put, List.setIfInBounds_toArray, List.set_cons_zero, List.set_cons_succ]
  refine take_lit (i := 25) (oi := _) (v := ?v25) rfl (by kernel_rfl) (by kernel_rfl) (by kernel_rfl) (fun _ _ _ h => h) (Or.inl ⟨by rfl, ?hy25⟩) (by assumption) ?rest25
  case hy25 => (intro w hSw; (try dsimp only at hSw); go_simp; first | done | (with_reducible rfl))
  simp only [Act.put, List.setIfInBounds_toArray, List.set_cons_zero, List.set_cons_succ]
  refine take_lit (i := 26) (oi := _) (v := ?v26) rfl (by kernel_rfl) (by kernel_rfl) (by kernel_rfl) (fun _ _ _ h => h) (Or.inl ⟨by rfl, ?hy26⟩) (by assumption) ?rest26
  case hy26 => (intro w hSw; (try dsimp only at hSw); go_simp; first | done | (with_reducible rfl))
  simp only [Act.put, List.setIfInBounds_toArray, List.set_cons_zero, List.set_cons_succ]
  refine wpAnyH_ready (rs := [27]) (by kernel_rfl) (by simp) ?_
  refine AllReadyH.cons rfl (fun K hK => ?_) AllReadyH.nil
  go_simp
  refine hK.out _ _ ?hS27 (fun hHeld2 => ?_)
  case hS27 => simp [m0, m1, m2, n0, n1, n2, World.cell?_alloc_some]
  clear hK K hHeld
  refine wpAnyH_ready (rs := [28]) (by kernel_rfl) (by simp) ?_
  refine AllReadyH.cons rfl (fun K hK => ?_) AllReadyH.nil
  go_simp
  refine hK.out _ _ ?hS28 (fun hHeld3 => ?_)
  case hS28 => simp [m0, m1, m2, n0, n1, n2, World.cell?_alloc_some]
  clear hK K hHeld2 hHeld3
  refine wpAnyH_done (by kernel_rfl) ?_ _
  go_wp2_with fail
  rw [E0.out, E1.out, E8.out]
  refine (rEncode_any d _).mono ?_
  rintro r w4 ⟨rfl, hb⟩
  have q3 := (show Blk _ w3.heap.size #[.int .i64 d.seq, .bool d.fire, .int .i64 d.mv.x, .int .i64 d.mv.y, .int .i64 d.mv.z, .int .i64 d.aim.x, .int .i64 d.aim.y, .int .i64 d.aim.z, .int .i64 d.time] 50 from (by repeat' (first | (with_reducible assumption) | (refine Blk.new ?_; (first | (simp; done) | rfl); done) | (with_reducible refine Blk.alloc ?_) | (with_reducible refine Blk.drew ?_) | (with_reducible refine Blk.drewN ?_)))).after hb
  replace q0 := q0.alloc.drew.after hb
  have hb4 : Below w.heap.size w w4 := bl (by go_grown) hb
  have hne : w.heap.size < w3.heap.size := by omega
  clear hb m0 m1 m2 mf mz n0 n1 n2 nf nz q1 q2
  obtain ⟨a0, a1, a2, a3, a4, a5, a6, a7, a8, af, az⟩ := q0.nine
  obtain ⟨b0, b1, b2, b3, b4, b5, b6, b7, b8, bf, bz⟩ := q3.nine
  by_cases hf : d.fitsB = true
  · have hE : M.encE d = 0 := by unfold M.encE; rw [if_pos hf]
    have hS : M.encS d = d.pack := by unfold M.encS; rw [if_pos hf]
    rw [hE, hS]
    by_cases hk : d.pack = p
    · have ho : M.okB p = true := by unfold M.okB; rw [hp, hd, hf, hk]; simp
      obtain rfl : d = c := by rw [← hc.out, ← hd]; unfold M.decR; rw [ho]; rfl
      obtain rfl : (0 : Int) = e := by rw [← he.out]; unfold M.decE; rw [if_neg h1, ho]; rfl
      have hkk : (d.pack.toList == p.toList) = true := by rw [hk]; simp
      clear hc he hS hE hk hf hd ho
      go_wp2
      exact bodyPost_ret (v := .tuple #[.agg #[.int .i64 d.seq, .bool d.fire, .int .i64 d.mv.x, .int .i64 d.mv.y, .int .i64 d.mv.z, .int .i64 d.aim.x, .int .i64 d.aim.y, .int .i64 d.aim.z, .int .i64 d.time], .int .i64 0]) (by simp [results, Tryz.results39, go_sem, a0, a1, a2, a3, a4, a5, a6, a7, a8]) rfl ⟨rfl, by go_grown⟩
    · have ho : M.okB p = false := by unfold M.okB; rw [hp, hd, hf]; simp [hk]
      obtain rfl : M.Cmd.zero = c := by rw [← hc.out]; unfold M.decR; rw [ho]; rfl
      obtain rfl : (8 : Int) = e := by rw [← he.out]; unfold M.decE; rw [if_neg h1, ho]; rfl
      have hkk : (d.pack.toList == p.toList) = false := by simp; exact fun x => hk (M.toList_inj x)
      clear hc he hS hE hk hf hd ho
      go_wp2
      exact bodyPost_ret (v := .tuple #[.agg #[.int .i64 0, .bool false, .int .i64 0, .int .i64 0, .int .i64 0, .int .i64 0, .int .i64 0, .int .i64 0, .int .i64 0], .int .i64 8]) (by simp [results, Tryz.results39, go_sem, a0, a1, a2, a3, a4, a5, a6, a7, a8]) rfl ⟨rfl, by go_grown⟩
  · have ho : M.okB p = false := by unfold M.okB; rw [hd]; simp [hf]
    have hE : M.encE d = 5 := by unfold M.encE; rw [if_neg hf]
    rw [hE]
    obtain rfl : M.Cmd.zero = c := by rw [← hc.out]; unfold M.decR; rw [ho]; rfl
    obtain rfl : (8 : Int) = e := by rw [← he.out]; unfold M.decE; rw [if_neg h1, ho]; rfl
    generalize M.encS d = S
    clear hc he hE hf hd ho
    go_wp2
    exact bodyPost_ret (v := .tuple #[.agg #[.int .i64 0, .bool false, .int .i64 0, .int .i64 0, .int .i64 0, .int .i64 0, .int .i64 0, .int .i64 0, .int .i64 0], .int .i64 8]) (by simp [results, Tryz.results39, go_sem, a0, a1, a2, a3, a4, a5, a6, a7, a8]) rfl ⟨rfl, by go_grown⟩

end Go.Proofs.YtonmihojfcjmjaaGreat
