/- Carried: the law's walk. -/
import Derived.Test.YtonmihojfcjmjaaCa1
import Derived.StillTailTactics
namespace Go.Proofs.Ytonmihojfcjmjaa
open Go.RowKit
set_option linter.unusedVariables false
attribute [local go_sem] cell_set_off cell_set_blk

theorem pick255_at (v : Int) (w : World) (h1 : -9223372036854775808 ≤ v) (h2 : v ≤ 9223372036854775807) (x : Int) (hx : Hid (M.pk255 v = x)) :
    Calls Try.prog 22 #[.int .i64 v, .int .i64 255] w fun e w' => e = .returned (.int .i64 x) ∧ w' = w := by
  rw [← hx.out]
  exact pick255_is v w h1 h2

theorem still_tail2 {P : Program} {id : Nat} {Q : Exit → Act → World → Prop} {a : Act} {w : World} {l : List Oper} (n : Nat) (hm : P.follows .mixedOrders = true) (hB : Region.lexTailB .any l.toArray n = true)
    (h : wpStill P l.toArray w.drew (fun a' => wpList P l.toArray Q (l.drop n) a' w.drew) (l.take n) a) : (Code.region id l.toArray true).wp P Q a w := wp_region_still_tail n hm hB h

/-- '[]byte(s)', its world under a letter. -/
theorem bytes_of (W : World) (P : ByteArray) (hp : P.size = 14) : ∃ (cap : Nat) (W6 : World), (convert 9 56 (.string P)).run Try.prog W = .ok (.slice (some ⟨W.heap.size, 0, none⟩) 14 cap) W6 ∧ BB W6 W.heap.size P.data.toList ∧ Below W.heap.size W W6 ∧ 14 ≤ cap ∧ cap ≤ maxLen := by
  refine ⟨grownCap W P.size 0 5, _, ?_, BB.made W P (grownCap W P.size 0 5), by go_grown, ?_, ?_⟩
  · rw [run_bytes_of_string W 9 56 5 P Try.underlying9 Try.underlying56 Try.underlying5, hp]
  · have := grownCap_ge W P.size 0 5; omega
  · exact grownCap_le_maxLen W P.size 0 5 (by rw [hp]; decide)

theorem decode_none (p : ByteArray) (w : World) (e : Int) (hs : p.size ≤ maxLen) (hc : Hid (M.okB p = false)) (he : Hid (M.decE p = e)) :
    Calls Try.prog 30 #[.string p] w fun r w' => r = .returned (.tuple #[.agg #[.int .i64 0, .bool false, .int .i64 0, .int .i64 0, .int .i64 0, .int .i64 0, .int .i64 0, .int .i64 0, .int .i64 0], .int .i64 e]) ∧ Below w.heap.size w w' :=
  decode_any p w M.Cmd.zero e hs (M.decR_no hc.out) he

theorem from_small (p : M.V3) (w : World) (B : Bool) (h : Hid (M.smallB p = B)) :
    Calls Try.prog 24 #[.agg #[.int .i64 p.x, .int .i64 p.y, .int .i64 p.z], .int .i64 (-128), .int .i64 127] w fun e w' => e = .returned (.bool B) ∧ Below w.heap.size w w' := by
  rw [← h.out]
  exact from_any p (-128) 127 w

theorem M.fits_cases2 (c : M.Cmd) (B1 B2 : Bool) (h : c.fitsB = false) (h1 : M.smallB c.mv = B1) (h2 : M.smallB c.aim = B2) :
    B1 = false ∨ (B1 = true ∧ B2 = false) ∨ (B1 = true ∧ B2 = true ∧ c.seq < 1) ∨ (B1 = true ∧ B2 = true ∧ ¬ c.seq < 1 ∧ 65535 < c.seq) ∨ (B1 = true ∧ B2 = true ∧ ¬ c.seq < 1 ∧ ¬ 65535 < c.seq ∧ c.time < 0) ∨ (B1 = true ∧ B2 = true ∧ ¬ c.seq < 1 ∧ ¬ 65535 < c.seq ∧ ¬ c.time < 0 ∧ 16777215 < c.time) := by
  unfold M.Cmd.fitsB M.Cmd.numB at h
  rw [h1, h2] at h
  cases B1 <;> cases B2 <;> simp at h <;> simp <;> omega

set_option maxRecDepth 100000 in
set_option maxHeartbeats 2000000 in
theorem carried_no (c : M.Cmd) (i v : Int) (w : World) (h : c.fitsB = false) : Calls Try.prog 10 #[.agg #[.int .i64 c.seq, .bool c.fire, .int .i64 c.mv.x, .int .i64 c.mv.y, .int .i64 c.mv.z, .int .i64 c.aim.x, .int .i64 c.aim.y, .int .i64 c.aim.z, .int .i64 c.time], .int .i64 i, .int .i64 v] w fun e w' => e = .returned (.bool true) ∧ Below w.heap.size w w' := by
  obtain ⟨B1, hB1⟩ : ∃ B1, M.smallB c.mv = B1 := ⟨_, rfl⟩
  obtain ⟨B2, hB2⟩ : ∃ B2, M.smallB c.aim = B2 := ⟨_, rfl⟩
  have H1 : Hid (M.smallB c.mv = B1) := hB1
  have H2 : Hid (M.smallB c.aim = B2) := hB2
  have HS : Hid (M.encS c = ⟨#[]⟩) := by unfold Hid M.encS; rw [h]; rfl
  have HE : Hid (M.encE c = 5) := by unfold Hid M.encE; rw [h]; rfl
  have hcs := M.fits_cases2 c B1 B2 h hB1 hB2
  clear hB1 hB2 h
  rcases hcs with rfl | ⟨rfl, rfl⟩ | ⟨rfl, rfl, k1⟩ | ⟨rfl, rfl, k1, k2⟩ | ⟨rfl, rfl, k1, k2, k3⟩ | ⟨rfl, rfl, k1, k2, k3, k4⟩
  all_goals
    go_enter Try.func10, Try.ntmps10
    go_wp2_with fail
    refine (encode_any c _).mono ?_
    rintro e w1 ⟨rfl, hb⟩
    rw [HS.out, HE.out]
    have q0 := (show Blk _ w.heap.size #[.int .i64 c.seq, .bool c.fire, .int .i64 c.mv.x, .int .i64 c.mv.y, .int .i64 c.mv.z, .int .i64 c.aim.x, .int .i64 c.aim.y, .int .i64 c.aim.z, .int .i64 c.time] 50 from (by repeat' (first | (with_reducible assumption) | (refine Blk.new ?_; (first | (simp; done) | rfl); done) | (with_reducible refine Blk.alloc ?_) | (with_reducible refine Blk.drew ?_) | (with_reducible refine Blk.drewN ?_)))).after hb
    have hb1 : Below w.heap.size w w1 := bl (by go_grown) hb
    clear hb
    obtain ⟨a0, a1, a2, a3, a4, a5, a6, a7, a8, af, az⟩ := q0.nine
    go_wp2_with fail
    refine (from_small c.mv _ _ H1).mono ?_
    rintro e w2 ⟨rfl, hb⟩
    replace q0 := q0.after hb
    have hb2 : Below w.heap.size w w2 := bl (by go_grown) hb
    clear hb a0 a1 a2 a3 a4 a5 a6 a7 a8 af az hb1
    obtain ⟨a0, a1, a2, a3, a4, a5, a6, a7, a8, af, az⟩ := q0.nine
    go_wp2_with fail
    refine (from_small c.aim _ _ H2).mono ?_
    rintro e w3 ⟨rfl, hb⟩
    replace q0 := q0.after hb
    have hb3 : Below w.heap.size w w3 := bl (by go_grown) hb
    clear hb a0 a1 a2 a3 a4 a5 a6 a7 a8 af az hb2
    obtain ⟨a0, a1, a2, a3, a4, a5, a6, a7, a8, af, az⟩ := q0.nine
    go_wp2
    go_ret
    exact ⟨rfl, by go_grown⟩

set_option maxRecDepth 100000 in
set_option maxHeartbeats 4000000 in
theorem carried_yes (c : M.Cmd) (i v : Int) (w : World) (h : M.Fits c) (i1 : -9223372036854775808 ≤ i) (i2 : i ≤ 9223372036854775807) (v1 : -9223372036854775808 ≤ v) (v2 : v ≤ 9223372036854775807) :
    Calls Try.prog 10 #[.agg #[.int .i64 c.seq, .bool c.fire, .int .i64 c.mv.x, .int .i64 c.mv.y, .int .i64 c.mv.z, .int .i64 c.aim.x, .int .i64 c.aim.y, .int .i64 c.aim.z, .int .i64 c.time], .int .i64 i, .int .i64 v] w fun e w' => e = .returned (.bool true) ∧ Below w.heap.size w w' := by
  have hf := (M.fitsB_iff c).2 h
  have HS : Hid (M.encS c = c.pack) := by unfold Hid M.encS; rw [hf]; rfl
  have HE : Hid (M.encE c = 0) := by unfold Hid M.encE; rw [hf]; rfl
  have H1 : Hid (M.smallB c.mv = true) := (M.smallB_iff _).2 h.mv
  have H2 : Hid (M.smallB c.aim = true) := (M.smallB_iff _).2 h.aim
  have HR : Hid (M.decR c.pack = c) := M.decR_pack c h
  have HD : Hid (M.decE c.pack = 0) := M.decE_pack c h
  have d1 : decide (c.seq < 1) = false := by have := h.s1; simp; omega
  have d2 : decide (65535 < c.seq) = false := by have := h.s2; simp; omega
  have d3 : decide (c.time < 0) = false := by have := h.t1; simp; omega
  have d4 : decide (16777215 < c.time) = false := by have := h.t2; simp; omega
  have hps : c.pack.size = 14 := rfl
  have HM : Hid (c.pack.size ≤ maxLen) := by unfold Hid; rw [hps]; decide
  have HI : Hid ((-9223372036854775808 ≤ i ∧ i ≤ 9223372036854775807) ∧ -9223372036854775808 ≤ v ∧ v ≤ 9223372036854775807) := ⟨⟨i1, i2⟩, v1, v2⟩
  obtain ⟨P, hP⟩ : ∃ P, c.pack = P := ⟨_, rfl⟩
  have HPP : Hid (c.pack = P) := hP
  rw [hP] at hps HS HR HD HM
  clear hP hf h i1 i2 v1 v2
  go_enter Try.func10, Try.ntmps10
  go_wp2_with fail
  refine (encode_any c _).mono ?_
  rintro e w1 ⟨rfl, hb⟩
  rw [HS.out, HE.out]
  have q0 := (show Blk _ w.heap.size #[.int .i64 c.seq, .bool c.fire, .int .i64 c.mv.x, .int .i64 c.mv.y, .int .i64 c.mv.z, .int .i64 c.aim.x, .int .i64 c.aim.y, .int .i64 c.aim.z, .int .i64 c.time] 50 from (by repeat' (first | (with_reducible assumption) | (refine Blk.new ?_; (first | (simp; done) | rfl); done) | (with_reducible refine Blk.alloc ?_) | (with_reducible refine Blk.drew ?_) | (with_reducible refine Blk.drewN ?_)))).after hb
  have hb1 : Below w.heap.size w w1 := bl (by go_grown) hb
  clear hb
  obtain ⟨a0, a1, a2, a3, a4, a5, a6, a7, a8, af, az⟩ := q0.nine
  go_wp2_with fail
  refine (from_small c.mv _ _ H1).mono ?_
  rintro e w2 ⟨rfl, hb⟩
  replace q0 := q0.after hb
  have hb2 : Below w.heap.size w w2 := bl (by go_grown) hb
  clear hb a0 a1 a2 a3 a4 a5 a6 a7 a8 af az hb1
  obtain ⟨a0, a1, a2, a3, a4, a5, a6, a7, a8, af, az⟩ := q0.nine
  go_wp2_with fail
  refine (from_small c.aim _ _ H2).mono ?_
  rintro e w3 ⟨rfl, hb⟩
  replace q0 := q0.after hb
  have hb3 : Below w.heap.size w w3 := bl (by go_grown) hb
  clear hb a0 a1 a2 a3 a4 a5 a6 a7 a8 af az hb2
  obtain ⟨a0, a1, a2, a3, a4, a5, a6, a7, a8, af, az⟩ := q0.nine
  go_wp2_with fail
  refine (decode_any P _ c 0 HM.out HR HD).mono ?_
  rintro e w4 ⟨rfl, hb⟩
  replace q0 := q0.after hb
  have hb4 : Below w.heap.size w w4 := bl (by go_grown) hb
  clear hb a0 a1 a2 a3 a4 a5 a6 a7 a8 af az hb3
  obtain ⟨a0, a1, a2, a3, a4, a5, a6, a7, a8, af, az⟩ := q0.nine
  go_wp2_with fail
  refine (pick14_any i _ HI.out.1.1 HI.out.1.2).mono ?_
  rintro e w5 ⟨⟨j, rfl, hj⟩, rfl⟩
  have hbW : Below w.heap.size w (w4.alloc (.cells #[.int .i64 c.seq, .bool c.fire, .int .i64 c.mv.x, .int .i64 c.mv.y, .int .i64 c.mv.z, .int .i64 c.aim.x, .int .i64 c.aim.y, .int .i64 c.aim.z, .int .i64 c.time] 50)) := by go_grown
  clear a0 a1 a2 a3 a4 a5 a6 a7 a8 af az q0 hb4 d1 d2 d3 d4
  generalize w4.alloc (.cells #[.int .i64 c.seq, .bool c.fire, .int .i64 c.mv.x, .int .i64 c.mv.y, .int .i64 c.mv.z, .int .i64 c.aim.x, .int .i64 c.aim.y, .int .i64 c.aim.z, .int .i64 c.time] 50) = W5 at hbW ⊢
  obtain ⟨cap, W6, hconv, hBB, hB6, cap1, cap2⟩ := bytes_of W5 P hps
  have hz5 : w.heap.size ≤ W5.heap.size := hbW.size
  have hb6 : Below w.heap.size w W6 := bl hbW hB6
  have hL : P.data.toList.length = 14 := by simpa using hps
  have hcell := hBB.cell j (by omega)
  have hfree := hBB.free j (by omega)
  obtain ⟨x, hx⟩ : ∃ x, M.pk255 v = x := ⟨_, rfl⟩
  have HX : Hid (M.pk255 v = x) := hx
  have xb := M.pk255_bd v
  rw [hx] at xb
  obtain ⟨x1, x2⟩ := xb
  have j0 : (0 : Int) ≤ (j : Int) := by omega
  have j1 : (j : Int) < 14 := by omega
  unfold maxLen at cap2
  clear hx
  go_wp2_with fail
  clear hconv
  refine still_tail2 12 (by kernel_rfl) (by kernel_rfl) ?_
  simp only [List.take_succ_cons, List.take_zero, List.drop_succ_cons, List.drop_zero]
  repeat (first | still_step | still_call (pick255_at v _ HI.out.2.1 HI.out.2.2 x HX))
  refine wpStill_nil ?_
  obtain ⟨L2, hL2⟩ : ∃ L2, P.data.toList.set j (M.b8 ((P.data.toList[j].toNat : Int) + (1 + x))) = L2 := ⟨_, rfl⟩
  have len2 : L2.length = 14 := by rw [← hL2, List.length_set, hL]
  have HOK : Hid (M.okB ⟨L2.toArray⟩ = false) := by
    unfold Hid
    rw [← hL2]
    have := M.turned c j (1 + x) hj (by omega) (by omega)
    have e1 : c.lst = P.data.toList := by rw [← HPP.out]; rfl
    rw [e1] at this
    have e2 : P.data.toList.getD j 0 = P.data.toList[j] := by simp [List.getD_eq_getElem?_getD, hL, hj]
    rw [e2] at this
    exact this
  have B7 : BB (((W6.setCell ⟨W5.heap.size, j, none⟩ (.int .u8 (((P.data.toList[j].toNat : Int) + (1 + x)) % 256))).alloc (.cells #[.int .i64 0, .bool false, .int .i64 0, .int .i64 0, .int .i64 0, .int .i64 0, .int .i64 0, .int .i64 0, .int .i64 0] 50)).drew) W5.heap.size L2 := by
    have := hBB.set j (by omega) (M.b8 ((P.data.toList[j].toNat : Int) + (1 + x)))
    rw [M.b8_nat, hL2] at this
    exact this.alloc.drew
  have hconv2 := B7.conv 14 cap (by omega)
  rw [List.take_of_length_le (by omega)] at hconv2
  have HB7 : Hid (BB (((W6.setCell ⟨W5.heap.size, j, none⟩ (.int .u8 (((P.data.toList[j].toNat : Int) + (1 + x)) % 256))).alloc (.cells #[.int .i64 0, .bool false, .int .i64 0, .int .i64 0, .int .i64 0, .int .i64 0, .int .i64 0, .int .i64 0, .int .i64 0] 50)).drew) W5.heap.size L2) := B7
  simp only [Array.getElem_toList] at hconv2 HB7
  clear B7 hL2
  obtain ⟨P2, hP2⟩ : ∃ P2 : ByteArray, ⟨L2.toArray⟩ = P2 := ⟨_, rfl⟩
  rw [hP2] at HOK hconv2
  have s2 : P2.size = 14 := by rw [← hP2]; exact len2
  have HE2 : Hid (M.decE P2 = 8) := M.decE_no HOK.out (by omega)
  clear hP2
  have hzz : W5.heap.size < W6.heap.size := hBB.lt
  have hjj : j < P.data.size := by have : P.data.size = 14 := hps; omega
  go_wp2_with fail
  refine (decode_none P2 _ 8 (by rw [s2]; decide) HOK HE2).mono ?_
  rintro e w7 ⟨rfl, hb⟩
  have qn := (show Blk (((W6.setCell ⟨W5.heap.size, j, none⟩ (.int .u8 (((P.data[j].toNat : Int) + (1 + x)) % 256))).alloc (.cells #[.int .i64 0, .bool false, .int .i64 0, .int .i64 0, .int .i64 0, .int .i64 0, .int .i64 0, .int .i64 0, .int .i64 0] 50)).drew) W6.heap.size #[.int .i64 0, .bool false, .int .i64 0, .int .i64 0, .int .i64 0, .int .i64 0, .int .i64 0, .int .i64 0, .int .i64 0] 50 from Blk.drew (Blk.new (by simp))).after hb
  have B7 := HB7.out.after hb
  have hb7 : Below w.heap.size w w7 := bl (by go_grown) hb
  clear hb hBB hB6 hcell hfree hb6 HB7 hconv2
  obtain ⟨a0, a1, a2, a3, a4, a5, a6, a7, a8, af, az⟩ := qn.nine
  have HB8 : Hid (BB w7 W5.heap.size L2) := B7
  clear B7
  have HO3 : Hid (M.okB (P.extract 0 j) = false) := M.okB_size (by simp; omega)
  have HE3 : Hid (M.decE (P.extract 0 j) = 8) := M.decE_no HO3.out (by simp; omega)
  have HM3 : Hid ((P.extract 0 j).size ≤ maxLen) := by unfold Hid maxLen; simp; omega
  have z7 : w.heap.size ≤ w7.heap.size := hb7.size
  go_wp2_with fail
  refine (decode_none (P.extract 0 j) _ 8 HM3.out HO3 HE3).mono ?_
  rintro e w8 ⟨rfl, hb⟩
  replace qn := qn.alloc.after hb
  have B8 := HB8.out.alloc.after hb
  have hb8 : Below w.heap.size w w8 := bl (by go_grown) hb
  clear hb a0 a1 a2 a3 a4 a5 a6 a7 a8 af az hb7 HO3 HE3 HM3 HB8
  obtain ⟨a0, a1, a2, a3, a4, a5, a6, a7, a8, af, az⟩ := qn.nine
  have hconv3 := (B8.alloc (o := .cells #[.int .i64 0, .bool false, .int .i64 0, .int .i64 0, .int .i64 0, .int .i64 0, .int .i64 0, .int .i64 0, .int .i64 0] 50)).conv (1 + j) cap (by omega)
  obtain ⟨Q, hQ⟩ : ∃ Q : ByteArray, ⟨(L2.take (1 + j)).toArray⟩ = Q := ⟨_, rfl⟩
  rw [hQ] at hconv3
  have hQs : Q.size = 1 + j := by rw [← hQ]; show ((L2.take (1 + j)).toArray).size = _; simp; omega
  clear hQ
  have HO4 : Hid (M.okB (P ++ Q) = false) := M.okB_size (by rw [ByteArray.size_append]; omega)
  have HE4 : Hid (M.decE (P ++ Q) = 2) := M.decE_long (by rw [ByteArray.size_append]; omega)
  have HM4 : Hid ((P ++ Q).size ≤ maxLen) := by unfold Hid maxLen; rw [ByteArray.size_append]; omega
  have hj1 : (1 : Int) + (j : Int) ≤ (cap : Int) := by omega
  go_wp2_with fail
  refine (decode_none (P ++ Q) _ 2 HM4.out HO4 HE4).mono ?_
  rintro e w9 ⟨rfl, hb⟩
  replace qn := qn.alloc.after hb
  have hb9 : Below w.heap.size w w9 := bl (by go_grown) hb
  clear hb a0 a1 a2 a3 a4 a5 a6 a7 a8 af az hb8 HO4 HE4 HM4 hconv3
  obtain ⟨a0, a1, a2, a3, a4, a5, a6, a7, a8, af, az⟩ := qn.nine
  go_wp2
  go_ret
  exact ⟨rfl, by go_grown⟩

theorem carried_any (c : M.Cmd) (i v : Int) (w : World) (i1 : -9223372036854775808 ≤ i) (i2 : i ≤ 9223372036854775807) (v1 : -9223372036854775808 ≤ v) (v2 : v ≤ 9223372036854775807) :
    Calls Try.prog 10 #[.agg #[.int .i64 c.seq, .bool c.fire, .int .i64 c.mv.x, .int .i64 c.mv.y, .int .i64 c.mv.z, .int .i64 c.aim.x, .int .i64 c.aim.y, .int .i64 c.aim.z, .int .i64 c.time], .int .i64 i, .int .i64 v] w fun e w' => e = .returned (.bool true) ∧ Below w.heap.size w w' := by
  cases hf : c.fitsB
  · exact carried_no c i v w hf
  · exact carried_yes c i v w ((M.fitsB_iff c).1 hf) i1 i2 v1 v2

end Go.Proofs.Ytonmihojfcjmjaa
