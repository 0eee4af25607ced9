import Derived.Test.YtonmihojfcjmjaaGreatBGa
/- Contracts of the document's game: told. -/
namespace Go.Proofs.YtonmihojfcjmjaaGreat
open Go.RowKit
set_option linter.unusedVariables false
attribute [local go_sem] cell_set_off cell_set_blk

/-- In the cube. -/
structure M.InC (p : M.V3) : Prop where
  x1 : 0 ≤ p.x
  x2 : p.x ≤ 4096
  y1 : 0 ≤ p.y
  y2 : p.y ≤ 4096
  z1 : 0 ≤ p.z
  z2 : p.z ≤ 4096

theorem sq_bdR {a b : Int} (a1 : 0 ≤ a) (a2 : a ≤ 4096) (b1 : 0 ≤ b) (b2 : b ≤ 4096) : 0 ≤ (a - b) * (a - b) ∧ (a - b) * (a - b) ≤ 16777216 := by
  have h1 : -4096 ≤ a - b := by omega
  have h2 : a - b ≤ 4096 := by omega
  have := M.mul_bound h1 h2 h1 h2
  refine ⟨?_, by omega⟩
  by_cases h : 0 ≤ a - b
  · exact Int.mul_nonneg h h
  · exact Int.mul_nonneg_of_nonpos_of_nonpos (by omega) (by omega)

set_option maxRecDepth 100000 in
set_option maxHeartbeats 4000000 in
theorem gTold_any (b i j : Nat) (lx : Option Addr) (ln lc : Nat) (tv gv : Value) (g : M.Game) (wv : Nat → Value) (w : World) (hi : i < 8) (hj : j < 8) (h : Gc w b (.string g.map) (.slice lx ln lc) tv gv (fun i => seatV (g.seat i) (wv i)))
    (pi : M.InC (g.seat i).pos) (pj : M.InC (g.seat j).pos) (hm : g.map.size ≤ 512) (hwv : ∀ i, ∃ x n c, wv i = .slice x n c) (row : World → Prop) (h0 : row w) (hmono : ∀ W W' : World, row W → Below W.heap.size W W' → row W')
    (Z : ∀ (p : M.V3) (W : World), row W → Calls Tryz.prog 34 #[.slice lx ln lc, .agg #[.int .i64 p.x, .int .i64 p.y, .int .i64 p.z]] W fun e W' => e = .returned (.int .i64 (M.zR p g.leafs (-1))) ∧ Below W.heap.size W W') (B : Bool) (hB : Hid (g.told i j = B)) :
    Calls Tryz.prog 43 #[.pointer (some ⟨b, 0, none⟩), .int .i64 i, .int .i64 j] w fun e w' => e = .returned (.bool B) ∧ Below w.heap.size w w' := by
  obtain ⟨c0, c1, c2, c3, c4, c5, c6, c7, c8, c9, c10, c11, c12, c13, c14⟩ := h.seat hi (fun k _ => rfl)
  obtain ⟨d0, d1, d2, d3, d4, d5, d6, d7, d8, d9, d10, d11, d12, d13, d14⟩ := h.seat hj (fun k _ => rfl)
  have hb := h.lt
  have HG : Hid (Gc w b (.string g.map) (.slice lx ln lc) tv gv (fun i => seatV (g.seat i) (wv i))) := h
  have i0 : (0 : Int) ≤ (i : Int) := by omega
  have i1 : (i : Int) < 8 := by omega
  have j0 : (0 : Int) ≤ (j : Int) := by omega
  have j1 : (j : Int) < 8 := by omega
  generalize hsi : g.seat i = s at c0 c1 c2 c3 c4 c5 c6 c7 c8 c9 c10 c11 c12 c13 c14 pi
  generalize hsj : g.seat j = t at d0 d1 d2 d3 d4 d5 d6 d7 d8 d9 d10 d11 d12 d13 d14 pj
  obtain ⟨xi, ni, ci, hvi⟩ := hwv i
  obtain ⟨xj, nj, cj, hvj⟩ := hwv j
  rw [hvi] at c14
  rw [hvj] at d14
  clear hvi hvj hwv
  clear h
  by_cases e : i = j
  · as_aux_lemma =>
      obtain rfl : true = B := by rw [← hB.out]; unfold M.Game.told; simp [e]
      have z : ((i : Int) == (j : Int)) = true := by simp [e]
      clear hB hsi hsj e
      go_enter Tryz.func43, Tryz.ntmps43
      go_wp2
      go_ret
      exact ⟨rfl, by go_grown⟩
  · have z : ((i : Int) == (j : Int)) = false := beq_eq_false_iff_ne.2 (by omega)
    have HT : Hid ((t.here && t.live && decide ((s.pos.x - t.pos.x) * (s.pos.x - t.pos.x) + (s.pos.y - t.pos.y) * (s.pos.y - t.pos.y) + (s.pos.z - t.pos.z) * (s.pos.z - t.pos.z) ≤ 1048576) && M.sees g.map (M.zR s.pos g.leafs (-1)) (M.zR t.pos g.leafs (-1))) = B) := by
      unfold Hid
      rw [← hB.out]
      unfold M.Game.told
      rw [hsi, hsj]
      simp [e]
    clear hB hsi hsj e
    cases hh : t.here
    · as_aux_lemma =>
        obtain rfl : false = B := by rw [← HT.out, hh]; rfl
        rw [hh] at d0
        clear HT hh
        go_enter Tryz.func43, Tryz.ntmps43
        go_wp2
        go_ret
        exact ⟨rfl, by go_grown⟩
    cases hl : t.live
    · as_aux_lemma =>
        obtain rfl : false = B := by rw [← HT.out, hl]; simp
        rw [hh] at d0
        rw [hl] at d1
        clear HT hh hl
        go_enter Tryz.func43, Tryz.ntmps43
        go_wp2
        go_ret
        exact ⟨rfl, by go_grown⟩
    have HU : Hid ((decide ((s.pos.x - t.pos.x) * (s.pos.x - t.pos.x) + (s.pos.y - t.pos.y) * (s.pos.y - t.pos.y) + (s.pos.z - t.pos.z) * (s.pos.z - t.pos.z) ≤ 1048576) && M.sees g.map (M.zR s.pos g.leafs (-1)) (M.zR t.pos g.leafs (-1))) = B) := by unfold Hid; rw [← HT.out, hh, hl]; simp
    rw [hh] at d0
    rw [hl] at d1
    obtain ⟨x1, x2, y1, y2, z1, z2⟩ := pi
    obtain ⟨u1, u2, v1, v2, k1, k2⟩ := pj
    have m1 := sq_bdR x1 x2 u1 u2
    have m2 := sq_bdR y1 y2 v1 v2
    have m3 := sq_bdR z1 z2 k1 k2
    have e1 : wrap64 ((s.pos.x - t.pos.x) * (s.pos.x - t.pos.x)) = (s.pos.x - t.pos.x) * (s.pos.x - t.pos.x) := IntWalk.wrap64_in _ (by omega)
    have e2 : wrap64 ((s.pos.y - t.pos.y) * (s.pos.y - t.pos.y)) = (s.pos.y - t.pos.y) * (s.pos.y - t.pos.y) := IntWalk.wrap64_in _ (by omega)
    have e3 : wrap64 ((s.pos.z - t.pos.z) * (s.pos.z - t.pos.z)) = (s.pos.z - t.pos.z) * (s.pos.z - t.pos.z) := IntWalk.wrap64_in _ (by omega)
    have e4 : wrap64 ((s.pos.x - t.pos.x) * (s.pos.x - t.pos.x) + (s.pos.y - t.pos.y) * (s.pos.y - t.pos.y)) = (s.pos.x - t.pos.x) * (s.pos.x - t.pos.x) + (s.pos.y - t.pos.y) * (s.pos.y - t.pos.y) := IntWalk.wrap64_in _ (by omega)
    have e5 : wrap64 ((s.pos.x - t.pos.x) * (s.pos.x - t.pos.x) + (s.pos.y - t.pos.y) * (s.pos.y - t.pos.y) + (s.pos.z - t.pos.z) * (s.pos.z - t.pos.z)) = (s.pos.x - t.pos.x) * (s.pos.x - t.pos.x) + (s.pos.y - t.pos.y) * (s.pos.y - t.pos.y) + (s.pos.z - t.pos.z) * (s.pos.z - t.pos.z) := IntWalk.wrap64_in _ (by omega)
    clear HT hh hl m1 m2 m3
    by_cases hf : 1048576 < (s.pos.x - t.pos.x) * (s.pos.x - t.pos.x) + (s.pos.y - t.pos.y) * (s.pos.y - t.pos.y) + (s.pos.z - t.pos.z) * (s.pos.z - t.pos.z)
    · as_aux_lemma =>
        obtain rfl : false = B := by rw [← HU.out, decide_eq_false (by omega)]; rfl
        clear HU
        go_enter Tryz.func43, Tryz.ntmps43
        go_wp2
        go_ret
        exact ⟨rfl, by go_grown⟩
    · as_aux_lemma =>
        have HV : Hid (M.sees g.map (M.zR s.pos g.leafs (-1)) (M.zR t.pos g.leafs (-1)) = B) := by unfold Hid; rw [← HU.out, decide_eq_true (by omega)]; rfl
        have HZ : Hid (∀ (p : M.V3) (W : World), row W → Calls Tryz.prog 34 #[.slice lx ln lc, .agg #[.int .i64 p.x, .int .i64 p.y, .int .i64 p.z]] W fun e W' => e = .returned (.int .i64 (M.zR p g.leafs (-1))) ∧ Below W.heap.size W W') := Z
        have HM : Hid (∀ W W' : World, row W → Below W.heap.size W W' → row W') := hmono
        have HR : Hid (row w) := h0
        clear HU Z hmono h0
        go_enter Tryz.func43, Tryz.ntmps43
        go_wp2_with fail
        have q0 : Blk ((w.alloc (.cells #[.bool s.here, .bool s.live, .int .i64 s.pos.x, .int .i64 s.pos.y, .int .i64 s.pos.z, .int .i64 s.home.x, .int .i64 s.home.y, .int .i64 s.home.z, .int .i64 s.health, .int .i64 s.ammo, .int .i64 s.shot, .int .i64 s.died, .int .i64 s.gen, .int .i64 s.last, .slice xi ni ci] 74)).alloc (.cells #[.bool true, .bool true, .int .i64 t.pos.x, .int .i64 t.pos.y, .int .i64 t.pos.z, .int .i64 t.home.x, .int .i64 t.home.y, .int .i64 t.home.z, .int .i64 t.health, .int .i64 t.ammo, .int .i64 t.shot, .int .i64 t.died, .int .i64 t.gen, .int .i64 t.last, .slice xj nj cj] 74)) w.heap.size #[.bool s.here, .bool s.live, .int .i64 s.pos.x, .int .i64 s.pos.y, .int .i64 s.pos.z, .int .i64 s.home.x, .int .i64 s.home.y, .int .i64 s.home.z, .int .i64 s.health, .int .i64 s.ammo, .int .i64 s.shot, .int .i64 s.died, .int .i64 s.gen, .int .i64 s.last, .slice xi ni ci] 74 := (Blk.new rfl).alloc
        have q1 : Blk ((w.alloc (.cells #[.bool s.here, .bool s.live, .int .i64 s.pos.x, .int .i64 s.pos.y, .int .i64 s.pos.z, .int .i64 s.home.x, .int .i64 s.home.y, .int .i64 s.home.z, .int .i64 s.health, .int .i64 s.ammo, .int .i64 s.shot, .int .i64 s.died, .int .i64 s.gen, .int .i64 s.last, .slice xi ni ci] 74)).alloc (.cells #[.bool true, .bool true, .int .i64 t.pos.x, .int .i64 t.pos.y, .int .i64 t.pos.z, .int .i64 t.home.x, .int .i64 t.home.y, .int .i64 t.home.z, .int .i64 t.health, .int .i64 t.ammo, .int .i64 t.shot, .int .i64 t.died, .int .i64 t.gen, .int .i64 t.last, .slice xj nj cj] 74)) (w.heap.size + 1) #[.bool true, .bool true, .int .i64 t.pos.x, .int .i64 t.pos.y, .int .i64 t.pos.z, .int .i64 t.home.x, .int .i64 t.home.y, .int .i64 t.home.z, .int .i64 t.health, .int .i64 t.ammo, .int .i64 t.shot, .int .i64 t.died, .int .i64 t.gen, .int .i64 t.last, .slice xj nj cj] 74 := Blk.new (by simp)
        have B1 : Below w.heap.size w ((w.alloc (.cells #[.bool s.here, .bool s.live, .int .i64 s.pos.x, .int .i64 s.pos.y, .int .i64 s.pos.z, .int .i64 s.home.x, .int .i64 s.home.y, .int .i64 s.home.z, .int .i64 s.health, .int .i64 s.ammo, .int .i64 s.shot, .int .i64 s.died, .int .i64 s.gen, .int .i64 s.last, .slice xi ni ci] 74)).alloc (.cells #[.bool true, .bool true, .int .i64 t.pos.x, .int .i64 t.pos.y, .int .i64 t.pos.z, .int .i64 t.home.x, .int .i64 t.home.y, .int .i64 t.home.z, .int .i64 t.health, .int .i64 t.ammo, .int .i64 t.shot, .int .i64 t.died, .int .i64 t.gen, .int .i64 t.last, .slice xj nj cj] 74)) := by go_grown
        generalize (w.alloc (.cells #[.bool s.here, .bool s.live, .int .i64 s.pos.x, .int .i64 s.pos.y, .int .i64 s.pos.z, .int .i64 s.home.x, .int .i64 s.home.y, .int .i64 s.home.z, .int .i64 s.health, .int .i64 s.ammo, .int .i64 s.shot, .int .i64 s.died, .int .i64 s.gen, .int .i64 s.last, .slice xi ni ci] 74)).alloc (.cells #[.bool true, .bool true, .int .i64 t.pos.x, .int .i64 t.pos.y, .int .i64 t.pos.z, .int .i64 t.home.x, .int .i64 t.home.y, .int .i64 t.home.z, .int .i64 t.health, .int .i64 t.ammo, .int .i64 t.shot, .int .i64 t.died, .int .i64 t.gen, .int .i64 t.last, .slice xj nj cj] 74) = W1 at q0 q1 B1 ⊢
        have HR1 : Hid (row W1) := HM.out w W1 HR.out B1
        have HG1 : Hid (Gc W1 b (.string g.map) (.slice lx ln lc) tv gv (fun i => seatV (g.seat i) (wv i))) := HG.out.after B1
        have HQ0 : Hid (Blk W1 w.heap.size #[.bool s.here, .bool s.live, .int .i64 s.pos.x, .int .i64 s.pos.y, .int .i64 s.pos.z, .int .i64 s.home.x, .int .i64 s.home.y, .int .i64 s.home.z, .int .i64 s.health, .int .i64 s.ammo, .int .i64 s.shot, .int .i64 s.died, .int .i64 s.gen, .int .i64 s.last, .slice xi ni ci] 74) := q0
        have HQ1 : Hid (Blk W1 (w.heap.size + 1) #[.bool true, .bool true, .int .i64 t.pos.x, .int .i64 t.pos.y, .int .i64 t.pos.z, .int .i64 t.home.x, .int .i64 t.home.y, .int .i64 t.home.z, .int .i64 t.health, .int .i64 t.ammo, .int .i64 t.shot, .int .i64 t.died, .int .i64 t.gen, .int .i64 t.last, .slice xj nj cj] 74) := q1
        have a2 := q0.cell 2
        have a3 := q0.cell 3
        have a4 := q0.cell 4
        simp only [List.getElem?_toArray, List.getElem?_cons_zero, List.getElem?_cons_succ] at a2 a3 a4
        have az := q0.lt
        have cl := HG1.out.cl
        have bz := HG1.out.lt
        clear q0 q1 c0 c1 c2 c3 c4 c5 c6 c7 c8 c9 c10 c11 c12 c13 c14 d0 d1 d2 d3 d4 d5 d6 d7 d8 d9 d10 d11 d12 d13 d14 e1 e2 e3 e4 e5
        go_region_held3 (fun w' => w'.cell? ⟨b, 1, none⟩ = some (.slice lx ln lc) ∧ w'.cell? ⟨w.heap.size, 2, none⟩ = some (.int .i64 s.pos.x) ∧ w'.cell? ⟨w.heap.size, 3, none⟩ = some (.int .i64 s.pos.y) ∧ w'.cell? ⟨w.heap.size, 4, none⟩ = some (.int .i64 s.pos.z)) (go_keep)
          ((go_at_call 34; refine (HZ.out s.pos _ (HM.out W1 _ HR1.out (by go_grown))).mono ?_; rintro e w2 ⟨rfl, hb2⟩; have B2 : Below W1.heap.size W1 w2 := bl (by go_grown) hb2; clear hb2; obtain m1 := (HG1.out.after B2).cl; have m2 := (HQ0.out.after B2).cell 2; have m3 := (HQ0.out.after B2).cell 3; have m4 := (HQ0.out.after B2).cell 4; simp only [List.getElem?_toArray, List.getElem?_cons_zero, List.getElem?_cons_succ] at m2 m3 m4))
        have HB2 : Hid (Below W1.heap.size W1 w2) := B2
        have HG2 : Hid (Gc w2 b (.string g.map) (.slice lx ln lc) tv gv (fun i => seatV (g.seat i) (wv i))) := HG1.out.after B2
        have HR2 : Hid (row w2) := HM.out W1 w2 HR1.out B2
        have HQ2 := HQ1.out.after B2
        have HQ3 : Hid (Blk w2 _ _ _) := HQ2
        have b2 := HQ2.cell 2
        have b3 := HQ2.cell 3
        have b4 := HQ2.cell 4
        simp only [List.getElem?_toArray, List.getElem?_cons_zero, List.getElem?_cons_succ] at b2 b3 b4
        have bz2 := HQ2.lt
        have cl2 := HG2.out.cl
        have cb2 := HG2.out.lt
        have HW : Hid (w.heap.size ≤ W1.heap.size) := B1.size
        clear B2 HQ2 m1 m2 m3 m4 a2 a3 a4 az cl bz
        go_wp2_with fail
        go_region_held3 (fun w' => w'.cell? ⟨b, 1, none⟩ = some (.slice lx ln lc) ∧ w'.cell? ⟨w.heap.size + 1, 2, none⟩ = some (.int .i64 t.pos.x) ∧ w'.cell? ⟨w.heap.size + 1, 3, none⟩ = some (.int .i64 t.pos.y) ∧ w'.cell? ⟨w.heap.size + 1, 4, none⟩ = some (.int .i64 t.pos.z)) (go_keep)
          ((go_at_call 34; refine (HZ.out t.pos _ (HM.out w2 _ HR2.out (by go_grown))).mono ?_; rintro e w3 ⟨rfl, hb3⟩; have B3 : Below w2.heap.size w2 w3 := bl (by go_grown) hb3; clear hb3; obtain m1 := (HG2.out.after B3).cl; have m2 := (HQ3.out.after B3).cell 2; have m3 := (HQ3.out.after B3).cell 3; have m4 := (HQ3.out.after B3).cell 4; simp only [List.getElem?_toArray, List.getElem?_cons_zero, List.getElem?_cons_succ] at m2 m3 m4))
        have cm := (HG2.out.after B3).cm
        have hlast : Below w.heap.size w w3 := bl (bl B1 HB2.out) B3
        have HL : Hid (Below w.heap.size w w3) := hlast
        clear m1 m2 m3 m4 b2 b3 b4 bz2 cl2 cb2 B3 hlast
        go_wp2_with fail
        refine (rsees_any g.map _ _ _ hm B HV).mono ?_
        rintro e w4 ⟨rfl, rfl⟩
        go_wp2
        go_ret
        exact ⟨rfl, HL.out⟩
end Go.Proofs.YtonmihojfcjmjaaGreat
