import Derived.Test.YtonmihojfcjmjaaGreatGr7
/- Contracts of the document's game: moved. -/
namespace Go.Proofs.YtonmihojfcjmjaaGreat
open Go.RowKit
set_option linter.unusedVariables false
attribute [local go_sem] cell_set_off cell_set_blk

set_option maxHeartbeats 400000 in
theorem raxis_0 (p : M.V3) (w : World) : Calls Tryz.prog 30 #[.agg #[.int .i64 p.x, .int .i64 p.y, .int .i64 p.z], .int .i64 0] w fun e w' => e = .returned (.int .i64 p.x) ∧ Below w.heap.size w w' := by
  go_enter Tryz.func30, Tryz.ntmps30
  go_wp2
  go_ret
  exact ⟨rfl, by go_grown⟩
set_option maxHeartbeats 400000 in
theorem rwith_0 (p : M.V3) (u : Int) (w : World) : Calls Tryz.prog 31 #[.agg #[.int .i64 p.x, .int .i64 p.y, .int .i64 p.z], .int .i64 0, .int .i64 u] w fun e w' => e = .returned (.agg #[.int .i64 u, .int .i64 p.y, .int .i64 p.z]) ∧ Below w.heap.size w w' := by
  go_enter Tryz.func31, Tryz.ntmps31
  go_wp2
  exact bodyPost_ret (v := .agg #[.int .i64 u, .int .i64 p.y, .int .i64 p.z]) (by simp [results, Tryz.results31, go_sem]) rfl ⟨rfl, by go_grown⟩
set_option maxHeartbeats 400000 in
theorem raxis_1 (p : M.V3) (w : World) : Calls Tryz.prog 30 #[.agg #[.int .i64 p.x, .int .i64 p.y, .int .i64 p.z], .int .i64 1] w fun e w' => e = .returned (.int .i64 p.y) ∧ Below w.heap.size w w' := by
  go_enter Tryz.func30, Tryz.ntmps30
  go_wp2
  go_ret
  exact ⟨rfl, by go_grown⟩
set_option maxHeartbeats 400000 in
theorem rwith_1 (p : M.V3) (u : Int) (w : World) : Calls Tryz.prog 31 #[.agg #[.int .i64 p.x, .int .i64 p.y, .int .i64 p.z], .int .i64 1, .int .i64 u] w fun e w' => e = .returned (.agg #[.int .i64 p.x, .int .i64 u, .int .i64 p.z]) ∧ Below w.heap.size w w' := by
  go_enter Tryz.func31, Tryz.ntmps31
  go_wp2
  exact bodyPost_ret (v := .agg #[.int .i64 p.x, .int .i64 u, .int .i64 p.z]) (by simp [results, Tryz.results31, go_sem]) rfl ⟨rfl, by go_grown⟩
set_option maxHeartbeats 400000 in
theorem raxis_2 (p : M.V3) (w : World) : Calls Tryz.prog 30 #[.agg #[.int .i64 p.x, .int .i64 p.y, .int .i64 p.z], .int .i64 2] w fun e w' => e = .returned (.int .i64 p.z) ∧ Below w.heap.size w w' := by
  go_enter Tryz.func30, Tryz.ntmps30
  go_wp2
  go_ret
  exact ⟨rfl, by go_grown⟩
set_option maxHeartbeats 400000 in
theorem rwith_2 (p : M.V3) (u : Int) (w : World) : Calls Tryz.prog 31 #[.agg #[.int .i64 p.x, .int .i64 p.y, .int .i64 p.z], .int .i64 2, .int .i64 u] w fun e w' => e = .returned (.agg #[.int .i64 p.x, .int .i64 p.y, .int .i64 u]) ∧ Below w.heap.size w w' := by
  go_enter Tryz.func31, Tryz.ntmps31
  go_wp2
  exact bodyPost_ret (v := .agg #[.int .i64 p.x, .int .i64 p.y, .int .i64 u]) (by simp [results, Tryz.results31, go_sem]) rfl ⟨rfl, by go_grown⟩
theorem Blk.set3b {W : World} {b : Nat} {x0 x1 x2 : Value} {t : TypeId} (h : Blk W b #[x0, x1, x2] t) (y0 y1 y2 : Value) : Blk (((W.setCell ⟨b, 0, none⟩ y0).setCell ⟨b, 1, none⟩ y1).setCell ⟨b, 2, none⟩ y2) b #[y0, y1, y2] t := by
  have e := ((h.set 0 y0).set 1 y1).set 2 y2
  simp only [List.setIfInBounds_toArray, List.set_cons_succ, List.set_cons_zero] at e
  exact e
theorem Blk.off3 {W : World} {b c : Nat} {cs : Array Value} {t : TypeId} (h : Blk W b cs t) (y0 y1 y2 : Value) (hne : b ≠ c) : Blk (((W.setCell ⟨c, 0, none⟩ y0).setCell ⟨c, 1, none⟩ y1).setCell ⟨c, 2, none⟩ y2) b cs t := ((h.other 0 y0 hne).other 1 y1 hne).other 2 y2 hne

/-- The goal, so far. -/
def M.goalTo (p m : M.V3) (j : Nat) : M.V3 := ⟨if 0 < j then (M.goal p m).x else p.x, if 1 < j then (M.goal p m).y else p.y, if 2 < j then (M.goal p m).z else p.z⟩

set_option maxRecDepth 100000 in
set_option maxHeartbeats 4000000 in
theorem gMoved_any (b : Nat) (m tv gv : Value) (lx : Option Addr) (ln lc : Nat) (f : Nat → Nat → Value) (p v : M.V3) (w : World) (h : Gc w b m (.slice lx ln lc) tv gv f) (hp : M.InC p) (row : World → Prop) (h0 : row w) (hmono : ∀ W W' : World, row W → Below W.heap.size W W' → row W')
    (wall : Bool) (T : ∀ W : World, row W → Calls Tryz.prog 82 #[.slice lx ln lc, .agg #[.int .i64 p.x, .int .i64 p.y, .int .i64 p.z], .agg #[.int .i64 ((M.goal p v).x - p.x), .int .i64 ((M.goal p v).y - p.y), .int .i64 ((M.goal p v).z - p.z)]] W fun e W' => (∃ n k : Int, e = .returned (.tuple #[.bool wall, .int .i64 n, .int .i64 k])) ∧ Below W.heap.size W W') :
    Calls Tryz.prog 63 #[.pointer (some ⟨b, 0, none⟩), .agg #[.int .i64 p.x, .int .i64 p.y, .int .i64 p.z], .agg #[.int .i64 v.x, .int .i64 v.y, .int .i64 v.z]] w fun e w' => e = .returned (.agg #[.int .i64 (if wall then p else M.goal p v).x, .int .i64 (if wall then p else M.goal p v).y, .int .i64 (if wall then p else M.goal p v).z]) ∧ Below w.heap.size w w' := by
  obtain ⟨x1, x2, y1, y2, z1, z2⟩ := hp
  have HG : Hid (Gc w b m (.slice lx ln lc) tv gv f) := h
  have HT : Hid (∀ W : World, row W → Calls Tryz.prog 82 #[.slice lx ln lc, .agg #[.int .i64 p.x, .int .i64 p.y, .int .i64 p.z], .agg #[.int .i64 ((M.goal p v).x - p.x), .int .i64 ((M.goal p v).y - p.y), .int .i64 ((M.goal p v).z - p.z)]] W fun e W' => (∃ n k : Int, e = .returned (.tuple #[.bool wall, .int .i64 n, .int .i64 k])) ∧ Below W.heap.size W W') := T
  have HM : Hid (∀ W W' : World, row W → Below W.heap.size W W' → row W') := hmono
  have H0 : Hid (row w) := h0
  have bx := M.bring_bd (v := v.x) (lo := -32) (hi := 32) (by omega)
  have by' := M.bring_bd (v := v.y) (lo := -32) (hi := 32) (by omega)
  have bz := M.bring_bd (v := v.z) (lo := -32) (hi := 32) (by omega)
  obtain ⟨bx1, bx2⟩ := bx
  obtain ⟨by1, by2⟩ := by'
  obtain ⟨bz1, bz2⟩ := bz
  have gx := M.bring_bd (v := p.x + M.bring v.x (-32) 32) (lo := 0) (hi := 4096) (by omega)
  have gy := M.bring_bd (v := p.y + M.bring v.y (-32) 32) (lo := 0) (hi := 4096) (by omega)
  have gz := M.bring_bd (v := p.z + M.bring v.z (-32) 32) (lo := 0) (hi := 4096) (by omega)
  obtain ⟨gx1, gx2⟩ := gx
  obtain ⟨gy1, gy2⟩ := gy
  obtain ⟨gz1, gz2⟩ := gz
  clear h T hmono h0
  go_enter Tryz.func63, Tryz.ntmps63
  go_wp2_with fail
  go_loopg [8] 4 (fun k u8 wr => ∃ j : Nat, u8 = .int .i64 j ∧ j ≤ 3 ∧ k + j = 4 ∧ Below w.heap.size w wr ∧ Blk wr w.heap.size #[.int .i64 p.x, .int .i64 p.y, .int .i64 p.z] 27 ∧ Blk wr (w.heap.size + 1) #[.int .i64 v.x, .int .i64 v.y, .int .i64 v.z] 27 ∧ Blk wr (w.heap.size + 1 + 1) #[.int .i64 0, .int .i64 0, .int .i64 0] 27 ∧
    Blk wr (w.heap.size + 1 + 1 + 1) #[.int .i64 (M.goalTo p v j).x, .int .i64 (M.goalTo p v j).y, .int .i64 (M.goalTo p v j).z] 27)
  case atStart => exact ⟨0, rfl, by omega, rfl, by go_grown, by repeat' (first | (with_reducible assumption) | (refine Blk.new ?_; (first | (simp; done) | rfl); done) | (with_reducible refine Blk.alloc ?_) | (with_reducible refine Blk.drew ?_) | (with_reducible refine Blk.drewN ?_)), by repeat' (first | (with_reducible assumption) | (refine Blk.new ?_; (first | (simp; done) | rfl); done) | (with_reducible refine Blk.alloc ?_) | (with_reducible refine Blk.drew ?_) | (with_reducible refine Blk.drewN ?_)), by repeat' (first | (with_reducible assumption) | (refine Blk.new ?_; (first | (simp; done) | rfl); done) | (with_reducible refine Blk.alloc ?_) | (with_reducible refine Blk.drew ?_) | (with_reducible refine Blk.drewN ?_)), by repeat' (first | (with_reducible assumption) | (refine Blk.new ?_; (first | (simp; done) | rfl); done) | (with_reducible refine Blk.alloc ?_) | (with_reducible refine Blk.drew ?_) | (with_reducible refine Blk.drewN ?_))⟩
  case round =>
    obtain ⟨j, rfl, hj, hk, hB, q0, q1, q2, q3⟩ := hrel
    obtain ⟨a0, a1, a2, af, az⟩ := q0.three
    obtain ⟨b0, b1, b2, bf, bz⟩ := q1.three
    obtain ⟨c0, c1, c2, cf, cz⟩ := q2.three
    obtain ⟨d0, d1, d2, df, dz⟩ := q3.three
    by_cases hlt : j < 3
    · have : j = 0 ∨ j = 1 ∨ j = 2 := by omega
      rcases this with rfl | rfl | rfl
      · go_wp2_with fail
        refine (raxis_0 v _).mono ?_
        rintro e w2 ⟨rfl, hb⟩
        have B2 : Below w.heap.size w w2 := bl (by go_grown) hb
        replace q0 := q0.after hb
        replace q1 := q1.after hb
        replace q2 := q2.after hb
        replace q3 := q3.after hb
        clear hb hB a0 a1 a2 af az b0 b1 b2 bf bz c0 c1 c2 cf cz d0 d1 d2 df dz
        have hB := B2
        clear B2
        obtain ⟨a0, a1, a2, af, az⟩ := q0.three
        obtain ⟨b0, b1, b2, bf, bz⟩ := q1.three
        obtain ⟨c0, c1, c2, cf, cz⟩ := q2.three
        obtain ⟨d0, d1, d2, df, dz⟩ := q3.three
        go_wp2_with fail
        refine (rbring_any v.x (-32) 32 _).mono ?_
        rintro e w9 ⟨rfl, rfl⟩
        go_wp2_with fail
        refine (raxis_0 p _).mono ?_
        rintro e w3 ⟨rfl, hb⟩
        have B3 : Below w.heap.size w w3 := bl (by go_grown) hb
        replace q0 := q0.after hb
        replace q1 := q1.after hb
        replace q2 := q2.after hb
        replace q3 := q3.after hb
        clear hb hB a0 a1 a2 af az b0 b1 b2 bf bz c0 c1 c2 cf cz d0 d1 d2 df dz
        have hB := B3
        clear B3
        obtain ⟨a0, a1, a2, af, az⟩ := q0.three
        obtain ⟨b0, b1, b2, bf, bz⟩ := q1.three
        obtain ⟨c0, c1, c2, cf, cz⟩ := q2.three
        obtain ⟨d0, d1, d2, df, dz⟩ := q3.three
        go_wp2_with fail
        refine (rbring_any (p.x + M.bring v.x (-32) 32) 0 4096 _).mono ?_
        rintro e w9 ⟨rfl, rfl⟩
        go_wp2_with fail
        refine (rwith_0 (M.goalTo p v 0) _ _).mono ?_
        rintro e w4 ⟨rfl, hb⟩
        have B4 : Below w.heap.size w w4 := bl (by go_grown) hb
        replace q0 := q0.after hb
        replace q1 := q1.after hb
        replace q2 := q2.after hb
        replace q3 := q3.after hb
        clear hb hB a0 a1 a2 af az b0 b1 b2 bf bz c0 c1 c2 cf cz d0 d1 d2 df dz
        have hB := B4
        clear B4
        obtain ⟨a0, a1, a2, af, az⟩ := q0.three
        obtain ⟨b0, b1, b2, bf, bz⟩ := q1.three
        obtain ⟨c0, c1, c2, cf, cz⟩ := q2.three
        obtain ⟨d0, d1, d2, df, dz⟩ := q3.three
        go_wp2
        go_roundg (gk - 1)
        case measure => omega
        case rel => exact ⟨0 + 1, by go_num, by omega, by omega, by go_grown, q0.off3 _ _ _ (by omega), q1.off3 _ _ _ (by omega), q2.off3 _ _ _ (by omega), q3.set3b _ _ _⟩
      · go_wp2_with fail
        refine (raxis_1 v _).mono ?_
        rintro e w2 ⟨rfl, hb⟩
        have B2 : Below w.heap.size w w2 := bl (by go_grown) hb
        replace q0 := q0.after hb
        replace q1 := q1.after hb
        replace q2 := q2.after hb
        replace q3 := q3.after hb
        clear hb hB a0 a1 a2 af az b0 b1 b2 bf bz c0 c1 c2 cf cz d0 d1 d2 df dz
        have hB := B2
        clear B2
        obtain ⟨a0, a1, a2, af, az⟩ := q0.three
        obtain ⟨b0, b1, b2, bf, bz⟩ := q1.three
        obtain ⟨c0, c1, c2, cf, cz⟩ := q2.three
        obtain ⟨d0, d1, d2, df, dz⟩ := q3.three
        go_wp2_with fail
        refine (rbring_any v.y (-32) 32 _).mono ?_
        rintro e w9 ⟨rfl, rfl⟩
        go_wp2_with fail
        refine (raxis_1 p _).mono ?_
        rintro e w3 ⟨rfl, hb⟩
        have B3 : Below w.heap.size w w3 := bl (by go_grown) hb
        replace q0 := q0.after hb
        replace q1 := q1.after hb
        replace q2 := q2.after hb
        replace q3 := q3.after hb
        clear hb hB a0 a1 a2 af az b0 b1 b2 bf bz c0 c1 c2 cf cz d0 d1 d2 df dz
        have hB := B3
        clear B3
        obtain ⟨a0, a1, a2, af, az⟩ := q0.three
        obtain ⟨b0, b1, b2, bf, bz⟩ := q1.three
        obtain ⟨c0, c1, c2, cf, cz⟩ := q2.three
        obtain ⟨d0, d1, d2, df, dz⟩ := q3.three
        go_wp2_with fail
        refine (rbring_any (p.y + M.bring v.y (-32) 32) 0 4096 _).mono ?_
        rintro e w9 ⟨rfl, rfl⟩
        go_wp2_with fail
        refine (rwith_1 (M.goalTo p v 1) _ _).mono ?_
        rintro e w4 ⟨rfl, hb⟩
        have B4 : Below w.heap.size w w4 := bl (by go_grown) hb
        replace q0 := q0.after hb
        replace q1 := q1.after hb
        replace q2 := q2.after hb
        replace q3 := q3.after hb
        clear hb hB a0 a1 a2 af az b0 b1 b2 bf bz c0 c1 c2 cf cz d0 d1 d2 df dz
        have hB := B4
        clear B4
        obtain ⟨a0, a1, a2, af, az⟩ := q0.three
        obtain ⟨b0, b1, b2, bf, bz⟩ := q1.three
        obtain ⟨c0, c1, c2, cf, cz⟩ := q2.three
        obtain ⟨d0, d1, d2, df, dz⟩ := q3.three
        go_wp2
        go_roundg (gk - 1)
        case measure => omega
        case rel => exact ⟨1 + 1, by go_num, by omega, by omega, by go_grown, q0.off3 _ _ _ (by omega), q1.off3 _ _ _ (by omega), q2.off3 _ _ _ (by omega), q3.set3b _ _ _⟩
      · go_wp2_with fail
        refine (raxis_2 v _).mono ?_
        rintro e w2 ⟨rfl, hb⟩
        have B2 : Below w.heap.size w w2 := bl (by go_grown) hb
        replace q0 := q0.after hb
        replace q1 := q1.after hb
        replace q2 := q2.after hb
        replace q3 := q3.after hb
        clear hb hB a0 a1 a2 af az b0 b1 b2 bf bz c0 c1 c2 cf cz d0 d1 d2 df dz
        have hB := B2
        clear B2
        obtain ⟨a0, a1, a2, af, az⟩ := q0.three
        obtain ⟨b0, b1, b2, bf, bz⟩ := q1.three
        obtain ⟨c0, c1, c2, cf, cz⟩ := q2.three
        obtain ⟨d0, d1, d2, df, dz⟩ := q3.three
        go_wp2_with fail
        refine (rbring_any v.z (-32) 32 _).mono ?_
        rintro e w9 ⟨rfl, rfl⟩
        go_wp2_with fail
        refine (raxis_2 p _).mono ?_
        rintro e w3 ⟨rfl, hb⟩
        have B3 : Below w.heap.size w w3 := bl (by go_grown) hb
        replace q0 := q0.after hb
        replace q1 := q1.after hb
        replace q2 := q2.after hb
        replace q3 := q3.after hb
        clear hb hB a0 a1 a2 af az b0 b1 b2 bf bz c0 c1 c2 cf cz d0 d1 d2 df dz
        have hB := B3
        clear B3
        obtain ⟨a0, a1, a2, af, az⟩ := q0.three
        obtain ⟨b0, b1, b2, bf, bz⟩ := q1.three
        obtain ⟨c0, c1, c2, cf, cz⟩ := q2.three
        obtain ⟨d0, d1, d2, df, dz⟩ := q3.three
        go_wp2_with fail
        refine (rbring_any (p.z + M.bring v.z (-32) 32) 0 4096 _).mono ?_
        rintro e w9 ⟨rfl, rfl⟩
        go_wp2_with fail
        refine (rwith_2 (M.goalTo p v 2) _ _).mono ?_
        rintro e w4 ⟨rfl, hb⟩
        have B4 : Below w.heap.size w w4 := bl (by go_grown) hb
        replace q0 := q0.after hb
        replace q1 := q1.after hb
        replace q2 := q2.after hb
        replace q3 := q3.after hb
        clear hb hB a0 a1 a2 af az b0 b1 b2 bf bz c0 c1 c2 cf cz d0 d1 d2 df dz
        have hB := B4
        clear B4
        obtain ⟨a0, a1, a2, af, az⟩ := q0.three
        obtain ⟨b0, b1, b2, bf, bz⟩ := q1.three
        obtain ⟨c0, c1, c2, cf, cz⟩ := q2.three
        obtain ⟨d0, d1, d2, df, dz⟩ := q3.three
        go_wp2
        go_roundg (gk - 1)
        case measure => omega
        case rel => exact ⟨2 + 1, by go_num, by omega, by omega, by go_grown, q0.off3 _ _ _ (by omega), q1.off3 _ _ _ (by omega), q2.off3 _ _ _ (by omega), q3.set3b _ _ _⟩
    · obtain rfl : j = 3 := by omega
      have e3 : M.goalTo p v 3 = M.goal p v := rfl
      rw [e3] at q3 d0 d1 d2
      have hB1 := hB
      have HGr := HG.out.after hB
      have cl := HGr.cl
      have bz3 := HGr.lt
      have HBr : Hid (Below w.heap.size w wr) := hB
      have HRr : Hid (row wr) := HM.out w wr H0.out hB
      have HGR : Hid (Gc wr b m (.slice lx ln lc) tv gv f) := HGr
      have g1 : 0 ≤ (M.goal p v).x ∧ (M.goal p v).x ≤ 4096 := ⟨gx1, gx2⟩
      have g2 : 0 ≤ (M.goal p v).y ∧ (M.goal p v).y ≤ 4096 := ⟨gy1, gy2⟩
      have g3 : 0 ≤ (M.goal p v).z ∧ (M.goal p v).z ≤ 4096 := ⟨gz1, gz2⟩
      obtain ⟨r, hr⟩ : ∃ r, M.goal p v = r := ⟨_, rfl⟩
      have HRG : Hid (M.goal p v = r) := hr
      rw [hr] at q3 d0 d1 d2 g1 g2 g3
      obtain ⟨k1, k2⟩ := g1
      obtain ⟨k3, k4⟩ := g2
      obtain ⟨k5, k6⟩ := g3
      have HT2 := HT.out
      rw [hr] at HT2
      have HT3 : Hid (∀ W : World, row W → Calls Tryz.prog 82 #[.slice lx ln lc, .agg #[.int .i64 p.x, .int .i64 p.y, .int .i64 p.z], .agg #[.int .i64 (r.x - p.x), .int .i64 (r.y - p.y), .int .i64 (r.z - p.z)]] W fun e W' => (∃ n k : Int, e = .returned (.tuple #[.bool wall, .int .i64 n, .int .i64 k])) ∧ Below W.heap.size W W') := HT2
      have Q0 : Hid (Blk wr w.heap.size #[.int .i64 p.x, .int .i64 p.y, .int .i64 p.z] 27) := q0
      have Q2 : Hid (Blk wr (w.heap.size + 1 + 1) #[.int .i64 0, .int .i64 0, .int .i64 0] 27) := q2
      have Q3 : Hid (Blk wr (w.heap.size + 1 + 1 + 1) #[.int .i64 r.x, .int .i64 r.y, .int .i64 r.z] 27) := q3
      have hzr : w.heap.size + 1 + 1 + 1 < wr.heap.size := dz
      clear HT HT2 hr e3 HGr hB1 b0 b1 b2 bf bz c0 c1 c2 cf cz bx1 bx2 by1 by2 bz1 bz2 gx1 gx2 gy1 gy2 gz1 gz2 HG
      go_wp2_with fail
      have q5 : Blk (wr.alloc (.cells #[.int .i64 (r.x - p.x), .int .i64 (r.y - p.y), .int .i64 (r.z - p.z)] 27)) wr.heap.size _ _ := Blk.new rfl
      have B5 : Below wr.heap.size wr (wr.alloc (.cells #[.int .i64 (r.x - p.x), .int .i64 (r.y - p.y), .int .i64 (r.z - p.z)] 27)) := by go_grown
      generalize wr.alloc (.cells #[.int .i64 (r.x - p.x), .int .i64 (r.y - p.y), .int .i64 (r.z - p.z)] 27) = w5 at q5 B5 ⊢
      have HR5 : Hid (row w5) := HM.out wr w5 HRr.out B5
      have HG5 : Hid (Gc w5 b m (.slice lx ln lc) tv gv f) := HGR.out.after B5
      have Q5 : Hid (Blk w5 wr.heap.size #[.int .i64 (r.x - p.x), .int .i64 (r.y - p.y), .int .i64 (r.z - p.z)] 27) := q5
      have Q05 : Hid (Blk w5 w.heap.size #[.int .i64 p.x, .int .i64 p.y, .int .i64 p.z] 27) := Q0.out.after B5
      have HB5 : Hid (Below wr.heap.size wr w5) := B5
      clear a0 a1 a2 af az d0 d1 d2 df dz cl bz3 q0 q1 q2 q3 hB
      obtain ⟨a0, a1, a2, af, az⟩ := Q05.out.three
      obtain ⟨d0, d1, d2, df, dz⟩ := q5.three
      have cl := HG5.out.cl
      have bz := HG5.out.lt
      clear q5 B5
      go_region_held3 (fun w' => w'.cell? ⟨b, 1, none⟩ = some (.slice lx ln lc) ∧ w'.cell? ⟨w.heap.size, 0, none⟩ = some (.int .i64 p.x) ∧ w'.cell? ⟨w.heap.size, 1, none⟩ = some (.int .i64 p.y) ∧ w'.cell? ⟨w.heap.size, 2, none⟩ = some (.int .i64 p.z) ∧ w'.cell? ⟨wr.heap.size, 0, none⟩ = some (.int .i64 (r.x - p.x)) ∧ w'.cell? ⟨wr.heap.size, 1, none⟩ = some (.int .i64 (r.y - p.y)) ∧ w'.cell? ⟨wr.heap.size, 2, none⟩ = some (.int .i64 (r.z - p.z))) (go_keep)
        ((go_at_call 82; refine (HT3.out _ (HM.out w5 _ HR5.out (by go_grown))).mono ?_; rintro e w6 ⟨⟨nn, kk, rfl⟩, hb6⟩; have B6 : Below w5.heap.size w5 w6 := bl (by go_grown) hb6; clear hb6; have m1 := (HG5.out.after B6).cl; obtain ⟨m2, m3, m4, mf, mz⟩ := (Q05.out.after B6).three; obtain ⟨l2, l3, l4, lf, lz⟩ := (Q5.out.after B6).three))
      have q0 := Q05.out.after B6
      have q2 := (Q2.out.after HB5.out).after B6
      have q3 := (Q3.out.after HB5.out).after B6
      have BB : Below w.heap.size w w6 := bl (bl HBr.out HB5.out) B6
      have HBB : Hid (Below w.heap.size w w6) := BB
      clear m1 m2 m3 m4 mf mz l2 l3 l4 lf lz a0 a1 a2 af az d0 d1 d2 df dz cl bz B6 BB
      obtain ⟨a0, a1, a2, af, az⟩ := q0.three
      obtain ⟨c0, c1, c2, cf, cz⟩ := q2.three
      obtain ⟨d0, d1, d2, df, dz⟩ := q3.three
      have hBB := HBB.out
      cases wall
      · go_wp2
        refine bodyPost_ret (v := .agg #[.int .i64 r.x, .int .i64 r.y, .int .i64 r.z]) (by simp [results, Tryz.results63, go_sem, c0, c1, c2]) rfl ⟨by rw [HRG.out], by go_grown⟩
      · go_wp2
        refine bodyPost_ret (v := .agg #[.int .i64 p.x, .int .i64 p.y, .int .i64 p.z]) (by simp [results, Tryz.results63, go_sem, c0, c1, c2]) rfl ⟨rfl, by go_grown⟩
end Go.Proofs.YtonmihojfcjmjaaGreat
