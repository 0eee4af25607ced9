import Derived.Test.YtonmihojfcjmjaaGreatRows
import Derived.Test.YtonmihojfcjmjaaGreatBM
import Derived.Test.YtonmihojfcjmjaaGreatBK
import Derived.Handy
import Derived.WalkKit
import Derived.WalkSpells
import Derived.WalkSmall
import Derived.Deep.QuietTactic
import Derived.Deep.RegionHeld3
import Derived.StillTailTactics
import Derived.BigQuiet
import Derived.Test.YtonmihojfcjmjaaGreatBBz
/- Contracts of the program's game: Nearest, plus, goalOf. -/
namespace Go.Proofs.YtonmihojfcjmjaaGreat
open Go.RowKit
set_option linter.unusedVariables false
attribute [local go_sem] cell_set_off cell_set_blk

theorem still_tail6 {P : Program} {id : Nat} {Q : Exit → Act → World → Prop} {a : Act} {w : World} {l : List Oper} (n : Nat) (hm : P.follows .mixedOrders = true) (hB : Region.lexTailB .any l.toArray n = true)
    (h : wpStill P l.toArray w.drew (fun a' => wpList P l.toArray Q (l.drop n) a' w.drew) (l.take n) a) : (Code.region id l.toArray true).wp P Q a w := wp_region_still_tail n hm hB h

def M.clamp (n lo hi : Int) : Int := if n < lo then lo else if hi < n then hi else n
theorem M.clamp_bd {n lo hi : Int} (h : lo ≤ hi) : lo ≤ M.clamp n lo hi ∧ M.clamp n lo hi ≤ hi := by unfold M.clamp; split; omega; split <;> omega
def M.clampV (lo hi p : M.V3) : M.V3 := ⟨M.clamp p.x lo.x hi.x, M.clamp p.y lo.y hi.y, M.clamp p.z lo.z hi.z⟩

set_option maxHeartbeats 400000 in
theorem nearest_any (n lo hi : Int) (w : World) : Calls Tryz.prog 126 #[.int .i64 n, .int .i64 lo, .int .i64 hi] w fun e w' => e = .returned (.int .i64 (M.clamp n lo hi)) ∧ w' = w := by
  by_cases h1 : n < lo
  · go_enter Tryz.func126, Tryz.ntmps126
    go_wp2
    go_ret
    exact ⟨ret_int (by unfold M.clamp; rw [if_pos h1]), rfl⟩
  by_cases h2 : hi < n
  · go_enter Tryz.func126, Tryz.ntmps126
    go_wp2
    go_ret
    exact ⟨ret_int (by unfold M.clamp; rw [if_neg (by omega), if_pos (by omega)]), rfl⟩
  · go_enter Tryz.func126, Tryz.ntmps126
    go_wp2
    go_ret
    exact ⟨ret_int (by unfold M.clamp; rw [if_neg (by omega), if_neg (by omega)]), rfl⟩

set_option maxRecDepth 100000 in
set_option maxHeartbeats 2000000 in
theorem Nearest_any (lo hi p : M.V3) (w : World) :
    Calls Tryz.prog 119 #[.agg #[.int .i64 lo.x, .int .i64 lo.y, .int .i64 lo.z, .int .i64 hi.x, .int .i64 hi.y, .int .i64 hi.z], .agg #[.int .i64 p.x, .int .i64 p.y, .int .i64 p.z]] w fun e w' => e = .returned (.agg #[.int .i64 (M.clampV lo hi p).x, .int .i64 (M.clampV lo hi p).y, .int .i64 (M.clampV lo hi p).z]) ∧ Below w.heap.size w w' := by
  go_enter Tryz.func119, Tryz.ntmps119
  go_wp2_with fail
  refine still_tail6 28 (by kernel_rfl) (by kernel_rfl) ?_
  simp only [List.take_succ_cons, List.take_zero, List.drop_succ_cons, List.drop_zero]
  repeat (first | still_step | still_call (nearest_any _ _ _ _))
  refine wpStill_nil ?_
  go_wp2
  exact bodyPost_ret (v := .agg #[.int .i64 (M.clampV lo hi p).x, .int .i64 (M.clampV lo hi p).y, .int .i64 (M.clampV lo hi p).z]) (by simp [results, Tryz.results119, go_sem]; exact ⟨rfl, rfl, rfl⟩) rfl ⟨rfl, by go_grown⟩

set_option maxHeartbeats 1000000 in
theorem plus_any (p q : M.V3) (w : World) (h1 : -1048576 ≤ p.x + q.x) (h2 : p.x + q.x ≤ 1048576) (h3 : -1048576 ≤ p.y + q.y) (h4 : p.y + q.y ≤ 1048576) (h5 : -1048576 ≤ p.z + q.z) (h6 : p.z + q.z ≤ 1048576) :
    Calls Tryz.prog 120 #[.agg #[.int .i64 p.x, .int .i64 p.y, .int .i64 p.z], .agg #[.int .i64 q.x, .int .i64 q.y, .int .i64 q.z]] w fun e w' => e = .returned (.agg #[.int .i64 (p.x + q.x), .int .i64 (p.y + q.y), .int .i64 (p.z + q.z)]) ∧ Below w.heap.size w w' := by
  go_enter Tryz.func120, Tryz.ntmps120
  go_wp2
  exact bodyPost_ret (v := .agg #[.int .i64 (p.x + q.x), .int .i64 (p.y + q.y), .int .i64 (p.z + q.z)]) (by simp [results, Tryz.results120, go_sem]) rfl ⟨rfl, by go_grown⟩

end Go.Proofs.YtonmihojfcjmjaaGreat

/- Contracts of the program's game: goalOf, move. -/
namespace Go.Proofs.YtonmihojfcjmjaaGreat
open Go.RowKit
set_option linter.unusedVariables false
attribute [local go_sem] cell_set_off cell_set_blk

def M.stepLo : M.V3 := ⟨-32, -32, -32⟩
def M.stepHi : M.V3 := ⟨32, 32, 32⟩
def M.addV (p q : M.V3) : M.V3 := ⟨p.x + q.x, p.y + q.y, p.z + q.z⟩
/-- The goal of a move. -/
def M.goalP (p m : M.V3) : M.V3 := M.clampV M.cubeLo M.cubeHi (M.addV p (M.clampV M.stepLo M.stepHi m))

set_option maxRecDepth 100000 in
set_option maxHeartbeats 2000000 in
theorem goalOf_any (p m : M.V3) (w : World) (hp : M.InB M.cubeLo M.cubeHi p) :
    Calls Tryz.prog 109 #[.agg #[.int .i64 p.x, .int .i64 p.y, .int .i64 p.z], .agg #[.int .i64 m.x, .int .i64 m.y, .int .i64 m.z]] w fun e w' => e = .returned (.agg #[.int .i64 (M.goalP p m).x, .int .i64 (M.goalP p m).y, .int .i64 (M.goalP p m).z]) ∧ Below w.heap.size w w' := by
  obtain ⟨p1, p2, p3, p4, p5, p6⟩ := hp
  simp only [M.cubeLo, M.cubeHi] at p1 p2 p3 p4 p5 p6
  obtain ⟨u, hu⟩ : ∃ u, M.clampV M.stepLo M.stepHi m = u := ⟨_, rfl⟩
  have HU : Hid (M.clampV M.stepLo M.stepHi m = u) := hu
  have b1 : -32 ≤ u.x ∧ u.x ≤ 32 := by rw [← hu]; exact M.clamp_bd (by decide)
  have b2 : -32 ≤ u.y ∧ u.y ≤ 32 := by rw [← hu]; exact M.clamp_bd (by decide)
  have b3 : -32 ≤ u.z ∧ u.z ≤ 32 := by rw [← hu]; exact M.clamp_bd (by decide)
  obtain ⟨r, hr⟩ : ∃ r, M.goalP p m = r := ⟨_, rfl⟩
  rw [hr]
  have HR : Hid (M.clampV M.cubeLo M.cubeHi (M.addV p u) = r) := by unfold Hid; rw [← hr, ← hu]; rfl
  clear hu hr
  go_enter Tryz.func109, Tryz.ntmps109
  go_wp2_with fail
  refine (cube_any _).mono ?_
  rintro e w1 ⟨rfl, hb⟩
  have qp := (show Blk _ w.heap.size #[.int .i64 p.x, .int .i64 p.y, .int .i64 p.z] 27 from (by repeat' (first | (with_reducible assumption) | (refine Blk.new ?_; (first | (simp; done) | rfl); done) | (with_reducible refine Blk.alloc ?_) | (with_reducible refine Blk.drew ?_) | (with_reducible refine Blk.drewN ?_)))).after hb
  have qm := (show Blk _ (w.heap.size + 1) #[.int .i64 m.x, .int .i64 m.y, .int .i64 m.z] 27 from (by repeat' (first | (with_reducible assumption) | (refine Blk.new ?_; (first | (simp; done) | rfl); done) | (with_reducible refine Blk.alloc ?_) | (with_reducible refine Blk.drew ?_) | (with_reducible refine Blk.drewN ?_)))).after hb
  have qr := (show Blk _ (w.heap.size + 1 + 1) #[.int .i64 0, .int .i64 0, .int .i64 0] 27 from (by repeat' (first | (with_reducible assumption) | (refine Blk.new ?_; (first | (simp; done) | rfl); done) | (with_reducible refine Blk.alloc ?_) | (with_reducible refine Blk.drew ?_) | (with_reducible refine Blk.drewN ?_)))).after hb
  have qs := (show Blk _ (w.heap.size + 1 + 1 + 1) #[.int .i64 (-32), .int .i64 (-32), .int .i64 (-32), .int .i64 32, .int .i64 32, .int .i64 32] 108 from (by repeat' (first | (with_reducible assumption) | (refine Blk.new ?_; (first | (simp; done) | rfl); done) | (with_reducible refine Blk.alloc ?_) | (with_reducible refine Blk.drew ?_) | (with_reducible refine Blk.drewN ?_)))).after hb
  have B1 : Below w.heap.size w w1 := bl (by go_grown) hb
  clear hb
  have z1 : w.heap.size + 1 + 1 + 1 < w1.heap.size := qs.lt
  obtain ⟨m0, m1, m2, mf, ml⟩ := qm.three
  obtain ⟨s0, s1, s2, s3, s4, s5, sf, sl⟩ := qs.six
  go_wp2_with fail
  refine (Nearest_any M.stepLo M.stepHi m _).mono ?_
  rw [HU.out]
  rintro e w2 ⟨rfl, hb⟩
  have qc := (show Blk (w1.alloc (.cells #[.int .i64 0, .int .i64 0, .int .i64 0, .int .i64 4096, .int .i64 4096, .int .i64 4096] 108)) w1.heap.size #[.int .i64 0, .int .i64 0, .int .i64 0, .int .i64 4096, .int .i64 4096, .int .i64 4096] 108 from Blk.new rfl).after hb
  replace qp := qp.alloc.after hb
  replace qr := qr.alloc.after hb
  have B2 : Below w.heap.size w w2 := bl (by have := B1.size; go_grown) hb
  have z2 : w1.heap.size < w2.heap.size := qc.lt
  have n1 : w.heap.size + 1 + 1 ≠ w.heap.size := by omega
  have n2 : w.heap.size + 1 + 1 ≠ w1.heap.size := by omega
  have n3 : w.heap.size + 1 + 1 ≠ w2.heap.size := by omega
  clear hb B1 m0 m1 m2 mf ml s0 s1 s2 s3 s4 s5 sf sl qm qs
  obtain ⟨a0, a1, a2, af, al⟩ := qp.three
  obtain ⟨c0, c1, c2, c3, c4, c5, cf, cl⟩ := qc.six
  go_wp2_with fail
  obtain ⟨W, hW⟩ : ∃ W, w2.alloc (.cells #[.int .i64 u.x, .int .i64 u.y, .int .i64 u.z] 27) = W := ⟨_, rfl⟩
  have qu : Blk W w2.heap.size #[.int .i64 u.x, .int .i64 u.y, .int .i64 u.z] 27 := by rw [← hW]; exact Blk.new rfl
  have QP := hid (show Blk W w.heap.size #[.int .i64 p.x, .int .i64 p.y, .int .i64 p.z] 27 from by rw [← hW]; exact qp.alloc)
  have QR := hid (show Blk W (w.heap.size + 1 + 1) #[.int .i64 0, .int .i64 0, .int .i64 0] 27 from by rw [← hW]; exact qr.alloc)
  have QC := hid (show Blk W w1.heap.size #[.int .i64 0, .int .i64 0, .int .i64 0, .int .i64 4096, .int .i64 4096, .int .i64 4096] 108 from by rw [← hW]; exact qc.alloc)
  have QU := hid qu
  have B3 := hid (show Below w.heap.size w W from by rw [← hW]; have := B2.size; go_grown)
  rw [hW]
  clear hW qp qr qc qu B2 a0 a1 a2 af al c0 c1 c2 c3 c4 c5 cf cl
  obtain ⟨a0, a1, a2, af, al⟩ := QP.out.three
  obtain ⟨c0, c1, c2, c3, c4, c5, cf, cl⟩ := QC.out.six
  obtain ⟨u0, u1, u2, uf, ul⟩ := QU.out.three
  have hBB := hid (And.intro b1 (And.intro b2 b3))
  have hPP := hid (And.intro (And.intro p1 p2) (And.intro (And.intro p3 p4) (And.intro p5 p6)))
  clear b1 b2 b3 p1 p2 p3 p4 p5 p6
  go_region_held3 (fun w' => (w'.cell? ⟨w.heap.size, 0, none⟩ = some (.int .i64 p.x) ∧ w'.cell? ⟨w.heap.size, 1, none⟩ = some (.int .i64 p.y) ∧ w'.cell? ⟨w.heap.size, 2, none⟩ = some (.int .i64 p.z)) ∧ (w'.cell? ⟨w2.heap.size, 0, none⟩ = some (.int .i64 u.x) ∧ w'.cell? ⟨w2.heap.size, 1, none⟩ = some (.int .i64 u.y) ∧ w'.cell? ⟨w2.heap.size, 2, none⟩ = some (.int .i64 u.z)) ∧
      (w'.cell? ⟨w1.heap.size, 0, none⟩ = some (.int .i64 0) ∧ w'.cell? ⟨w1.heap.size, 1, none⟩ = some (.int .i64 0) ∧ w'.cell? ⟨w1.heap.size, 2, none⟩ = some (.int .i64 0) ∧ w'.cell? ⟨w1.heap.size, 3, none⟩ = some (.int .i64 4096) ∧ w'.cell? ⟨w1.heap.size, 4, none⟩ = some (.int .i64 4096) ∧ w'.cell? ⟨w1.heap.size, 5, none⟩ = some (.int .i64 4096))) (go_keep)
    (first | (go_at_call 120; refine (plus_any p u W.drew (by have := hBB.out; have := hPP.out; omega) (by have := hBB.out; have := hPP.out; omega) (by have := hBB.out; have := hPP.out; omega) (by have := hBB.out; have := hPP.out; omega) (by have := hBB.out; have := hPP.out; omega) (by have := hBB.out; have := hPP.out; omega)).mono ?_; rintro e w3 ⟨rfl, hb3⟩; obtain ⟨i0, i1, i2, iF, iL⟩ := (QP.out.drew.after hb3).three; obtain ⟨j0, j1, j2, jF, jL⟩ := (QU.out.drew.after hb3).three; obtain ⟨l0, l1, l2, l3, l4, l5, lF, lL⟩ := (QC.out.drew.after hb3).six) | (go_at_call 119; refine (Nearest_any M.cubeLo M.cubeHi (M.addV p u) w3).mono ?_; rw [HR.out]; rintro e w4 ⟨rfl, hb4⟩; obtain ⟨i0', i1', i2', iF', iL'⟩ := ((QP.out.drew.after hb3).after hb4).three; obtain ⟨j0', j1', j2', jF', jL'⟩ := ((QU.out.drew.after hb3).after hb4).three; obtain ⟨l0', l1', l2', l3', l4', l5', lF', lL'⟩ := ((QC.out.drew.after hb3).after hb4).six; obtain ⟨r0, r1, r2, rF, rL⟩ := ((QR.out.drew.after hb3).after hb4).three))
  all_goals
    go_wp2_with fail
    have B4 : Below w.heap.size w w4 := bl (bl B3.out.drew hb3) hb4
    exact bodyPost_ret (v := .agg #[.int .i64 r.x, .int .i64 r.y, .int .i64 r.z]) (by simp [results, Tryz.results109, go_sem, r0, r1, r2]) rfl ⟨rfl, by go_grown⟩

end Go.Proofs.YtonmihojfcjmjaaGreat
