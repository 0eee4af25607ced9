/- Contracts of the document's answer: cube, holds, zoneOf. -/
import Derived.Test.YtonmihojfcjmjaaZn1
import Derived.Test.YtonmihojfcjmjaaRef4
import Derived.Deep.DrawnRows
namespace Go.Proofs.Ytonmihojfcjmjaa
open Go.RowKit
set_option linter.unusedVariables false
attribute [local go_sem] cell_set_off cell_set_blk
attribute [local go_sem ↓] Go.wp_at_zero Go.wp_at_succ

def M.cubB (p : M.V3) : Bool := decide (0 ≤ p.x) && decide (p.x ≤ 4096) && decide (0 ≤ p.y) && decide (p.y ≤ 4096) && decide (0 ≤ p.z) && decide (p.z ≤ 4096)

set_option maxHeartbeats 2000000 in
theorem rcube_is (p : M.V3) (w : World) (B : Bool) (hB : Hid (M.cubB p = B)) :
    Calls Try.prog 41 #[.agg #[.int .i64 p.x, .int .i64 p.y, .int .i64 p.z]] w fun e w' => e = .returned (.bool B) ∧ Below w.heap.size w w' := by
  go_enter Try.func41, Try.ntmps41
  go_wp2
  go_rounds 4
  all_goals (go_ret; exact ⟨ret_bool (by rw [← hB.out]; unfold M.cubB; (first | (simp [*]; done) | (simp; omega))), by go_grown⟩)

def okAx (l : M.Lf) (p : M.V3) (c : Int) : Bool := decide (M.getAx l.lo c ≤ M.getAx p c) && decide (M.getAx p c ≤ M.getAx l.hi c)
def frAx (l : M.Lf) (p : M.V3) (c : Int) : Bool := !(decide (M.getAx p c = M.getAx l.hi c) && decide (M.getAx l.hi c < 4096))
def fIn (l : M.Lf) (p : M.V3) : Nat → Bool
  | 0 => true
  | j + 1 => fIn l p j && okAx l p ((j : Int) + 120)
def fOwn (l : M.Lf) (p : M.V3) : Nat → Bool
  | 0 => true
  | j + 1 => fOwn l p j && frAx l p ((j : Int) + 120)
theorem fIn3 (l : M.Lf) (p : M.V3) : fIn l p 3 = M.holdsB2 l p := by
  show (((true && okAx l p 120) && okAx l p 121) && okAx l p 122) = _
  unfold okAx M.holdsB2
  simp only [Bool.true_and, Bool.and_assoc]
  rfl
theorem fOwn3 (l : M.Lf) (p : M.V3) : fOwn l p 3 = M.freeB l.hi p := by
  show (((true && frAx l p 120) && frAx l p 121) && frAx l p 122) = _
  unfold frAx M.freeB
  simp only [Bool.true_and]
  rfl

set_option maxRecDepth 100000 in
set_option maxHeartbeats 4000000 in
theorem leafHolds_any (l : M.Lf) (p : M.V3) (w : World) (B C0 : Bool) (hB : Hid (M.holdsB2 l p = B)) (hC : Hid (M.ownB l p = C0)) :
    Calls Try.prog 65 #[.agg #[.int .i64 l.lo.x, .int .i64 l.lo.y, .int .i64 l.lo.z, .int .i64 l.hi.x, .int .i64 l.hi.y, .int .i64 l.hi.z, .int .i64 l.zone], .agg #[.int .i64 p.x, .int .i64 p.y, .int .i64 p.z]] w fun e w' => e = .returned (.tuple #[.bool B, .bool C0]) ∧ Below w.heap.size w w' := by
  go_enter Try.func65, Try.ntmps65
  go_wp2_with fail
  obtain ⟨W0, hW0⟩ : ∃ W0, ((w.alloc (.cells #[.int .i64 l.lo.x, .int .i64 l.lo.y, .int .i64 l.lo.z, .int .i64 l.hi.x, .int .i64 l.hi.y, .int .i64 l.hi.z, .int .i64 l.zone] 114)).alloc (.cells #[.int .i64 p.x, .int .i64 p.y, .int .i64 p.z] 27)) = W0 := ⟨_, rfl⟩
  have q0 : Blk W0 w.heap.size #[.int .i64 l.lo.x, .int .i64 l.lo.y, .int .i64 l.lo.z, .int .i64 l.hi.x, .int .i64 l.hi.y, .int .i64 l.hi.z, .int .i64 l.zone] 114 := by rw [← hW0]; exact (Blk.new rfl).alloc
  have q1 : Blk W0 (w.heap.size + 1) #[.int .i64 p.x, .int .i64 p.y, .int .i64 p.z] 27 := by rw [← hW0]; exact Blk.new (by simp)
  have B0 : Below w.heap.size w W0 := by rw [← hW0]; go_grown
  rw [hW0]
  clear hW0
  go_loopg [6, 7, 8] 4 (fun k u6 u7 u8 wr => ∃ j : Nat, u6 = .bool (fIn l p j) ∧ u7 = .bool (fOwn l p j) ∧ u8 = .int .i64 j ∧ j ≤ 3 ∧ k + j = 4 ∧ Below W0.heap.size W0 wr)
  case atStart => exact ⟨0, rfl, rfl, rfl, by omega, rfl, Below.refl _ _⟩
  case round =>
    obtain ⟨j, rfl, rfl, rfl, hj, hk, hb⟩ := hrel
    obtain ⟨a0, a1, a2, a3, a4, a5, a6, af, al⟩ := (q0.after hb).seven
    obtain ⟨b0, b1, b2, bf, bz⟩ := (q1.after hb).three
    by_cases hlt : j < 3
    · have hc : M.planeB ((j : Int) + 120) = true := by unfold M.planeB; simp; omega
      have hk2 : (j : Int) = (j : Int) + 120 - 120 := by omega
      have HK : Hid ((j : Int) = (j : Int) + 120 - 120) := hk2
      clear hk2
      obtain ⟨A, hA⟩ : ∃ A, M.getAx p ((j : Int) + 120) = A := ⟨_, rfl⟩
      obtain ⟨D, hD⟩ : ∃ A, M.getAx l.lo ((j : Int) + 120) = A := ⟨_, rfl⟩
      obtain ⟨C, hC2⟩ : ∃ A, M.getAx l.hi ((j : Int) + 120) = A := ⟨_, rfl⟩
      have HA : Hid (M.getAx p ((j : Int) + 120) = A) := hA
      have HD : Hid (M.getAx l.lo ((j : Int) + 120) = D) := hD
      have HC : Hid (M.getAx l.hi ((j : Int) + 120) = C) := hC2
      clear hA hD hC2
      have j1 : (j : Int) < 3 := by omega
      go_wp2_with fail
      refine (raxis_is p _ ((j : Int) + 120) A _ HK.out hc HA).mono ?_
      rintro e w1 ⟨rfl, h1⟩
      have B1 : Below W0.heap.size W0 w1 := bl hb h1
      clear a0 a1 a2 a3 a4 a5 a6 af al b0 b1 b2 bf bz h1 hb
      obtain ⟨a0, a1, a2, a3, a4, a5, a6, af, al⟩ := (q0.after B1).seven
      go_wp2_with fail
      refine (raxis_is l.lo _ ((j : Int) + 120) D _ HK.out hc HD).mono ?_
      rintro e w2 ⟨rfl, h1⟩
      have B2 : Below W0.heap.size W0 w2 := bl B1 h1
      clear a0 a1 a2 a3 a4 a5 a6 af al h1 B1
      obtain ⟨a0, a1, a2, a3, a4, a5, a6, af, al⟩ := (q0.after B2).seven
      go_wp2_with fail
      refine (raxis_is l.hi _ ((j : Int) + 120) C _ HK.out hc HC).mono ?_
      rintro e w3 ⟨rfl, h1⟩
      have B3 : Below W0.heap.size W0 w3 := bl B2 h1
      clear a0 a1 a2 a3 a4 a5 a6 af al h1 B2 q0 q1 HK
      by_cases x1 : A < D
      · have hi' : okAx l p ((j : Int) + 120) = false := by unfold okAx; rw [HA.out, HD.out, HC.out]; simp; omega
        by_cases t : A = C
        · have t1 : (A == C) = true := by simp [t]
          by_cases t2 : C < 4096
          · have hf : frAx l p ((j : Int) + 120) = false := by unfold frAx; rw [HA.out, HC.out]; simp [t, t2]
            clear t
            go_wp2
            go_roundg (gk - 1)
            case measure => omega
            case rel => exact ⟨j + 1, by simp [fIn, hi'], by simp [fOwn, hf], by go_num, by omega, by omega, B3⟩
          · have hf : frAx l p ((j : Int) + 120) = true := by unfold frAx; rw [HA.out, HC.out]; simp [t2]
            clear t
            go_wp2
            go_roundg (gk - 1)
            case measure => omega
            case rel => exact ⟨j + 1, by simp [fIn, hi'], by simp [fOwn, hf], by go_num, by omega, by omega, B3⟩
        · have t1 : (A == C) = false := by simp [t]
          have hf : frAx l p ((j : Int) + 120) = true := by unfold frAx; rw [HA.out, HC.out]; simp [t]
          clear t
          go_wp2
          go_roundg (gk - 1)
          case measure => omega
          case rel => exact ⟨j + 1, by simp [fIn, hi'], by simp [fOwn, hf], by go_num, by omega, by omega, B3⟩
      · by_cases x2 : C < A
        · have hi' : okAx l p ((j : Int) + 120) = false := by unfold okAx; rw [HA.out, HD.out, HC.out]; simp; omega
          by_cases t : A = C
          · have t1 : (A == C) = true := by simp [t]
            by_cases t2 : C < 4096
            · have hf : frAx l p ((j : Int) + 120) = false := by unfold frAx; rw [HA.out, HC.out]; simp [t, t2]
              clear t
              go_wp2
              go_roundg (gk - 1)
              case measure => omega
              case rel => exact ⟨j + 1, by simp [fIn, hi'], by simp [fOwn, hf], by go_num, by omega, by omega, B3⟩
            · have hf : frAx l p ((j : Int) + 120) = true := by unfold frAx; rw [HA.out, HC.out]; simp [t2]
              clear t
              go_wp2
              go_roundg (gk - 1)
              case measure => omega
              case rel => exact ⟨j + 1, by simp [fIn, hi'], by simp [fOwn, hf], by go_num, by omega, by omega, B3⟩
          · have t1 : (A == C) = false := by simp [t]
            have hf : frAx l p ((j : Int) + 120) = true := by unfold frAx; rw [HA.out, HC.out]; simp [t]
            clear t
            go_wp2
            go_roundg (gk - 1)
            case measure => omega
            case rel => exact ⟨j + 1, by simp [fIn, hi'], by simp [fOwn, hf], by go_num, by omega, by omega, B3⟩
        · have hi' : okAx l p ((j : Int) + 120) = true := by unfold okAx; rw [HA.out, HD.out, HC.out]; simp; omega
          by_cases t : A = C
          · have t1 : (A == C) = true := by simp [t]
            by_cases t2 : C < 4096
            · have hf : frAx l p ((j : Int) + 120) = false := by unfold frAx; rw [HA.out, HC.out]; simp [t, t2]
              clear t
              go_wp2
              go_roundg (gk - 1)
              case measure => omega
              case rel => exact ⟨j + 1, by simp [fIn, hi'], by simp [fOwn, hf], by go_num, by omega, by omega, B3⟩
            · have hf : frAx l p ((j : Int) + 120) = true := by unfold frAx; rw [HA.out, HC.out]; simp [t2]
              clear t
              go_wp2
              go_roundg (gk - 1)
              case measure => omega
              case rel => exact ⟨j + 1, by simp [fIn, hi'], by simp [fOwn, hf], by go_num, by omega, by omega, B3⟩
          · have t1 : (A == C) = false := by simp [t]
            have hf : frAx l p ((j : Int) + 120) = true := by unfold frAx; rw [HA.out, HC.out]; simp [t]
            clear t
            go_wp2
            go_roundg (gk - 1)
            case measure => omega
            case rel => exact ⟨j + 1, by simp [fIn, hi'], by simp [fOwn, hf], by go_num, by omega, by omega, B3⟩
    · obtain rfl : j = 3 := by omega
      have E : Hid (fIn l p 3 = B) := by unfold Hid; rw [fIn3]; exact hB.out
      have E2 : Hid (fOwn l p 3 = M.freeB l.hi p) := fOwn3 l p
      have E3 : Hid ((B && M.freeB l.hi p) = C0) := by have := hC.out; unfold M.ownB at this; rw [hB.out] at this; exact this
      rw [E.out, E2.out]
      generalize M.freeB l.hi p = F at *
      clear a0 a1 a2 a3 a4 a5 a6 af al b0 b1 b2 bf bz q0 q1 E E2
      cases B
      · go_wp2
        go_ret2
        exact ⟨by rw [← E3.out]; rfl, bl B0 hb⟩
      · go_wp2
        go_ret2
        exact ⟨by rw [← E3.out]; simp, bl B0 hb⟩

end Go.Proofs.Ytonmihojfcjmjaa
