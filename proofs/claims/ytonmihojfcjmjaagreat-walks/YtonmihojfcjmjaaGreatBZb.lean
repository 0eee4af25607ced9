import Derived.Test.YtonmihojfcjmjaaGreatZn1
import Derived.Test.YtonmihojfcjmjaaGreatBRf
import Derived.Deep.DrawnRows
import Derived.Test.YtonmihojfcjmjaaGreatBRg
/- Contracts of the document's answer: cube, holds, zoneOf. -/
namespace Go.Proofs.YtonmihojfcjmjaaGreat
open Go.RowKit
set_option linter.unusedVariables false
attribute [local go_sem] cell_set_off cell_set_blk
attribute [local go_sem ↓] Go.wp_at_zero Go.wp_at_succ


set_option maxHeartbeats 2000000 in
theorem rcube_is (p : M.V3) (w : World) (B : Bool) (hB : Hid (M.cubB p = B)) :
    Calls Tryz.prog 33 #[.agg #[.int .i64 p.x, .int .i64 p.y, .int .i64 p.z]] w fun e w' => e = .returned (.bool B) ∧ Below w.heap.size w w' := by
  go_enter Tryz.func33, Tryz.ntmps33
  go_wp2
  go_rounds 4
  all_goals (go_ret; exact ⟨ret_bool (by rw [← hB.out]; unfold M.cubB; (first | (simp [*]; done) | (simp; omega))), by go_grown⟩)

def okAx (l : M.Lf) (p : M.V3) (c : Int) : Bool := decide (M.getAx l.lo c ≤ M.getAx p c) && decide (M.getAx p c ≤ M.getAx l.hi c)
def frAx (l : M.Lf) (p : M.V3) (c : Int) : Bool := !(decide (M.getAx p c = M.getAx l.hi c) && decide (M.getAx l.hi c < 4096))
def fIn (l : M.Lf) (p : M.V3) : Nat → Bool
  | 0 => true
  | j + 1 => fIn l p j && okAx l p ((j : Int) + 120)
def fOwn (l : M.Lf) (p : M.V3) : Nat → Bool
  | 0 => true
  | j + 1 => fOwn l p j && frAx l p ((j : Int) + 120)
theorem fIn3 (l : M.Lf) (p : M.V3) : fIn l p 3 = M.holdsB2 l p := by
  show (((true && okAx l p 120) && okAx l p 121) && okAx l p 122) = _
  unfold okAx M.holdsB2
  simp only [Bool.true_and, Bool.and_assoc]
  rfl
theorem fOwn3 (l : M.Lf) (p : M.V3) : fOwn l p 3 = M.freeB l.hi p := by
  show (((true && frAx l p 120) && frAx l p 121) && frAx l p 122) = _
  unfold frAx M.freeB
  simp only [Bool.true_and]
  rfl

set_option maxRecDepth 100000 in
set_option maxHeartbeats 4000000 in
theorem leafHolds_any (l : M.Lf) (p : M.V3) (w : World) (B C0 : Bool) (hB : Hid (M.holdsB2 l p = B)) (hC : Hid (M.ownB l p = C0)) :
    Calls Tryz.prog 54 #[.agg #[.int .i64 l.lo.x, .int .i64 l.lo.y, .int .i64 l.lo.z, .int .i64 l.hi.x, .int .i64 l.hi.y, .int .i64 l.hi.z, .int .i64 l.zone], .agg #[.int .i64 p.x, .int .i64 p.y, .int .i64 p.z]] w fun e w' => e = .returned (.tuple #[.bool B, .bool C0]) ∧ Below w.heap.size w w' := by
  go_enter Tryz.func54, Tryz.ntmps54
  go_wp2_with fail
  obtain ⟨W0, hW0⟩ : ∃ W0, ((w.alloc (.cells #[.int .i64 l.lo.x, .int .i64 l.lo.y, .int .i64 l.lo.z, .int .i64 l.hi.x, .int .i64 l.hi.y, .int .i64 l.hi.z, .int .i64 l.zone] 93)).alloc (.cells #[.int .i64 p.x, .int .i64 p.y, .int .i64 p.z] 27)) = W0 := ⟨_, rfl⟩
  have q0 : Blk W0 w.heap.size #[.int .i64 l.lo.x, .int .i64 l.lo.y, .int .i64 l.lo.z, .int .i64 l.hi.x, .int .i64 l.hi.y, .int .i64 l.hi.z, .int .i64 l.zone] 93 := by rw [← hW0]; exact (Blk.new rfl).alloc
  have q1 : Blk W0 (w.heap.size + 1) #[.int .i64 p.x, .int .i64 p.y, .int .i64 p.z] 27 := by rw [← hW0]; exact Blk.new (by simp)
  have B0 : Below w.heap.size w W0 := by rw [← hW0]; go_grown
  rw [hW0]
  clear hW0
  go_loopg [6, 7, 8] 4 (fun k u6 u7 u8 wr => ∃ j : Nat, u6 = .bool (fIn l p j) ∧ u7 = .bool (fOwn l p j) ∧ u8 = .int .i64 j ∧ j ≤ 3 ∧ k + j = 4 ∧ Below W0.heap.size W0 wr)
  case atStart => exact ⟨0, rfl, rfl, rfl, by omega, rfl, Below.refl _ _⟩
  case round =>
    obtain ⟨j, rfl, rfl, rfl, hj, hk, hb⟩ := hrel
    obtain ⟨a0, a1, a2, a3, a4, a5, a6, af, al⟩ := (q0.after hb).seven
    obtain ⟨b0, b1, b2, bf, bz⟩ := (q1.after hb).three
    by_cases hlt : j < 3
    · have hc : M.planeB ((j : Int) + 120) = true := by unfold M.planeB; simp; omega
      have hk2 : (j : Int) = (j : Int) + 120 - 120 := by omega
      have HK : Hid ((j : Int) = (j : Int) + 120 - 120) := hk2
      clear hk2
      obtain ⟨A, hA⟩ : ∃ A, M.getAx p ((j : Int) + 120) = A := ⟨_, rfl⟩
      obtain ⟨D, hD⟩ : ∃ A, M.getAx l.lo ((j : Int) + 120) = A := ⟨_, rfl⟩
      obtain ⟨C, hC2⟩ : ∃ A, M.getAx l.hi ((j : Int) + 120) = A := ⟨_, rfl⟩
      have HA : Hid (M.getAx p ((j : Int) + 120) = A) := hA
      have HD : Hid (M.getAx l.lo ((j : Int) + 120) = D) := hD
      have HC : Hid (M.getAx l.hi ((j : Int) + 120) = C) := hC2
      clear hA hD hC2
      have j1 : (j : Int) < 3 := by omega
      go_wp2_with fail
      refine (raxis_is p _ ((j : Int) + 120) A _ HK.out hc HA).mono ?_
      rintro e w1 ⟨rfl, h1⟩
      have B1 : Below W0.heap.size W0 w1 := bl hb h1
      clear a0 a1 a2 a3 a4 a5 a6 af al b0 b1 b2 bf bz h1 hb
      obtain ⟨a0, a1, a2, a3, a4, a5, a6, af, al⟩ := (q0.after B1).seven
      go_wp2_with fail
      refine (raxis_is l.lo _ ((j : Int) + 120) D _ HK.out hc HD).mono ?_
      rintro e w2 ⟨rfl, h1⟩
      have B2 : Below W0.heap.size W0 w2 := bl B1 h1
      clear a0 a1 a2 a3 a4 a5 a6 af al h1 B1
      obtain ⟨a0, a1, a2, a3, a4, a5, a6, af, al⟩ := (q0.after B2).seven
      go_wp2_with fail
      refine (raxis_is l.hi _ ((j : Int) + 120) C _ HK.out hc HC).mono ?_
      rintro e w3 ⟨rfl, h1⟩
      have B3 : Below W0.heap.size W0 w3 := bl B2 h1
      clear a0 a1 a2 a3 a4 a5 a6 af al h1 B2 q0 q1 HK
      by_cases x1 : A < D
      · have hi' : okAx l p ((j : Int) + 120) = false := by unfold okAx; rw [HA.out, HD.out, HC.out]; simp; omega
        by_cases t : A = C
        · have t1 : (A == C) = true := by simp [t]
          by_cases t2 : C < 4096
          · have hf : frAx l p ((j : Int) + 120) = false := by unfold frAx; rw [HA.out, HC.out]; simp [t, t2]
            clear t
            go_wp2
            go_roundg (gk - 1)
            case measure => omega
            case rel => exact ⟨j + 1, by simp [fIn, hi'], by simp [fOwn, hf], by go_num, by omega, by omega, B3⟩
          · have hf : frAx l p ((j : Int) + 120) = true := by unfold frAx; rw [HA.out, HC.out]; simp [t2]
            clear t
            go_wp2
            go_roundg (gk - 1)
            case measure => omega
            case rel => exact ⟨j + 1, by simp [fIn, hi'], by simp [fOwn, hf], by go_num, by omega, by omega, B3⟩
        · have t1 : (A == C) = false := by simp [t]
          have hf : frAx l p ((j : Int) + 120) = true := by unfold frAx; rw [HA.out, HC.out]; simp [t]
          clear t
          go_wp2
          go_roundg (gk - 1)
          case measure => omega
          case rel => exact ⟨j + 1, by simp [fIn, hi'], by simp [fOwn, hf], by go_num, by omega, by omega, B3⟩
      · by_cases x2 : C < A
        · have hi' : okAx l p ((j : Int) + 120) = false := by unfold okAx; rw [HA.out, HD.out, HC.out]; simp; omega
          by_cases t : A = C
          · have t1 : (A == C) = true := by simp [t]
            by_cases t2 : C < 4096
            · have hf : frAx l p ((j : Int) + 120) = false := by unfold frAx; rw [HA.out, HC.out]; simp [t, t2]
              clear t
              go_wp2
              go_roundg (gk - 1)
              case measure => omega
              case rel => exact ⟨j + 1, by simp [fIn, hi'], by simp [fOwn, hf], by go_num, by omega, by omega, B3⟩
            · have hf : frAx l p ((j : Int) + 120) = true := by unfold frAx; rw [HA.out, HC.out]; simp [t2]
              clear t
              go_wp2
              go_roundg (gk - 1)
              case measure => omega
              case rel => exact ⟨j + 1, by simp [fIn, hi'], by simp [fOwn, hf], by go_num, by omega, by omega, B3⟩
          · have t1 : (A == C) = false := by simp [t]
            have hf : frAx l p ((j : Int) + 120) = true := by unfold frAx; rw [HA.out, HC.out]; simp [t]
            clear t
            go_wp2
            go_roundg (gk - 1)
            case measure => omega
            case rel => exact ⟨j + 1, by simp [fIn, hi'], by simp [fOwn, hf], by go_num, by omega, by omega, B3⟩
        · have hi' : okAx l p ((j : Int) + 120) = true := by unfold okAx; rw [HA.out, HD.out, HC.out]; simp; omega
          by_cases t : A = C
          · have t1 : (A == C) = true := by simp [t]
            by_cases t2 : C < 4096
            · have hf : frAx l p ((j : Int) + 120) = false := by unfold frAx; rw [HA.out, HC.out]; simp [t, t2]
              clear t
              go_wp2
              go_roundg (gk - 1)
              case measure => omega
              case rel => exact ⟨j + 1, by simp [fIn, hi'], by simp [fOwn, hf], by go_num, by omega, by omega, B3⟩
            · have hf : frAx l p ((j : Int) + 120) = true := by unfold frAx; rw [HA.out, HC.out]; simp [t2]
              clear t
              go_wp2
              go_roundg (gk - 1)
              case measure => omega
              case rel => exact ⟨j + 1, by simp [fIn, hi'], by simp [fOwn, hf], by go_num, by omega, by omega, B3⟩
          · have t1 : (A == C) = false := by simp [t]
            have hf : frAx l p ((j : Int) + 120) = true := by unfold frAx; rw [HA.out, HC.out]; simp [t]
            clear t
            go_wp2
            go_roundg (gk - 1)
            case measure => omega
            case rel => exact ⟨j + 1, by simp [fIn, hi'], by simp [fOwn, hf], by go_num, by omega, by omega, B3⟩
    · obtain rfl : j = 3 := by omega
      have E : Hid (fIn l p 3 = B) := by unfold Hid; rw [fIn3]; exact hB.out
      have E2 : Hid (fOwn l p 3 = M.freeB l.hi p) := fOwn3 l p
      have E3 : Hid ((B && M.freeB l.hi p) = C0) := by have := hC.out; unfold M.ownB at this; rw [hB.out] at this; exact this
      rw [E.out, E2.out]
      generalize M.freeB l.hi p = F at *
      clear a0 a1 a2 a3 a4 a5 a6 af al b0 b1 b2 bf bz q0 q1 E E2
      cases B
      · go_wp2
        go_ret2
        exact ⟨by rw [← E3.out]; rfl, bl B0 hb⟩
      · go_wp2
        go_ret2
        exact ⟨by rw [← E3.out]; simp, bl B0 hb⟩

end Go.Proofs.YtonmihojfcjmjaaGreat

/- Contracts of the document's answer: zoneOf. -/
namespace Go.Proofs.YtonmihojfcjmjaaGreat
open Go.RowKit
set_option linter.unusedVariables false
attribute [local go_sem] cell_set_off cell_set_blk
attribute [local go_sem ↓] Go.wp_at_zero Go.wp_at_succ

set_option maxRecDepth 100000 in
set_option maxHeartbeats 4000000 in
theorem zoneOf_any (x : Option Addr) (n cap base : Nat) (ls : List M.Lf) (p : M.V3) (w : World) (hown : w.ownsRow base 93 7 (.slice x n cap) ls.length (flat ls)) (hl : ls.length ≤ 512) :
    Calls Tryz.prog 34 #[.slice x n cap, .agg #[.int .i64 p.x, .int .i64 p.y, .int .i64 p.z]] w fun e w' => e = .returned (.int .i64 (M.zR p ls (-1))) ∧ Below w.heap.size w w' := by
  obtain ⟨Z, hZ⟩ : ∃ Z, M.zR p ls (-1) = Z := ⟨_, rfl⟩
  rw [hZ]
  have HZ : Hid (M.zR p ls (-1) = Z) := hZ
  have HO : Hid (w.ownsRow base 93 7 (.slice x n cap) ls.length (flat ls)) := hown
  rcases own_form hown rfl with ⟨rfl, rfl, rfl, rfl⟩ | ⟨g, rfl, rfl, hg⟩
  · have E : Hid ((-1 : Int) = Z) := hZ
    clear hZ hown HZ HO hl
    go_enter Tryz.func34, Tryz.ntmps34
    go_wp2_with fail
    refine wp_loop_rounds 1 ?_
    rw [rounds_succ]
    go_wp2
    go_ret
    exact ⟨ret_int E.out, by go_grown⟩
  · clear hZ hown
    go_enter Tryz.func34, Tryz.ntmps34
    go_wp2_with fail
    obtain ⟨W0, hW0⟩ : ∃ W0, (w.alloc (.cells #[.int .i64 p.x, .int .i64 p.y, .int .i64 p.z] 27)) = W0 := ⟨_, rfl⟩
    have q1 : Blk W0 w.heap.size #[.int .i64 p.x, .int .i64 p.y, .int .i64 p.z] 27 := by rw [← hW0]; exact Blk.new rfl
    have B0 : Below w.heap.size w W0 := by rw [← hW0]; go_grown
    have O0 : Hid (W0.ownsRow base 93 7 (.slice (some ⟨g, 0, none⟩) ls.length cap) ls.length (flat ls)) := own_of HO.out (fun k hk => by rw [← hW0]; rw [Below.heap_alloc _ _ _ (own_lt HO.out hk)])
    rw [hW0]
    clear hW0 HO
    have hg0 : g < W0.heap.size := by have := B0.size; omega
    go_loopg [5, 6] (ls.length + 1) (fun k u5 u6 wr => ∃ (j : Nat) (z : Int), u5 = .int .i64 z ∧ u6 = .int .i64 j ∧ j ≤ ls.length ∧ k + j = ls.length + 1 ∧ Hid (M.zR p (ls.drop j) z = Z) ∧ Below W0.heap.size W0 wr)
    case atStart => exact ⟨0, -1, rfl, rfl, Nat.zero_le _, by omega, HZ, Below.refl _ _⟩
    case round =>
      obtain ⟨j, z, rfl, rfl, hj, hk, hP, hB⟩ := hrel
      by_cases hlt : j < ls.length
      · obtain ⟨l, hl2⟩ : ∃ l, ls[j]? = some l := ⟨ls[j], List.getElem?_eq_getElem hlt⟩
        have O1 := own_of (W' := wr) O0.out (fun k hk => hB.block k (own_lt O0.out hk))
        obtain ⟨⟨k0, k1, k2, k3, k4, k5, k6⟩, hcap, hcm⟩ := own_leaf O1 hl2
        obtain ⟨a0, a1, a2, af, al⟩ := (q1.after hB).three
        have hP2 : Hid (M.zR p (l :: ls.drop (j + 1)) z = Z) := by unfold Hid; rw [← drop_cons hl2]; exact hP.out
        obtain ⟨B, hBB⟩ : ∃ B, M.holdsB2 l p = B := ⟨_, rfl⟩
        have HB : Hid (M.holdsB2 l p = B) := hBB
        obtain ⟨C, hCC⟩ : ∃ C, M.ownB l p = C := ⟨_, rfl⟩
        have HC : Hid (M.ownB l p = C) := hCC
        have HL2 : Hid (ls[j]? = some l) := hl2
        have hsz : W0.heap.size ≤ wr.heap.size := hB.size
        unfold maxLen at hcm
        clear hBB hCC hP O1 hl2
        have j0 : (0 : Int) ≤ (j : Int) := by omega
        have j1 : (j : Int) < (ls.length : Int) := by omega
        have j2 : (ls.length : Int) ≤ 512 := by omega
        have hgl : g < wr.heap.size := by omega
        go_wp2_with fail
        go_region_held3 (fun w' => w'.cell? ⟨g, j * 7, none⟩ = some (.int .i64 l.lo.x) ∧ w'.cell? ⟨g, j * 7 + 1, none⟩ = some (.int .i64 l.lo.y) ∧ w'.cell? ⟨g, j * 7 + 2, none⟩ = some (.int .i64 l.lo.z) ∧ w'.cell? ⟨g, j * 7 + 3, none⟩ = some (.int .i64 l.hi.x) ∧ w'.cell? ⟨g, j * 7 + 4, none⟩ = some (.int .i64 l.hi.y) ∧ w'.cell? ⟨g, j * 7 + 5, none⟩ = some (.int .i64 l.hi.z) ∧ w'.cell? ⟨g, j * 7 + 6, none⟩ = some (.int .i64 l.zone) ∧
            w'.cell? ⟨w.heap.size, 0, none⟩ = some (.int .i64 p.x) ∧ w'.cell? ⟨w.heap.size, 1, none⟩ = some (.int .i64 p.y) ∧ w'.cell? ⟨w.heap.size, 2, none⟩ = some (.int .i64 p.z)) (go_keep)
          ((go_at_call 54; refine (leafHolds_any l p _ B C HB HC).mono ?_; rintro e w1 ⟨rfl, hb1⟩; have B1 : Below W0.heap.size W0 w1 := bl (by go_grown) hb1; clear hb1; obtain ⟨⟨m0, m1, m2, m3, m4, m5, m6⟩, _, _⟩ := own_leaf (own_of (W' := w1) O0.out (fun k hk => B1.block k (own_lt O0.out hk))) HL2.out; obtain ⟨n0, n1, n2, nf, nl⟩ := (q1.after B1).three))
        clear k0 k1 k2 k3 k4 k5 k6 a0 a1 a2 af al
        cases B
        · have hC0 : C = false := by rw [← HC.out]; unfold M.ownB; rw [HB.out]; rfl
          subst hC0
          have E : Hid (M.zR p (ls.drop (j + 1)) z = Z) := by have := hP2.out; simp only [M.zR, HB.out, HC.out] at this; unfold Hid; simpa using this
          clear hP2 HC HB
          go_wp2
          go_roundg (gk - 1)
          case measure => omega
          case rel => exact ⟨j + 1, z, rfl, by go_num, hlt, by omega, E, B1⟩
        · by_cases hz : l.zone < 0
          · have E : Hid ((-1 : Int) = Z) := by have := hP2.out; simp only [M.zR, HB.out, hz] at this; unfold Hid; simpa using this
            clear hP2
            go_wp2
            go_ret
            exact ⟨ret_int E.out, bl B0 B1⟩
          · have E : Hid (M.zR p (ls.drop (j + 1)) (if C = true then l.zone else z) = Z) := by have := hP2.out; simp only [M.zR, HB.out, HC.out, hz] at this; unfold Hid; simpa using this
            clear hP2
            cases C
            · have E2 : Hid (M.zR p (ls.drop (j + 1)) z = Z) := by have := E.out; unfold Hid; simpa using this
              clear E
              go_wp2
              go_roundg (gk - 1)
              case measure => omega
              case rel => exact ⟨j + 1, z, rfl, by go_num, hlt, by omega, E2, B1⟩
            · have E2 : Hid (M.zR p (ls.drop (j + 1)) l.zone = Z) := by have := E.out; unfold Hid; simpa using this
              clear E
              go_wp2
              go_roundg (gk - 1)
              case measure => omega
              case rel => exact ⟨j + 1, l.zone, rfl, by go_num, hlt, by omega, E2, B1⟩
      · have E : Hid (z = Z) := by have := hP.out; rw [List.drop_of_length_le (by omega)] at this; exact this
        have j1 : ¬ (j : Int) < (ls.length : Int) := by omega
        clear hP
        go_wp2
        go_ret
        exact ⟨ret_int E.out, bl B0 hB⟩

end Go.Proofs.YtonmihojfcjmjaaGreat

/- Zone, the document's Zone; the law Zones. -/
namespace Go.Proofs.YtonmihojfcjmjaaGreat
open Go.RowKit
set_option linter.unusedVariables false
attribute [local go_sem] cell_set_off cell_set_blk
attribute [local go_sem ↓] big65 big65'

theorem errS_ok {s : ByteArray} {k : Int} (h : M.errS s = (0, k)) : s.size ≤ 512 ∧ (M.top s).1 = true ∧ (M.top s).2.wrong < 0 ∧ k = 0 := by
  unfold M.errS at h
  by_cases h1 : 512 < s.size
  · rw [if_pos h1] at h; cases h
  rw [if_neg h1] at h
  by_cases h2 : (M.top s).1 = false
  · rw [if_pos h2] at h; cases h
  rw [if_neg h2] at h
  cases h3 : M.pairsF s (s.size + 1) (M.top s).2.place with
  | some k => rw [h3] at h; cases h
  | none =>
    rw [h3] at h
    dsimp only at h
    by_cases h4 : 0 ≤ (M.top s).2.wrong
    · rw [if_pos h4] at h; cases h
    · rw [if_neg h4] at h
      cases h
      exact ⟨by omega, by simpa using h2, by omega, rfl⟩

theorem leaves_le {s : ByteArray} (h : s.size ≤ 512) : (M.top s).2.leaves.length ≤ 512 := by
  have h1 := (M.top_inv s).lv
  have h2 := (M.top_inv s).pl
  omega

theorem cub_in {p : M.V3} (h : M.cubB p = true) : M.InB M.cubeLo M.cubeHi p := by
  unfold M.cubB at h
  simp only [Bool.and_eq_true, decide_eq_true_eq] at h
  obtain ⟨⟨⟨⟨⟨a, b⟩, c⟩, d⟩, e⟩, f⟩ := h
  exact ⟨a, b, c, d, e, f⟩

/-- What Zone gives back. -/
def ZonePost (s : ByteArray) (p : M.V3) (w : World) (r : Ending) (w' : World) : Prop := ∃ z e : Int, r = .returned (.tuple #[.int .i64 z, .int .i64 e]) ∧ Below w.heap.size w w' ∧
  (((M.errS s).1 ≠ 0 ∧ z = 0 ∧ e = (M.errS s).1) ∨ ((M.errS s).1 = 0 ∧ M.cubB p = false ∧ z = 0 ∧ e = 5) ∨ ((M.errS s).1 = 0 ∧ M.cubB p = true ∧ z = M.zP p (M.top s).2.leaves (-1) ∧ e = 0))

theorem holds_cube (p : M.V3) (w : World) (B : Bool) (hB : Hid (M.cubB p = B)) :
    Calls Tryz.prog 71 #[.agg #[.int .i64 0, .int .i64 0, .int .i64 0, .int .i64 4096, .int .i64 4096, .int .i64 4096], .agg #[.int .i64 p.x, .int .i64 p.y, .int .i64 p.z]] w fun e w' => e = .returned (.bool B) ∧ Below w.heap.size w w' := by
  rw [← hB.out]
  exact holds_any M.cubeLo M.cubeHi p w

end Go.Proofs.YtonmihojfcjmjaaGreat
