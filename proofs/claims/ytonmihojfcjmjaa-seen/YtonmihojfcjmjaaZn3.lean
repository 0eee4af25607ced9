/- Contracts of the document's answer: zoneOf. -/
import Derived.Test.YtonmihojfcjmjaaZn2
namespace Go.Proofs.Ytonmihojfcjmjaa
open Go.RowKit
set_option linter.unusedVariables false
attribute [local go_sem] cell_set_off cell_set_blk
attribute [local go_sem ↓] Go.wp_at_zero Go.wp_at_succ

set_option maxRecDepth 100000 in
set_option maxHeartbeats 4000000 in
theorem zoneOf_any (x : Option Addr) (n cap base : Nat) (ls : List M.Lf) (p : M.V3) (w : World) (hown : w.ownsRow base 114 7 (.slice x n cap) ls.length (flat ls)) (hl : ls.length ≤ 512) :
    Calls Try.prog 42 #[.slice x n cap, .agg #[.int .i64 p.x, .int .i64 p.y, .int .i64 p.z]] w fun e w' => e = .returned (.int .i64 (M.zR p ls (-1))) ∧ Below w.heap.size w w' := by
  obtain ⟨Z, hZ⟩ : ∃ Z, M.zR p ls (-1) = Z := ⟨_, rfl⟩
  rw [hZ]
  have HZ : Hid (M.zR p ls (-1) = Z) := hZ
  have HO : Hid (w.ownsRow base 114 7 (.slice x n cap) ls.length (flat ls)) := hown
  rcases own_form hown rfl with ⟨rfl, rfl, rfl, rfl⟩ | ⟨g, rfl, rfl, hg⟩
  · have E : Hid ((-1 : Int) = Z) := hZ
    clear hZ hown HZ HO hl
    go_enter Try.func42, Try.ntmps42
    go_wp2_with fail
    refine wp_loop_rounds 1 ?_
    rw [rounds_succ]
    go_wp2
    go_ret
    exact ⟨ret_int E.out, by go_grown⟩
  · clear hZ hown
    go_enter Try.func42, Try.ntmps42
    go_wp2_with fail
    obtain ⟨W0, hW0⟩ : ∃ W0, (w.alloc (.cells #[.int .i64 p.x, .int .i64 p.y, .int .i64 p.z] 27)) = W0 := ⟨_, rfl⟩
    have q1 : Blk W0 w.heap.size #[.int .i64 p.x, .int .i64 p.y, .int .i64 p.z] 27 := by rw [← hW0]; exact Blk.new rfl
    have B0 : Below w.heap.size w W0 := by rw [← hW0]; go_grown
    have O0 : Hid (W0.ownsRow base 114 7 (.slice (some ⟨g, 0, none⟩) ls.length cap) ls.length (flat ls)) := own_of HO.out (fun k hk => by rw [← hW0]; rw [Below.heap_alloc _ _ _ (own_lt HO.out hk)])
    rw [hW0]
    clear hW0 HO
    have hg0 : g < W0.heap.size := by have := B0.size; omega
    go_loopg [5, 6] (ls.length + 1) (fun k u5 u6 wr => ∃ (j : Nat) (z : Int), u5 = .int .i64 z ∧ u6 = .int .i64 j ∧ j ≤ ls.length ∧ k + j = ls.length + 1 ∧ Hid (M.zR p (ls.drop j) z = Z) ∧ Below W0.heap.size W0 wr)
    case atStart => exact ⟨0, -1, rfl, rfl, Nat.zero_le _, by omega, HZ, Below.refl _ _⟩
    case round =>
      obtain ⟨j, z, rfl, rfl, hj, hk, hP, hB⟩ := hrel
      by_cases hlt : j < ls.length
      · obtain ⟨l, hl2⟩ : ∃ l, ls[j]? = some l := ⟨ls[j], List.getElem?_eq_getElem hlt⟩
        have O1 := own_of (W' := wr) O0.out (fun k hk => hB.block k (own_lt O0.out hk))
        obtain ⟨⟨k0, k1, k2, k3, k4, k5, k6⟩, hcap, hcm⟩ := own_leaf O1 hl2
        obtain ⟨a0, a1, a2, af, al⟩ := (q1.after hB).three
        have hP2 : Hid (M.zR p (l :: ls.drop (j + 1)) z = Z) := by unfold Hid; rw [← drop_cons hl2]; exact hP.out
        obtain ⟨B, hBB⟩ : ∃ B, M.holdsB2 l p = B := ⟨_, rfl⟩
        have HB : Hid (M.holdsB2 l p = B) := hBB
        obtain ⟨C, hCC⟩ : ∃ C, M.ownB l p = C := ⟨_, rfl⟩
        have HC : Hid (M.ownB l p = C) := hCC
        have HL2 : Hid (ls[j]? = some l) := hl2
        have hsz : W0.heap.size ≤ wr.heap.size := hB.size
        unfold maxLen at hcm
        clear hBB hCC hP O1 hl2
        have j0 : (0 : Int) ≤ (j : Int) := by omega
        have j1 : (j : Int) < (ls.length : Int) := by omega
        have j2 : (ls.length : Int) ≤ 512 := by omega
        have hgl : g < wr.heap.size := by omega
        go_wp2_with fail
        go_region_held3 (fun w' => w'.cell? ⟨g, j * 7, none⟩ = some (.int .i64 l.lo.x) ∧ w'.cell? ⟨g, j * 7 + 1, none⟩ = some (.int .i64 l.lo.y) ∧ w'.cell? ⟨g, j * 7 + 2, none⟩ = some (.int .i64 l.lo.z) ∧ w'.cell? ⟨g, j * 7 + 3, none⟩ = some (.int .i64 l.hi.x) ∧ w'.cell? ⟨g, j * 7 + 4, none⟩ = some (.int .i64 l.hi.y) ∧ w'.cell? ⟨g, j * 7 + 5, none⟩ = some (.int .i64 l.hi.z) ∧ w'.cell? ⟨g, j * 7 + 6, none⟩ = some (.int .i64 l.zone) ∧
            w'.cell? ⟨w.heap.size, 0, none⟩ = some (.int .i64 p.x) ∧ w'.cell? ⟨w.heap.size, 1, none⟩ = some (.int .i64 p.y) ∧ w'.cell? ⟨w.heap.size, 2, none⟩ = some (.int .i64 p.z)) (go_keep)
          ((go_at_call 65; refine (leafHolds_any l p _ B C HB HC).mono ?_; rintro e w1 ⟨rfl, hb1⟩; have B1 : Below W0.heap.size W0 w1 := bl (by go_grown) hb1; clear hb1; obtain ⟨⟨m0, m1, m2, m3, m4, m5, m6⟩, _, _⟩ := own_leaf (own_of (W' := w1) O0.out (fun k hk => B1.block k (own_lt O0.out hk))) HL2.out; obtain ⟨n0, n1, n2, nf, nl⟩ := (q1.after B1).three))
        clear k0 k1 k2 k3 k4 k5 k6 a0 a1 a2 af al
        cases B
        · have hC0 : C = false := by rw [← HC.out]; unfold M.ownB; rw [HB.out]; rfl
          subst hC0
          have E : Hid (M.zR p (ls.drop (j + 1)) z = Z) := by have := hP2.out; simp only [M.zR, HB.out, HC.out] at this; unfold Hid; simpa using this
          clear hP2 HC HB
          go_wp2
          go_roundg (gk - 1)
          case measure => omega
          case rel => exact ⟨j + 1, z, rfl, by go_num, hlt, by omega, E, B1⟩
        · by_cases hz : l.zone < 0
          · have E : Hid ((-1 : Int) = Z) := by have := hP2.out; simp only [M.zR, HB.out, hz] at this; unfold Hid; simpa using this
            clear hP2
            go_wp2
            go_ret
            exact ⟨ret_int E.out, bl B0 B1⟩
          · have E : Hid (M.zR p (ls.drop (j + 1)) (if C = true then l.zone else z) = Z) := by have := hP2.out; simp only [M.zR, HB.out, HC.out, hz] at this; unfold Hid; simpa using this
            clear hP2
            cases C
            · have E2 : Hid (M.zR p (ls.drop (j + 1)) z = Z) := by have := E.out; unfold Hid; simpa using this
              clear E
              go_wp2
              go_roundg (gk - 1)
              case measure => omega
              case rel => exact ⟨j + 1, z, rfl, by go_num, hlt, by omega, E2, B1⟩
            · have E2 : Hid (M.zR p (ls.drop (j + 1)) l.zone = Z) := by have := E.out; unfold Hid; simpa using this
              clear E
              go_wp2
              go_roundg (gk - 1)
              case measure => omega
              case rel => exact ⟨j + 1, l.zone, rfl, by go_num, hlt, by omega, E2, B1⟩
      · have E : Hid (z = Z) := by have := hP.out; rw [List.drop_of_length_le (by omega)] at this; exact this
        have j1 : ¬ (j : Int) < (ls.length : Int) := by omega
        clear hP
        go_wp2
        go_ret
        exact ⟨ret_int E.out, bl B0 hB⟩

end Go.Proofs.Ytonmihojfcjmjaa
