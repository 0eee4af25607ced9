import Derived.Test.YtonmihojfcjmjaaGreatBM
import Derived.Test.YtonmihojfcjmjaaGreatBRc
import Derived.Test.YtonmihojfcjmjaaGreatBRf
/- Contracts: Map.Zone. -/
namespace Go.Proofs.YtonmihojfcjmjaaGreat
open Go.RowKit
set_option linter.unusedVariables false
attribute [local go_sem] cell_set_off cell_set_blk

/-- What a slice of leaves looks like. -/
theorem own_form {W : World} {base e n cap m : Nat} {x : Option Addr} {ls : List M.Lf} (h : W.ownsRow base e 7 (.slice x n cap) m (flat ls)) (hm : m = ls.length) : (x = none ∧ n = 0 ∧ cap = 0 ∧ ls = []) ∨ ∃ g, x = some ⟨g, 0, none⟩ ∧ n = ls.length ∧ g < W.heap.size := by
  rcases h.2 with ⟨e1, e2⟩ | ⟨g, c, cur, e1, _, e3, _⟩
  · cases e1
    exact .inl ⟨rfl, rfl, rfl, List.length_eq_zero_iff.1 (by omega)⟩
  · cases e1
    exact .inr ⟨g, rfl, hm, (Array.getElem?_eq_some_iff.1 e3).1⟩

theorem holds_is (l : M.Lf) (p : M.V3) (w : World) (B : Bool) (hB : Hid (M.holdsB2 l p = B)) :
    Calls Tryz.prog 71 #[.agg #[.int .i64 l.lo.x, .int .i64 l.lo.y, .int .i64 l.lo.z, .int .i64 l.hi.x, .int .i64 l.hi.y, .int .i64 l.hi.z], .agg #[.int .i64 p.x, .int .i64 p.y, .int .i64 p.z]] w fun e w' => e = .returned (.bool B) ∧ Below w.heap.size w w' := by
  rw [← hB.out]
  exact holds_any l.lo l.hi p w

theorem drop_cons {ls : List M.Lf} {k : Nat} {l : M.Lf} (h : ls[k]? = some l) : ls.drop k = l :: ls.drop (k + 1) := by
  obtain ⟨h1, h2⟩ := List.getElem?_eq_some_iff.1 h
  rw [← h2]
  exact List.drop_eq_getElem_cons h1

set_option maxHeartbeats 2000000 in
theorem mapZone_any (cs : Array Value) (x : Option Addr) (n cap base : Nat) (ls : List M.Lf) (p : M.V3) (w : World) (hcs : cs[0]? = some (.slice x n cap)) (hown : w.ownsRow base 137 7 (.slice x n cap) ls.length (flat ls)) (hl : ls.length ≤ 512) :
    Calls Tryz.prog 72 #[.agg cs, .agg #[.int .i64 p.x, .int .i64 p.y, .int .i64 p.z]] w fun e w' => e = .returned (.int .i64 (M.zP p ls (-1))) ∧ Below w.heap.size w w' := by
  obtain ⟨Z, hZ⟩ : ∃ Z, M.zP p ls (-1) = Z := ⟨_, rfl⟩
  rw [hZ]
  have HZ : Hid (M.zP p ls (-1) = Z) := hZ
  have HO : Hid (w.ownsRow base 137 7 (.slice x n cap) ls.length (flat ls)) := hown
  rcases own_form hown rfl with ⟨rfl, rfl, rfl, rfl⟩ | ⟨g, rfl, rfl, hg⟩
  · have E : Hid ((-1 : Int) = Z) := hZ
    clear hZ hown HZ HO hl
    go_enter Tryz.func72, Tryz.ntmps72
    go_wp2_with fail
    refine wp_loop_rounds 1 ?_
    rw [rounds_succ]
    go_wp2
    go_ret
    exact ⟨ret_int E.out, by go_grown⟩
  · clear hZ hown
    go_enter Tryz.func72, Tryz.ntmps72
    go_wp2_with fail
    obtain ⟨W0, hW0⟩ : ∃ W0, ((w.alloc (.cells cs 46)).alloc (.cells #[.int .i64 p.x, .int .i64 p.y, .int .i64 p.z] 27)) = W0 := ⟨_, rfl⟩
    have q1 : Blk W0 (w.heap.size + 1) #[.int .i64 p.x, .int .i64 p.y, .int .i64 p.z] 27 := by rw [← hW0]; exact Blk.new (by simp)
    have B0 : Below w.heap.size w W0 := by rw [← hW0]; go_grown
    have O0 : Hid (W0.ownsRow base 137 7 (.slice (some ⟨g, 0, none⟩) ls.length cap) ls.length (flat ls)) := own_of HO.out (fun k hk => by rw [← hW0]; have := own_lt HO.out hk; rw [Below.heap_alloc _ _ _ (by simp; omega), Below.heap_alloc _ _ _ this])
    rw [hW0]
    clear hW0 HO
    have hg0 : g < W0.heap.size := by have := B0.size; omega
    go_loopg [5, 11] (ls.length + 1) (fun k u5 u11 wr => ∃ (j : Nat) (z : Int), u5 = .int .i64 z ∧ u11 = .int .i64 j ∧ j ≤ ls.length ∧ k + j = ls.length + 1 ∧ Hid (M.zP p (ls.drop j) z = Z) ∧ Below W0.heap.size W0 wr)
    case atStart => exact ⟨0, -1, rfl, rfl, Nat.zero_le _, by omega, HZ, Below.refl _ _⟩
    case round =>
      obtain ⟨j, z, rfl, rfl, hj, hk, hP, hB⟩ := hrel
      by_cases hlt : j < ls.length
      · obtain ⟨l, hl2⟩ : ∃ l, ls[j]? = some l := ⟨ls[j], List.getElem?_eq_getElem hlt⟩
        have O1 := own_of (W' := wr) O0.out (fun k hk => hB.block k (own_lt O0.out hk))
        obtain ⟨⟨k0, k1, k2, k3, k4, k5, k6⟩, hcap, hcm⟩ := own_leaf O1 hl2
        obtain ⟨a0, a1, a2, af, al⟩ := (q1.after hB).three
        have hP2 : Hid (M.zP p (l :: ls.drop (j + 1)) z = Z) := by unfold Hid; rw [← drop_cons hl2]; exact hP.out
        obtain ⟨B, hBB⟩ : ∃ B, M.holdsB2 l p = B := ⟨_, rfl⟩
        have HB : Hid (M.holdsB2 l p = B) := hBB
        have hsz : W0.heap.size ≤ wr.heap.size := hB.size
        unfold maxLen at hcm
        clear hBB hP O1 hl2
        have j0 : (0 : Int) ≤ (j : Int) := by omega
        have j1 : (j : Int) < (ls.length : Int) := by omega
        have j2 : (ls.length : Int) ≤ 512 := by omega
        go_wp2_with fail
        refine (holds_is l p _ B HB).mono ?_
        rintro e w1 ⟨rfl, hb1⟩
        have qa := (show Blk _ wr.heap.size #[.int .i64 l.lo.x, .int .i64 l.lo.y, .int .i64 l.lo.z, .int .i64 l.hi.x, .int .i64 l.hi.y, .int .i64 l.hi.z, .int .i64 l.zone] 137 from (by repeat' (first | (with_reducible assumption) | (refine Blk.new ?_; (first | (simp; done) | rfl); done) | (with_reducible refine Blk.alloc ?_) | (with_reducible refine Blk.drew ?_) | (with_reducible refine Blk.drewN ?_)))).after hb1
        have B1 : Below W0.heap.size W0 w1 := (hB.alloc hsz _).trans (hb1.mono (by simp; omega))
        have n6 := qa.cell 6
        simp only [List.getElem?_toArray, List.getElem?_cons_zero, List.getElem?_cons_succ] at n6
        clear hb1 k0 k1 k2 k3 k4 k5 k6 qa a0 a1 a2 af al
        cases B
        · go_wp2
          go_roundg (gk - 1)
          case measure => omega
          case rel => exact ⟨j + 1, z, rfl, by go_num, hlt, by omega, by have := hP2.out; simp only [M.zP, HB.out] at this; exact this, B1⟩
        · by_cases hz : l.zone = -1
          · have E : Hid ((-1 : Int) = Z) := by have := hP2.out; simp only [M.zP, HB.out, if_true, hz] at this; exact this
            have t1 : (l.zone == -1) = true := by simp [hz]
            clear hz hP2
            go_wp2
            go_ret
            exact ⟨ret_int E.out, bl B0 B1⟩
          · have E : Hid (M.zP p (ls.drop (j + 1)) l.zone = Z) := by have := hP2.out; simp only [M.zP, HB.out, if_true, hz, if_false] at this; exact this
            have t1 : (l.zone == -1) = false := by simp [hz]
            clear hz hP2
            go_wp2
            go_roundg (gk - 1)
            case measure => omega
            case rel => exact ⟨j + 1, l.zone, rfl, by go_num, hlt, by omega, E, B1⟩
      · have E : Hid (z = Z) := by have := hP.out; rw [List.drop_of_length_le (by omega)] at this; exact this
        have j1 : ¬ (j : Int) < (ls.length : Int) := by omega
        clear hP
        go_wp2
        go_ret
        exact ⟨ret_int E.out, bl B0 hB⟩

end Go.Proofs.YtonmihojfcjmjaaGreat
