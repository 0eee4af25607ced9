/- Contract of the document's answer: place. -/
import Derived.Test.YtonmihojfcjmjaaRef1
import Derived.Test.YtonmihojfcjmjaaRd1
import Derived.Test.YtonmihojfcjmjaaOwn
import Derived.Maps.AppendAt
namespace Go.Proofs.Ytonmihojfcjmjaa
open Go.RowKit
set_option linter.unusedVariables false
attribute [local go_sem] cell_set_off cell_set_blk

/-- A stack's cells: the next tree last. -/
def dueCells (stk : List (Nat × M.V3 × M.V3)) : List Value := stk.reverse.map fun t => .int .i64 (12 - (t.1 : Int))

def placeS (s : ByteArray) : Int := if (M.top s).1 = false then ((M.top s).2.place : Int) else optInt (M.pairsF s (s.size + 1) (M.top s).2.place)

theorem infoInt : (Try.prog.info? 3).map (fun i => (i.zero, i.size, i.bytes)) = some (some (.int .i64 0), 1, 8) := by kernel_rfl

theorem dueCells_cons (r : Nat) (lo hi : M.V3) (stk : List (Nat × M.V3 × M.V3)) : dueCells ((r, lo, hi) :: stk) = dueCells stk ++ [.int .i64 (12 - (r : Int))] := by simp [dueCells]
theorem dueCells_len (stk : List (Nat × M.V3 × M.V3)) : (dueCells stk).length = stk.length := by simp [dueCells]

/-- Where the loop stands. -/
structure PL (s : ByteArray) (w wr : World) (stk : List (Nat × M.V3 × M.V3)) (st : M.St) (g cap : Nat) : Prop where
  own : wr.ownsRow w.heap.size 3 1 (.slice (some ⟨g, 0, none⟩) stk.length cap) stk.length (dueCells stk)
  bel : Below w.heap.size w wr
  eqn : M.trees s stk st = M.top s
  len : stk.length ≤ st.place + 1
  dep : ∀ t ∈ stk, t.1 ≤ 12

set_option maxRecDepth 100000 in
set_option maxHeartbeats 2000000 in
theorem place_any (s : ByteArray) (w : World) (hs : s.size ≤ 512) : Calls Try.prog 36 #[.string s] w fun e w' => e = .returned (.int .i64 (placeS s)) ∧ Below w.heap.size w w' := by
  obtain ⟨P, hP⟩ : ∃ P, placeS s = P := ⟨_, rfl⟩
  rw [hP]
  have HP : Hid (placeS s = P) := hP
  clear hP
  go_enter Try.func36, Try.ntmps36
  go_wp2_with fail
  go_loopg [3, 4] (s.size + 1) (fun k u3 u4 wr => ∃ (stk : List (Nat × M.V3 × M.V3)) (st : M.St) (g cap : Nat), u3 = .slice (some ⟨g, 0, none⟩) stk.length cap ∧ u4 = .int .i64 st.place ∧ st.place ≤ s.size ∧ k + st.place = s.size + 1 ∧ PL s w wr stk st g cap)
  case atStart =>
    refine ⟨[(12, M.cubeLo, M.cubeHi)], M.st0, w.heap.size, 1, rfl, rfl, Nat.zero_le _, rfl, ⟨?_, by go_grown, M.trees_one _ _ _ _ _, by simp, by simp⟩⟩
    exact ⟨rfl, .inr ⟨w.heap.size, 1, #[.int .i64 0], rfl, Nat.le_refl _, (Blk.new rfl).at_, by simp, by simp [maxLen], rfl, rfl⟩⟩
  case round =>
    obtain ⟨stk, st, g, cap, rfl, rfl, hj, hk, hL⟩ := hrel
    cases stk with
    | nil =>
      have hb := hL.bel
      have he : M.top s = (true, st) := hL.eqn.symm
      have E : Hid (optInt (M.pairsF s (s.size + 1) st.place) = P) := by unfold Hid; rw [← HP.out]; unfold placeS; rw [he]; rfl
      clear he hL HP
      simp only [List.length_nil]
      go_wp2_with fail
      refine (rpairs_any s st.place (s.size + 1) _ hs hj (by omega) P E).mono ?_
      rintro e w' ⟨rfl, rfl⟩
      go_wp2
      go_ret
      exact ⟨rfl, hb⟩
    | cons t stk =>
      obtain ⟨r, lo, hi⟩ := t
      by_cases hlt : st.place < s.size
      · have e0 := M.byteAt_lt hlt
        have hown := hL.own
        rw [dueCells_cons] at hown
        obtain ⟨hcell, hcap, hcm⟩ := own_last hown (dueCells_len stk)
        have hpop := ownsRow_pop (by rw [dueCells_len]; simp) hown
        have hb := hL.bel
        have hlen := hL.len
        simp only [List.length_cons] at hlen
        have hm0 : (0 : Int) ≤ (stk.length : Int) := by omega
        have hm1 : (stk.length : Int) ≤ 512 := by omega
        have hm2 : (stk.length : Int) ≤ (cap : Int) := by omega
        have hr : r ≤ 12 := hL.dep (r, lo, hi) (by simp)
        have hdep : Hid (∀ t ∈ stk, t.1 ≤ 12) := fun t ht => hL.dep t (by simp [ht])
        have HE : Hid (M.trees s ((r, lo, hi) :: stk) st = M.top s) := hL.eqn
        have HO : Hid (wr.ownsRow w.heap.size 3 1 (.slice (some ⟨g, 0, none⟩) stk.length cap) stk.length (dueCells stk)) := hpop
        unfold maxLen at hcm
        clear hL hown hpop
        simp only [List.length_cons]
        by_cases hl : M.leafB (M.byteAt s st.place) = true
        · have HN : Hid (M.trees s stk (st.leaf lo hi (M.byteAt s st.place)) = M.top s) := by unfold Hid; rw [← M.trees_leaf hl]; exact HE.out
          clear HE
          by_cases h35 : M.byteAt s st.place = 35
          · have t1 : ((s[st.place].toNat : Int) == 35) = true := by rw [← e0]; simp [h35]
            have hz : Hid (zoneB (s[st.place].toNat : Int) = false) := by unfold Hid; rw [← e0, h35]; rfl
            generalize M.leafB (M.byteAt s st.place) = xx at hl
            clear hl h35 e0
            go_wp2_with fail
            refine (rzone_any _ _ false hz).mono ?_
            rintro e w' ⟨rfl, rfl⟩
            go_wp2
            go_roundg (gk - 1)
            case measure => omega
            case rel => exact ⟨stk, st.leaf lo hi (M.byteAt s st.place), g, cap, rfl, by go_num, by exact hlt, by simp only [M.St.leaf]; omega, ⟨HO.out, hb, HN.out, by simp only [M.St.leaf]; omega, hdep.out⟩⟩
          · have hl2 := hl
            unfold M.leafB at hl2
            simp [h35] at hl2
            have t1 : ((s[st.place].toNat : Int) == 35) = false := by rw [← e0]; simp [h35]
            have hz : Hid (zoneB (s[st.place].toNat : Int) = true) := by unfold Hid; rw [← e0]; unfold zoneB; simp; omega
            clear hl h35 e0 hl2
            go_wp2_with fail
            refine (rzone_any _ _ true hz).mono ?_
            rintro e w' ⟨rfl, rfl⟩
            go_wp2
            go_roundg (gk - 1)
            case measure => omega
            case rel => exact ⟨stk, st.leaf lo hi (M.byteAt s st.place), g, cap, rfl, by go_num, by exact hlt, by simp only [M.St.leaf]; omega, ⟨HO.out, hb, HN.out, by simp only [M.St.leaf]; omega, hdep.out⟩⟩
        · have hl' : M.leafB (M.byteAt s st.place) = false := by simpa using hl
          have h35 : M.byteAt s st.place ≠ 35 := fun e => by rw [e] at hl'; cases hl'
          have t1 : ((s[st.place].toNat : Int) == 35) = false := by rw [← e0]; simp [h35]
          have hz : Hid (zoneB (s[st.place].toNat : Int) = false) := by
            unfold Hid; rw [← e0]
            have := hl'
            unfold M.leafB at this
            unfold zoneB
            simp at this ⊢
            omega
          by_cases hn : M.planeB (M.byteAt s st.place) = true
          · cases r with
            | zero =>
              have he : M.top s = (false, st) := by rw [← HE.out]; exact M.trees_deep hl'
              have E : Hid ((st.place : Int) = P) := by unfold Hid; rw [← HP.out]; unfold placeS; rw [he]; rfl
              have hn2 := hn
              unfold M.planeB at hn2
              rw [e0] at hn2
              simp at hn2
              obtain ⟨y1, y2⟩ := hn2
              have y3 : ¬ (s[st.place].toNat : Int) < 120 := by omega
              have y4 : ¬ (122 : Int) < (s[st.place].toNat : Int) := by omega
              clear HE he hl hl' h35 hn e0 HP hdep HO y1 y2
              simp at hcell
              go_wp2_with fail
              refine (rzone_any _ _ false hz).mono ?_
              rintro e w' ⟨rfl, rfl⟩
              go_wp2
              go_ret
              exact ⟨ret_int E.out, hb⟩
            | succ r =>
              have hn2 := hn
              unfold M.planeB at hn2
              rw [e0] at hn2
              simp at hn2
              obtain ⟨y1, y2⟩ := hn2
              have y3 : ¬ (s[st.place].toNat : Int) < 120 := by omega
              have y4 : ¬ (122 : Int) < (s[st.place].toNat : Int) := by omega
              obtain ⟨ab, hab⟩ : ∃ ab : Int, 12 - ((r + 1 : Nat) : Int) = ab := ⟨_, rfl⟩
              rw [hab] at hcell
              have ab1 : ab < 12 := by omega
              have ab0 : 0 ≤ ab := by omega
              have HAB : Hid (12 - ((r : Nat) : Int) = ab + 1) := by unfold Hid; omega
              clear hab y1 y2 e0
              by_cases h1 : st.place + 1 < s.size
              · have e1 := M.byteAt_lt h1
                obtain ⟨d, hd⟩ : ∃ d, M.hexV (M.byteAt s (st.place + 1)) = d := ⟨_, rfl⟩
                have HD : Hid (M.hexV (s[st.place + 1].toNat : Int) = d) := by unfold Hid; rw [← e1]; exact hd
                have l1 := (s[st.place + 1]).toNat_lt
                by_cases h3 : d < 0
                · have he : M.top s = (false, st.goto (st.place + 1)) := by rw [← HE.out]; exact M.trees_bad1 hl' hn (by rw [hd]; exact h3)
                  have E : Hid ((st.place : Int) + 1 = P) := by unfold Hid; rw [← HP.out]; unfold placeS; rw [he]; rfl
                  clear HE he hl hl' h35 hn HP hdep HO e1 hd
                  go_wp2_with fail
                  refine (rzone_any _ _ false hz).mono ?_
                  rintro e w' ⟨rfl, rfl⟩
                  go_wp2_with fail
                  refine wp_loop_rounds 3 ?_
                  rw [rounds_succ]
                  go_wp2_with fail
                  refine (rhex_any _ d _ (by omega) (by omega) HD).mono ?_
                  rintro e w' ⟨rfl, rfl⟩
                  go_wp2
                  go_ret
                  exact ⟨ret_int E.out, hb⟩
                · by_cases h2 : st.place + 2 < s.size
                  · have e2 := M.byteAt_lt h2
                    obtain ⟨f, hf⟩ : ∃ d, M.hexV (M.byteAt s (st.place + 2)) = d := ⟨_, rfl⟩
                    have HF : Hid (M.hexV (s[st.place + 2].toNat : Int) = f) := by unfold Hid; rw [← e2]; exact hf
                    have l2 := (s[st.place + 2]).toNat_lt
                    by_cases h4 : f < 0
                    · have he : M.top s = (false, st.goto (st.place + 2)) := by rw [← HE.out]; exact M.trees_bad2 hl' hn (by rw [hd]; exact h3) (by rw [hf]; exact h4)
                      have E : Hid ((st.place : Int) + 2 = P) := by unfold Hid; rw [← HP.out]; unfold placeS; rw [he]; rfl
                      clear HE he hl hl' h35 hn HP hdep HO e1 e2 hd hf
                      go_wp2_with fail
                      refine (rzone_any _ _ false hz).mono ?_
                      rintro e w' ⟨rfl, rfl⟩
                      go_wp2_with fail
                      refine wp_loop_rounds 3 ?_
                      rw [rounds_succ]
                      go_wp2_with fail
                      refine (rhex_any _ d _ (by omega) (by omega) HD).mono ?_
                      rintro e w' ⟨rfl, rfl⟩
                      go_wp2_with fail
                      rw [rounds_succ]
                      go_wp2_with fail
                      refine (rhex_any _ f _ (by omega) (by omega) HF).mono ?_
                      rintro e w' ⟨rfl, rfl⟩
                      go_wp2
                      go_ret
                      exact ⟨ret_int E.out, hb⟩
                    · have HN : Hid (M.trees s ((r, lo, M.lowHi s st hi) :: (r, M.upLo s st lo, hi) :: stk) (st.cut s lo hi) = M.top s) := by unfold Hid; rw [← M.trees_plane hl' hn (by rw [hd]; exact h3) (by rw [hf]; exact h4)]; exact HE.out
                      clear HE hl hl' h35 hn e1 e2 hd hf
                      obtain ⟨i0, hi0, hz0, hz1, hz2⟩ := info_parts infoInt
                      go_wp2_with fail
                      refine (rzone_any _ _ false hz).mono ?_
                      rintro e wr ⟨rfl, rfl⟩
                      go_wp2_with fail
                      refine wp_loop_rounds 3 ?_
                      rw [rounds_succ]
                      go_wp2_with fail
                      refine (rhex_any _ d _ (by omega) (by omega) HD).mono ?_
                      rintro e wr ⟨rfl, rfl⟩
                      go_wp2_with fail
                      rw [rounds_succ]
                      go_wp2_with fail
                      refine (rhex_any _ f _ (by omega) (by omega) HF).mono ?_
                      rintro e wr ⟨rfl, rfl⟩
                      go_wp2_with fail
                      rw [rounds_succ]
                      go_wp2_with (first | (at_builtin; refine wpList_append_lies _ (by rfl) _ _ _ (by rfl) w.heap.size 3 i0 _ 1 8 Try.underlying90 hi0 hz0 hz1 hz2 rfl (by omega) (.slice (some ⟨g, 0, none⟩) stk.length cap) stk.length (dueCells stk) (by rfl) (HO.out.alloc _) ⟨wr.heap.size, 0, none⟩ 1 1 [.int .i64 (ab + 1)] (by rfl) (by rfl) (World.news_of_block (cs := #[.int .i64 (ab + 1)]) (t := 3) (fr := (0, 0)) (heap_alloc_new wr _)) (by simp [Value.oneCell']) (by omega) (by unfold maxLen; omega) (by omega) (by have := hb.size; simp; omega) (wr.heap.size + 1) (by simp) ?_; intro g1 cap1 w1 hown1 hgrow1 hat1 hlt1) | (at_builtin; refine wpList_append_lies _ (by rfl) _ _ _ (by rfl) w.heap.size 3 i0 _ 1 8 Try.underlying90 hi0 hz0 hz1 hz2 rfl (by omega) (.slice (some ⟨g1, 0, none⟩) (stk.length + 1) cap1) (stk.length + 1) (dueCells stk ++ [.int .i64 (ab + 1)]) (by rfl) (hown1.alloc _) ⟨w1.heap.size, 0, none⟩ 1 1 [.int .i64 (ab + 1)] (by rfl) (by rfl) (World.news_of_block (cs := #[.int .i64 (ab + 1)]) (t := 3) (fr := (0, 0)) (heap_alloc_new w1 _)) (by simp [Value.oneCell']) (by omega) (by unfold maxLen; omega) (by omega) (by have := hb.size; have h9 := hgrow1.size; simp at h9; simp; omega) (w1.heap.size + 1) (by simp) ?_; intro g2 cap2 w2 hown2 hgrow2 hat2 hlt2))
                      go_roundg (gk - 3)
                      case measure => omega
                      case rel =>
                        have z1 := hb.size
                        have z2 := hgrow1.size
                        simp at z2
                        have b1 : Below w.heap.size w w1 := (hb.alloc z1 _).grown hgrow1 (by simp; omega) (own_row HO.out)
                        have b2 : Below w.heap.size w w2 := (b1.alloc (by omega) _).grown hgrow2 (by simp; omega) (own_row hown1)
                        refine ⟨(r, lo, M.lowHi s st hi) :: (r, M.upLo s st lo, hi) :: stk, st.cut s lo hi, g2, cap2, by simp, by simp [M.St.cut, M.St.plane], by simp only [M.St.cut, M.St.plane]; omega, by simp only [M.St.cut, M.St.plane]; omega, ⟨?_, b2, HN.out, by simp only [M.St.cut, M.St.plane, List.length_cons]; omega, ?_⟩⟩
                        · rw [dueCells_cons, dueCells_cons, HAB.out]
                          exact hown2
                        · intro t ht
                          simp at ht
                          rcases ht with rfl | rfl | ht
                          · show r ≤ 12; omega
                          · show r ≤ 12; omega
                          · exact hdep.out t ht
                  · have he : M.top s = (false, st.goto (st.place + 2)) := by rw [← HE.out]; exact M.trees_bad2 hl' hn (by rw [hd]; exact h3) (by rw [M.byteAt_ge (by omega)]; decide)
                    have E : Hid ((s.size : Int) = P) := by unfold Hid; rw [← HP.out]; unfold placeS; rw [he]; simp [M.St.goto]; omega
                    clear HE he hl hl' h35 hn HP hdep HO e1 hd
                    go_wp2_with fail
                    refine (rzone_any _ _ false hz).mono ?_
                    rintro e w' ⟨rfl, rfl⟩
                    go_wp2_with fail
                    refine wp_loop_rounds 3 ?_
                    rw [rounds_succ]
                    go_wp2_with fail
                    refine (rhex_any _ d _ (by omega) (by omega) HD).mono ?_
                    rintro e w' ⟨rfl, rfl⟩
                    go_wp2_with fail
                    rw [rounds_succ]
                    go_wp2
                    go_ret
                    exact ⟨ret_int E.out, hb⟩
              · have he : M.top s = (false, st.goto (st.place + 1)) := by rw [← HE.out]; exact M.trees_bad1 hl' hn (by rw [M.byteAt_ge (by omega)]; decide)
                have E : Hid ((s.size : Int) = P) := by unfold Hid; rw [← HP.out]; unfold placeS; rw [he]; simp [M.St.goto]; omega
                clear HE he hl hl' h35 hn HP hdep HO
                go_wp2_with fail
                refine (rzone_any _ _ false hz).mono ?_
                rintro e w' ⟨rfl, rfl⟩
                go_wp2_with fail
                refine wp_loop_rounds 3 ?_
                rw [rounds_succ]
                go_wp2
                go_ret
                exact ⟨ret_int E.out, hb⟩
          · have hn' : M.planeB (M.byteAt s st.place) = false := by simpa using hn
            have he : M.top s = (false, st) := by rw [← HE.out]; exact M.trees_none hl' hn'
            have E : Hid ((st.place : Int) = P) := by unfold Hid; rw [← HP.out]; unfold placeS; rw [he]; rfl
            have hn2 := hn'
            unfold M.planeB at hn2
            rw [e0] at hn2
            by_cases y1 : (s[st.place].toNat : Int) < 120
            · clear HE he hl hl' h35 hn hn' hn2 e0 HP hdep HO
              go_wp2_with fail
              refine (rzone_any _ _ false hz).mono ?_
              rintro e w' ⟨rfl, rfl⟩
              go_wp2
              go_ret
              exact ⟨ret_int E.out, hb⟩
            · have y2 : (122 : Int) < (s[st.place].toNat : Int) := by simp at hn2; omega
              clear HE he hl hl' h35 hn hn' hn2 e0 HP hdep HO
              go_wp2_with fail
              refine (rzone_any _ _ false hz).mono ?_
              rintro e w' ⟨rfl, rfl⟩
              go_wp2
              go_ret
              exact ⟨ret_int E.out, hb⟩
      · have hge : s.size ≤ st.place := by omega
        have he : M.top s = (false, st) := by rw [← hL.eqn]; exact M.trees_none (by rw [M.byteAt_ge hge]; rfl) (by rw [M.byteAt_ge hge]; rfl)
        have E : Hid ((s.size : Int) = P) := by unfold Hid; rw [← HP.out]; unfold placeS; rw [he]; simp; omega
        have hb := hL.bel
        clear hL he HP
        simp only [List.length_cons]
        go_wp2
        go_ret
        exact ⟨ret_int E.out, hb⟩
end Go.Proofs.Ytonmihojfcjmjaa
