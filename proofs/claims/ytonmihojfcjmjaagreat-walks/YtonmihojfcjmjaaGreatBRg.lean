import Derived.Test.YtonmihojfcjmjaaGreatBRf
import Derived.Test.YtonmihojfcjmjaaGreatBRc
/- Contract of the document's answer: leaves. -/
namespace Go.Proofs.YtonmihojfcjmjaaGreat
open Go.RowKit
set_option linter.unusedVariables false
attribute [local go_sem] cell_set_off cell_set_blk

set_option maxRecDepth 100000 in
set_option maxHeartbeats 8000000 in
theorem leaves_any (s : ByteArray) (w : World) (hs : s.size ≤ 512) (hok : (M.top s).1 = true) : Calls Tryz.prog 15 #[.string s] w (LeavesPost s w) := by
  have HOK : Hid ((M.top s).1 = true) := hok
  clear hok
  go_enter Tryz.func15, Tryz.ntmps15
  go_wp2_with fail
  go_loopg [4, 5, 6, 7, 8] (s.size + 1) (fun k u4 u5 u6 u7 u8 wr => ∃ (stk : List (Nat × M.V3 × M.V3)) (st : M.St) (g cap : Nat) (x : Option Addr) (n c2 : Nat), u4 = .slice (some ⟨g, 0, none⟩) stk.length cap ∧ u5 = .slice x n c2 ∧ u6 = .int .i64 st.wrong ∧ u7 = .int .i64 st.planes ∧ u8 = .int .i64 st.place ∧ k + st.place = s.size + 1 ∧ LV s w wr stk st g cap (.slice x n c2))
  case atStart =>
    refine ⟨[(12, M.cubeLo, M.cubeHi)], M.st0, w.heap.size, 1, none, 0, 0, rfl, rfl, rfl, rfl, rfl, rfl, ⟨?_, ⟨rfl, .inl ⟨rfl, rfl⟩⟩, by simp [Value.ownBlock], by go_grown, M.trees_one _ _ _ _ _, M.st0_inv s, by simp, ?_⟩⟩
    · exact ⟨rfl, .inr ⟨w.heap.size, 1, _, rfl, Nat.le_refl _, (Blk.new rfl).at_, by simp, by simp [maxLen], rfl, rfl⟩⟩
    · intro t ht
      simp at ht
      subst ht
      exact ⟨M.cubeLo_cub, M.cubeHi_cub⟩
  case round =>
    obtain ⟨stk, st, g, cap, x, n, c2, rfl, rfl, rfl, rfl, rfl, hk, hL⟩ := hrel
    have i1 := hL.inv.pl
    have i2 := hL.inv.pn
    have i3 := hL.inv.lv
    have i4 := hL.inv.w1
    have i5 := hL.inv.w2
    cases stk with
    | nil =>
      have he : M.top s = (true, st) := hL.eqn.symm
      have hb := hL.bel
      have HO : Hid (wr.ownsRow w.heap.size 93 7 (.slice x n c2) (M.top s).2.leaves.length (flat (M.top s).2.leaves)) := by unfold Hid; rw [he]; exact hL.lvs
      have E : Hid (st.wrong = (M.top s).2.wrong) := by unfold Hid; rw [he]
      clear hL he
      simp only [List.length_nil]
      go_wp2
      go_ret2
      exact ⟨x, n, c2, by rw [E.out]; rfl, HO.out, hb⟩
    | cons t stk =>
      obtain ⟨r, lo, hi⟩ := t
      have hown := hL.own
      rw [dueL_cons] at hown
      obtain ⟨⟨k0, k1, k2, k3, k4, k5, k6⟩, hcap, hcm⟩ := own_leaf (i := stk.length) (l := ⟨lo, hi, 0⟩) hown (by rw [List.getElem?_append_right (by rw [dueL_len]; omega), dueL_len]; simp)
      rw [flat_snoc] at hown
      have hpop := ownsRow_pop (by rw [flat_len, dueL_len]) hown
      have hb := hL.bel
      have hlen := hL.len
      simp only [List.length_cons] at hlen hcap
      simp only at k0 k1 k2 k3 k4 k5 k6
      have HL : Hid (LV s w wr ((r, lo, hi) :: stk) st g cap (.slice x n c2)) := hL
      have HO : Hid (wr.ownsRow w.heap.size 93 7 (.slice (some ⟨g, 0, none⟩) stk.length cap) stk.length (flat (dueL stk))) := hpop
      unfold maxLen at hcm
      have hm0 : (0 : Int) ≤ (stk.length : Int) := by omega
      have hm1 : (stk.length : Int) ≤ 512 := by omega
      have hm2 : (stk.length : Int) ≤ (cap : Int) := by omega
      by_cases hlt : st.place < s.size
      · have e0 := M.byteAt_lt hlt
        clear hL hown hpop
        simp only [List.length_cons]
        by_cases hl : M.leafB (M.byteAt s st.place) = true
        · have HN : Hid (M.trees s stk (st.leaf lo hi (M.byteAt s st.place)) = M.top s) := by unfold Hid; rw [← M.trees_leaf hl]; exact HL.out.eqn
          have HLf : Hid (M.leafB (M.byteAt s st.place) = true) := hl
          obtain ⟨i0, hi0, hz0, hz1, hz2⟩ := info_parts infoLeaf2
          by_cases h35 : M.byteAt s st.place = 35
          · have t1 : ((s[st.place].toNat : Int) == 35) = true := by rw [← e0]; simp [h35]
            have t2 : (s[st.place].toNat : Int) < 120 := by omega
            have HZ : Hid (M.zoneV (M.byteAt s st.place) = -1) := by unfold Hid M.zoneV; rw [if_pos h35]
            clear hl h35 e0
            go_wp2_with (at_builtin; refine wpList_append_lies _ (by rfl) _ _ _ (by rfl) w.heap.size 93 i0 _ 7 56 Tryz.underlying69 hi0 hz0 hz1 hz2 rfl (by omega) (.slice x n c2) st.leaves.length (flat st.leaves) (by rfl) ((HL.out.lvs.alloc _).alloc _) ⟨wr.heap.size + 1, 0, none⟩ 1 1 (leafCells ⟨lo, hi, -1⟩) (by rfl) (by rfl) (World.news_of_block (cs := #[.int .i64 lo.x, .int .i64 lo.y, .int .i64 lo.z, .int .i64 hi.x, .int .i64 hi.y, .int .i64 hi.z, .int .i64 (-1)]) (t := 93) (fr := (0, 0)) (Blk.new (by simp)).at_) (by simp [leafCells, Value.oneCell']) (by omega) (by unfold maxLen; omega) (by omega) (by have := hb.size; simp; omega) (wr.heap.size + 1 + 1) (by simp) ?_; intro g1 cap1 w1 hown1 hgrow1 hat1 hlt1)
            go_roundg (gk - 1)
            case measure => omega
            case rel =>
              have hat : (Value.slice x n c2).ownBlock = some g1 ∨ wr.heap.size ≤ g1 := by rcases hat1 with e | e; exact .inl e; exact .inr (by omega)
              exact ⟨stk, st.leaf lo hi (M.byteAt s st.place), g, cap, some ⟨g1, 0, none⟩, st.leaves.length + 1, cap1, rfl, rfl, rfl, rfl, by go_num, by simp only [M.St.leaf]; omega, HL.out.leaf HO.out (by go_grown) hgrow1 hat (by rw [HZ.out]; exact hown1) HN.out HLf.out⟩
          · have hl2 := hl
            unfold M.leafB at hl2
            simp [h35] at hl2
            have t1 : ((s[st.place].toNat : Int) == 35) = false := by rw [← e0]; simp [h35]
            have t2 : (s[st.place].toNat : Int) < 120 := by omega
            have HZ : Hid (M.zoneV (M.byteAt s st.place) = (s[st.place].toNat : Int) - 48) := by unfold Hid M.zoneV; rw [if_neg h35, e0]
            clear hl h35 e0 hl2
            go_wp2_with (at_builtin; refine wpList_append_lies _ (by rfl) _ _ _ (by rfl) w.heap.size 93 i0 _ 7 56 Tryz.underlying69 hi0 hz0 hz1 hz2 rfl (by omega) (.slice x n c2) st.leaves.length (flat st.leaves) (by rfl) ((HL.out.lvs.alloc _).alloc _) ⟨wr.heap.size + 1, 0, none⟩ 1 1 (leafCells ⟨lo, hi, (s[st.place].toNat : Int) - 48⟩) (by rfl) (by rfl) (World.news_of_block (cs := #[.int .i64 lo.x, .int .i64 lo.y, .int .i64 lo.z, .int .i64 hi.x, .int .i64 hi.y, .int .i64 hi.z, .int .i64 ((s[st.place].toNat : Int) - 48)]) (t := 93) (fr := (0, 0)) (Blk.new (by simp)).at_) (by simp [leafCells, Value.oneCell']) (by omega) (by unfold maxLen; omega) (by omega) (by have := hb.size; simp; omega) (wr.heap.size + 1 + 1) (by simp) ?_; intro g1 cap1 w1 hown1 hgrow1 hat1 hlt1)
            go_roundg (gk - 1)
            case measure => omega
            case rel =>
              have hat : (Value.slice x n c2).ownBlock = some g1 ∨ wr.heap.size ≤ g1 := by rcases hat1 with e | e; exact .inl e; exact .inr (by omega)
              exact ⟨stk, st.leaf lo hi (M.byteAt s st.place), g, cap, some ⟨g1, 0, none⟩, st.leaves.length + 1, cap1, rfl, rfl, rfl, rfl, by go_num, by simp only [M.St.leaf]; omega, HL.out.leaf HO.out (by go_grown) hgrow1 hat (by rw [HZ.out]; exact hown1) HN.out HLf.out⟩
        · have hl' : M.leafB (M.byteAt s st.place) = false := by simpa using hl
          have nope : ∀ z, M.top s = (false, z) → False := fun z e => by have := HOK.out; rw [e] at this; cases this
          have hn : M.planeB (M.byteAt s st.place) = true := by
            cases hn : M.planeB (M.byteAt s st.place)
            · exact absurd (HL.out.eqn.symm.trans (M.trees_none hl' hn)) (nope _)
            · rfl
          cases r with
          | zero => exact absurd (HL.out.eqn.symm.trans (M.trees_deep hl')) (nope _)
          | succ r =>
            have h3 : ¬ M.hexV (M.byteAt s (st.place + 1)) < 0 := fun h3 => nope _ (HL.out.eqn.symm.trans (M.trees_bad1 hl' hn h3))
            have h4 : ¬ M.hexV (M.byteAt s (st.place + 2)) < 0 := fun h4 => nope _ (HL.out.eqn.symm.trans (M.trees_bad2 hl' hn h3 h4))
            have HN : Hid (M.trees s ((r, lo, M.lowHi s st hi) :: (r, M.upLo s st lo, hi) :: stk) (st.cut s lo hi) = M.top s) := by unfold Hid; rw [← M.trees_plane hl' hn h3 h4]; exact HL.out.eqn
            have q1 : st.place + 1 < s.size := M.hexV_in (by omega)
            have q2 : st.place + 2 < s.size := M.hexV_in (by omega)
            have e1 := M.byteAt_lt q1
            have e2 := M.byteAt_lt q2
            obtain ⟨d, hd⟩ : ∃ d, M.hexV (M.byteAt s (st.place + 1)) = d := ⟨_, rfl⟩
            obtain ⟨f, hf⟩ : ∃ d, M.hexV (M.byteAt s (st.place + 2)) = d := ⟨_, rfl⟩
            have HD : Hid (M.hexV (s[st.place + 1].toNat : Int) = d) := by unfold Hid; rw [← e1]; exact hd
            have HF : Hid (M.hexV (s[st.place + 2].toNat : Int) = f) := by unfold Hid; rw [← e2]; exact hf
            have l1 := (s[st.place + 1]).toNat_lt
            have l2 := (s[st.place + 2]).toNat_lt
            have d1 : 0 ≤ d := by omega
            have d2 : d ≤ 15 := by have := M.hexV_bd (M.byteAt s (st.place + 1)); omega
            have f1 : 0 ≤ f := by omega
            have f2 : f ≤ 15 := by have := M.hexV_bd (M.byteAt s (st.place + 2)); omega
            have hat : M.planeAt s st.place = 16 * (16 * d + f) := by unfold M.planeAt; rw [hd, hf]
            have hpl : M.planeB (s[st.place].toNat : Int) = true := by rw [← e0]; exact hn
            have hpl2 := hpl
            unfold M.planeB at hpl2
            simp only [Bool.and_eq_true, decide_eq_true_eq] at hpl2
            obtain ⟨pc1, pc2⟩ := hpl2
            have t2 : ¬ (s[st.place].toNat : Int) < 120 := by omega
            have t3 : decide ((s.size : Int) ≤ (st.place : Int) + 2) = false := by simp; omega
            obtain ⟨lo2, hlo2⟩ : ∃ p, M.setAx lo (s[st.place].toNat : Int) (16 * (16 * d + f)) = p := ⟨_, rfl⟩
            obtain ⟨hi2, hhi2⟩ : ∃ p, M.setAx hi (s[st.place].toNat : Int) (16 * (16 * d + f)) = p := ⟨_, rfl⟩
            have HLo : Hid (M.setAx lo (s[st.place].toNat : Int) (16 * (16 * d + f)) = lo2) := hlo2
            have HHi : Hid (M.setAx hi (s[st.place].toNat : Int) (16 * (16 * d + f)) = hi2) := hhi2
            have E1 : Hid (M.upLo s st lo = lo2) := by unfold Hid M.upLo; rw [e0, hat]; exact hlo2
            have E2 : Hid (M.lowHi s st hi = hi2) := by unfold Hid M.lowHi; rw [e0, hat]; exact hhi2
            obtain ⟨A, hA⟩ : ∃ p, M.getAx lo (s[st.place].toNat : Int) = p := ⟨_, rfl⟩
            obtain ⟨Bv, hBv⟩ : ∃ p, M.getAx hi (s[st.place].toNat : Int) = p := ⟨_, rfl⟩
            have HA : Hid (M.getAx lo (s[st.place].toNat : Int) = A) := hA
            have HBv : Hid (M.getAx hi (s[st.place].toNat : Int) = Bv) := hBv
            have HWp : Hid (∀ b, (decide (A < 16 * (16 * d + f)) && decide (16 * (16 * d + f) < Bv)) = b → (st.cut s lo hi).wrong = if st.wrong < 0 ∧ b = false then (st.planes : Int) else st.wrong) := by
              intro b hb
              unfold M.St.cut M.St.plane M.insideB
              rw [e0, hat, hA, hBv, hb]
            have H3 : Hid (¬ M.hexV (M.byteAt s (st.place + 1)) < 0) := h3
            have H4 : Hid (¬ M.hexV (M.byteAt s (st.place + 2)) < 0) := h4
            have hgl : g < wr.heap.size := own_lt HO.out rfl
            have hgne : some wr.heap.size ≠ (Value.slice (some ⟨g, 0, none⟩) stk.length cap).ownBlock := fun e => absurd (show wr.heap.size = g from by simpa [Value.ownBlock] using e) (by omega)
            obtain ⟨i0, hi0, hz0, hz1, hz2⟩ := info_parts infoLeaf2
            clear hl hl' nope hn h3 h4 e0 e1 e2 hd hf hat hlo2 hhi2 hA hBv
            by_cases c1 : st.wrong < 0
            · by_cases c3 : 16 * (16 * d + f) ≤ A
              · have HWr : Hid ((st.planes : Int) = (st.cut s lo hi).wrong) := by unfold Hid; rw [HWp.out false (by simp; omega), if_pos ⟨c1, rfl⟩]
                clear HWp
                go_wp2_with fail
                refine (rhex_any _ d _ (by omega) (by omega) HD).mono ?_
                rintro e w1 ⟨rfl, rfl⟩
                go_wp2_with fail
                refine (rhex_any _ f _ (by omega) (by omega) HF).mono ?_
                rintro e w1 ⟨rfl, rfl⟩
                go_wp2_with fail
                refine (raxis_is lo _ (s[st.place].toNat : Int) A _ rfl hpl HA).mono ?_
                rintro e w1 ⟨rfl, hb1⟩
                have qa := (show Blk _ wr.heap.size #[.int .i64 lo.x, .int .i64 lo.y, .int .i64 lo.z, .int .i64 hi.x, .int .i64 hi.y, .int .i64 hi.z, .int .i64 0] 93 from (by repeat' (first | (with_reducible assumption) | (refine Blk.new ?_; (first | (simp; done) | rfl); done) | (with_reducible refine Blk.alloc ?_) | (with_reducible refine Blk.drew ?_) | (with_reducible refine Blk.drewN ?_)))).after hb1
                have B1 : Below wr.heap.size wr w1 := bl (by go_grown) hb1
                clear hb1 k0 k1 k2 k3 k4 k5 k6
                obtain ⟨n0, n1, n2, n3, n4, n5, n6, nf, nl⟩ := qa.seven
                go_wp2_with fail
                refine (raxis_is hi _ (s[st.place].toNat : Int) Bv _ rfl hpl HBv).mono ?_
                rintro e w2 ⟨rfl, hb1⟩
                replace qa := qa.after hb1
                have B2 : Below wr.heap.size wr w2 := bl B1 hb1
                clear hb1 B1 n0 n1 n2 n3 n4 n5 n6 nf nl
                obtain ⟨n0, n1, n2, n3, n4, n5, n6, nf, nl⟩ := qa.seven
                go_wp2_with fail
                refine (rwith_is lo lo2 _ (s[st.place].toNat : Int) _ _ rfl hpl HLo).mono ?_
                rintro e w3 ⟨rfl, hb1⟩
                have qu := (show Blk _ w2.heap.size #[.int .i64 lo.x, .int .i64 lo.y, .int .i64 lo.z, .int .i64 hi.x, .int .i64 hi.y, .int .i64 hi.z, .int .i64 0] 93 from (by repeat' (first | (with_reducible assumption) | (refine Blk.new ?_; (first | (simp; done) | rfl); done) | (with_reducible refine Blk.alloc ?_) | (with_reducible refine Blk.drew ?_) | (with_reducible refine Blk.drewN ?_)))).after hb1
                replace qa := qa.alloc.after hb1
                have u1 : wr.heap.size ≠ w2.heap.size := by omega
                have u2 : w2.heap.size ≠ wr.heap.size := by omega
                have u3 : wr.heap.size ≤ w2.heap.size := by omega
                have B3 : Below wr.heap.size wr w3 := bl (by go_grown) hb1
                clear hb1 B2 n0 n1 n2 n3 n4 n5 n6 nf nl
                obtain ⟨n0, n1, n2, n3, n4, n5, n6, nf, nl⟩ := qa.seven
                obtain ⟨m0, m1, m2, m3, m4, m5, m6, mf, ml⟩ := qu.seven
                go_wp2_with fail
                refine (rwith_is hi hi2 _ (s[st.place].toNat : Int) _ _ rfl hpl HHi).mono ?_
                rintro e w4 ⟨rfl, hb1⟩
                replace qu : Blk w4 w2.heap.size #[.int .i64 lo2.x, .int .i64 lo2.y, .int .i64 lo2.z, .int .i64 hi.x, .int .i64 hi.y, .int .i64 hi.z, .int .i64 0] 93 := (((qu.set 0 (.int .i64 lo2.x)).set 1 (.int .i64 lo2.y)).set 2 (.int .i64 lo2.z)).after hb1
                replace qa := (((qa.other (c := w2.heap.size) 0 (.int .i64 lo2.x) u1).other (c := w2.heap.size) 1 (.int .i64 lo2.y) u1).other (c := w2.heap.size) 2 (.int .i64 lo2.z) u1).after hb1
                have B4 : Below wr.heap.size wr w4 := bl (by go_grown) hb1
                clear hb1 B3 n0 n1 n2 n3 n4 n5 n6 nf nl m0 m1 m2 m3 m4 m5 m6 mf ml
                obtain ⟨n0, n1, n2, n3, n4, n5, n6, nf, nl⟩ := qa.seven
                obtain ⟨m0, m1, m2, m3, m4, m5, m6, mf, ml⟩ := qu.seven
                have q5 : Blk (((w4.setCell ⟨wr.heap.size, 3, none⟩ (.int .i64 hi2.x)).setCell ⟨wr.heap.size, 4, none⟩ (.int .i64 hi2.y)).setCell ⟨wr.heap.size, 5, none⟩ (.int .i64 hi2.z)) wr.heap.size #[.int .i64 lo.x, .int .i64 lo.y, .int .i64 lo.z, .int .i64 hi2.x, .int .i64 hi2.y, .int .i64 hi2.z, .int .i64 0] 93 := (((qa.set 3 (.int .i64 hi2.x)).set 4 (.int .i64 hi2.y)).set 5 (.int .i64 hi2.z))
                have B5 : Below wr.heap.size wr (((w4.setCell ⟨wr.heap.size, 3, none⟩ (.int .i64 hi2.x)).setCell ⟨wr.heap.size, 4, none⟩ (.int .i64 hi2.y)).setCell ⟨wr.heap.size, 5, none⟩ (.int .i64 hi2.z)) := by go_grown
                have H5 : Hid ((((w4.setCell ⟨wr.heap.size, 3, none⟩ (.int .i64 hi2.x)).setCell ⟨wr.heap.size, 4, none⟩ (.int .i64 hi2.y)).setCell ⟨wr.heap.size, 5, none⟩ (.int .i64 hi2.z)).ownsRow w.heap.size 93 7 (.slice (some ⟨g, 0, none⟩) stk.length cap) stk.length (flat (dueL stk))) := own_of HO.out (fun k hk => B5.block k (own_lt HO.out hk))
                have zz := B4.size
                have hsz := hb.size
                go_wp2_with (first | (at_builtin; refine wpList_append_lies _ (by rfl) _ _ _ (by rfl) w.heap.size 93 i0 _ 7 56 Tryz.underlying69 hi0 hz0 hz1 hz2 rfl (by omega) (.slice (some ⟨g, 0, none⟩) stk.length cap) stk.length (flat (dueL stk)) (by rfl) (H5.out.alloc _) ⟨w4.heap.size, 0, none⟩ 1 1 (leafCells ⟨lo2, hi, 0⟩) (by rfl) (by rfl) (World.news_of_block (cs := #[.int .i64 lo2.x, .int .i64 lo2.y, .int .i64 lo2.z, .int .i64 hi.x, .int .i64 hi.y, .int .i64 hi.z, .int .i64 0]) (t := 93) (fr := (0, 0)) (Blk.new (by simp)).at_) (by simp [leafCells, Value.oneCell']) (by omega) (by unfold maxLen; omega) (by omega) (by simp; omega) (w4.heap.size + 1) (by simp) ?_; intro g1 cap1 x1 hown1 hgrow1 hat1 hlt1; obtain ⟨cA, _⟩ := cellFar hgrow1 (W := (((w4.setCell ⟨wr.heap.size, 3, none⟩ (.int .i64 hi2.x)).setCell ⟨wr.heap.size, 4, none⟩ (.int .i64 hi2.y)).setCell ⟨wr.heap.size, 5, none⟩ (.int .i64 hi2.z))) (by go_grown) q5.lt hgne; have p0 := (cA 0).trans (q5.cell 0); have p1 := (cA 1).trans (q5.cell 1); have p2 := (cA 2).trans (q5.cell 2); have p3 := (cA 3).trans (q5.cell 3); have p4 := (cA 4).trans (q5.cell 4); have p5 := (cA 5).trans (q5.cell 5); have p6 := (cA 6).trans (q5.cell 6); simp only [List.getElem?_toArray, List.getElem?_cons_zero, List.getElem?_cons_succ] at p0 p1 p2 p3 p4 p5 p6; clear cA) | (at_builtin; refine wpList_append_lies _ (by rfl) _ _ _ (by rfl) w.heap.size 93 i0 _ 7 56 Tryz.underlying69 hi0 hz0 hz1 hz2 rfl (by omega) (.slice (some ⟨g1, 0, none⟩) (stk.length + 1) cap1) (stk.length + 1) (flat (dueL stk) ++ leafCells ⟨lo2, hi, 0⟩) (by rfl) (hown1.alloc _) ⟨x1.heap.size, 0, none⟩ 1 1 (leafCells ⟨lo, hi2, 0⟩) (by rfl) (by rfl) (World.news_of_block (cs := #[.int .i64 lo.x, .int .i64 lo.y, .int .i64 lo.z, .int .i64 hi2.x, .int .i64 hi2.y, .int .i64 hi2.z, .int .i64 0]) (t := 93) (fr := (0, 0)) (Blk.new (by simp)).at_) (by simp [leafCells, Value.oneCell']) (by omega) (by unfold maxLen; omega) (by omega) (by have h9 := hgrow1.size; simp at h9; simp; omega) (x1.heap.size + 1) (by simp) ?_; intro g2 cap2 x2 hown2 hgrow2 hat2 hlt2))
                go_roundg (gk - 3)
                case measure => omega
                case rel =>
                  have h9 := hgrow1.size
                  simp at h9
                  refine ⟨(r, lo, M.lowHi s st hi) :: (r, M.upLo s st lo, hi) :: stk, st.cut s lo hi, g2, cap2, x, n, c2, rfl, rfl, by rw [HWr.out], rfl, by go_num, by simp only [M.St.cut, M.St.plane]; omega, ?_⟩
                  exact LV.plane (g1 := g1) (g2 := g2) HL.out HO.out (B5.alloc (by simp; omega) _) (show World.grownBy _ _ (some g) from hgrow1) (by rcases hat1 with e | e; exact .inl (by simpa [Value.ownBlock] using e); exact .inr (by omega)) ((Below.refl _ _).alloc (Nat.le_refl _) _) (show World.grownBy _ _ (some g1) from hgrow2) (by rcases hat2 with e | e; exact .inl (by simpa [Value.ownBlock] using e); exact .inr (by omega)) hlt1 (by rw [E1.out, E2.out]; exact hown2) HN.out (by have := H3.out; omega) (by have := H4.out; omega)
              · by_cases c4 : Bv ≤ 16 * (16 * d + f)
                · have HWr : Hid ((st.planes : Int) = (st.cut s lo hi).wrong) := by unfold Hid; rw [HWp.out false (by simp; omega), if_pos ⟨c1, rfl⟩]
                  clear HWp
                  go_wp2_with fail
                  refine (rhex_any _ d _ (by omega) (by omega) HD).mono ?_
                  rintro e w1 ⟨rfl, rfl⟩
                  go_wp2_with fail
                  refine (rhex_any _ f _ (by omega) (by omega) HF).mono ?_
                  rintro e w1 ⟨rfl, rfl⟩
                  go_wp2_with fail
                  refine (raxis_is lo _ (s[st.place].toNat : Int) A _ rfl hpl HA).mono ?_
                  rintro e w1 ⟨rfl, hb1⟩
                  have qa := (show Blk _ wr.heap.size #[.int .i64 lo.x, .int .i64 lo.y, .int .i64 lo.z, .int .i64 hi.x, .int .i64 hi.y, .int .i64 hi.z, .int .i64 0] 93 from (by repeat' (first | (with_reducible assumption) | (refine Blk.new ?_; (first | (simp; done) | rfl); done) | (with_reducible refine Blk.alloc ?_) | (with_reducible refine Blk.drew ?_) | (with_reducible refine Blk.drewN ?_)))).after hb1
                  have B1 : Below wr.heap.size wr w1 := bl (by go_grown) hb1
                  clear hb1 k0 k1 k2 k3 k4 k5 k6
                  obtain ⟨n0, n1, n2, n3, n4, n5, n6, nf, nl⟩ := qa.seven
                  go_wp2_with fail
                  refine (raxis_is hi _ (s[st.place].toNat : Int) Bv _ rfl hpl HBv).mono ?_
                  rintro e w2 ⟨rfl, hb1⟩
                  replace qa := qa.after hb1
                  have B2 : Below wr.heap.size wr w2 := bl B1 hb1
                  clear hb1 B1 n0 n1 n2 n3 n4 n5 n6 nf nl
                  obtain ⟨n0, n1, n2, n3, n4, n5, n6, nf, nl⟩ := qa.seven
                  go_wp2_with fail
                  refine (rwith_is lo lo2 _ (s[st.place].toNat : Int) _ _ rfl hpl HLo).mono ?_
                  rintro e w3 ⟨rfl, hb1⟩
                  have qu := (show Blk _ w2.heap.size #[.int .i64 lo.x, .int .i64 lo.y, .int .i64 lo.z, .int .i64 hi.x, .int .i64 hi.y, .int .i64 hi.z, .int .i64 0] 93 from (by repeat' (first | (with_reducible assumption) | (refine Blk.new ?_; (first | (simp; done) | rfl); done) | (with_reducible refine Blk.alloc ?_) | (with_reducible refine Blk.drew ?_) | (with_reducible refine Blk.drewN ?_)))).after hb1
                  replace qa := qa.alloc.after hb1
                  have u1 : wr.heap.size ≠ w2.heap.size := by omega
                  have u2 : w2.heap.size ≠ wr.heap.size := by omega
                  have u3 : wr.heap.size ≤ w2.heap.size := by omega
                  have B3 : Below wr.heap.size wr w3 := bl (by go_grown) hb1
                  clear hb1 B2 n0 n1 n2 n3 n4 n5 n6 nf nl
                  obtain ⟨n0, n1, n2, n3, n4, n5, n6, nf, nl⟩ := qa.seven
                  obtain ⟨m0, m1, m2, m3, m4, m5, m6, mf, ml⟩ := qu.seven
                  go_wp2_with fail
                  refine (rwith_is hi hi2 _ (s[st.place].toNat : Int) _ _ rfl hpl HHi).mono ?_
                  rintro e w4 ⟨rfl, hb1⟩
                  replace qu : Blk w4 w2.heap.size #[.int .i64 lo2.x, .int .i64 lo2.y, .int .i64 lo2.z, .int .i64 hi.x, .int .i64 hi.y, .int .i64 hi.z, .int .i64 0] 93 := (((qu.set 0 (.int .i64 lo2.x)).set 1 (.int .i64 lo2.y)).set 2 (.int .i64 lo2.z)).after hb1
                  replace qa := (((qa.other (c := w2.heap.size) 0 (.int .i64 lo2.x) u1).other (c := w2.heap.size) 1 (.int .i64 lo2.y) u1).other (c := w2.heap.size) 2 (.int .i64 lo2.z) u1).after hb1
                  have B4 : Below wr.heap.size wr w4 := bl (by go_grown) hb1
                  clear hb1 B3 n0 n1 n2 n3 n4 n5 n6 nf nl m0 m1 m2 m3 m4 m5 m6 mf ml
                  obtain ⟨n0, n1, n2, n3, n4, n5, n6, nf, nl⟩ := qa.seven
                  obtain ⟨m0, m1, m2, m3, m4, m5, m6, mf, ml⟩ := qu.seven
                  have q5 : Blk (((w4.setCell ⟨wr.heap.size, 3, none⟩ (.int .i64 hi2.x)).setCell ⟨wr.heap.size, 4, none⟩ (.int .i64 hi2.y)).setCell ⟨wr.heap.size, 5, none⟩ (.int .i64 hi2.z)) wr.heap.size #[.int .i64 lo.x, .int .i64 lo.y, .int .i64 lo.z, .int .i64 hi2.x, .int .i64 hi2.y, .int .i64 hi2.z, .int .i64 0] 93 := (((qa.set 3 (.int .i64 hi2.x)).set 4 (.int .i64 hi2.y)).set 5 (.int .i64 hi2.z))
                  have B5 : Below wr.heap.size wr (((w4.setCell ⟨wr.heap.size, 3, none⟩ (.int .i64 hi2.x)).setCell ⟨wr.heap.size, 4, none⟩ (.int .i64 hi2.y)).setCell ⟨wr.heap.size, 5, none⟩ (.int .i64 hi2.z)) := by go_grown
                  have H5 : Hid ((((w4.setCell ⟨wr.heap.size, 3, none⟩ (.int .i64 hi2.x)).setCell ⟨wr.heap.size, 4, none⟩ (.int .i64 hi2.y)).setCell ⟨wr.heap.size, 5, none⟩ (.int .i64 hi2.z)).ownsRow w.heap.size 93 7 (.slice (some ⟨g, 0, none⟩) stk.length cap) stk.length (flat (dueL stk))) := own_of HO.out (fun k hk => B5.block k (own_lt HO.out hk))
                  have zz := B4.size
                  have hsz := hb.size
                  go_wp2_with (first | (at_builtin; refine wpList_append_lies _ (by rfl) _ _ _ (by rfl) w.heap.size 93 i0 _ 7 56 Tryz.underlying69 hi0 hz0 hz1 hz2 rfl (by omega) (.slice (some ⟨g, 0, none⟩) stk.length cap) stk.length (flat (dueL stk)) (by rfl) (H5.out.alloc _) ⟨w4.heap.size, 0, none⟩ 1 1 (leafCells ⟨lo2, hi, 0⟩) (by rfl) (by rfl) (World.news_of_block (cs := #[.int .i64 lo2.x, .int .i64 lo2.y, .int .i64 lo2.z, .int .i64 hi.x, .int .i64 hi.y, .int .i64 hi.z, .int .i64 0]) (t := 93) (fr := (0, 0)) (Blk.new (by simp)).at_) (by simp [leafCells, Value.oneCell']) (by omega) (by unfold maxLen; omega) (by omega) (by simp; omega) (w4.heap.size + 1) (by simp) ?_; intro g1 cap1 x1 hown1 hgrow1 hat1 hlt1; obtain ⟨cA, _⟩ := cellFar hgrow1 (W := (((w4.setCell ⟨wr.heap.size, 3, none⟩ (.int .i64 hi2.x)).setCell ⟨wr.heap.size, 4, none⟩ (.int .i64 hi2.y)).setCell ⟨wr.heap.size, 5, none⟩ (.int .i64 hi2.z))) (by go_grown) q5.lt hgne; have p0 := (cA 0).trans (q5.cell 0); have p1 := (cA 1).trans (q5.cell 1); have p2 := (cA 2).trans (q5.cell 2); have p3 := (cA 3).trans (q5.cell 3); have p4 := (cA 4).trans (q5.cell 4); have p5 := (cA 5).trans (q5.cell 5); have p6 := (cA 6).trans (q5.cell 6); simp only [List.getElem?_toArray, List.getElem?_cons_zero, List.getElem?_cons_succ] at p0 p1 p2 p3 p4 p5 p6; clear cA) | (at_builtin; refine wpList_append_lies _ (by rfl) _ _ _ (by rfl) w.heap.size 93 i0 _ 7 56 Tryz.underlying69 hi0 hz0 hz1 hz2 rfl (by omega) (.slice (some ⟨g1, 0, none⟩) (stk.length + 1) cap1) (stk.length + 1) (flat (dueL stk) ++ leafCells ⟨lo2, hi, 0⟩) (by rfl) (hown1.alloc _) ⟨x1.heap.size, 0, none⟩ 1 1 (leafCells ⟨lo, hi2, 0⟩) (by rfl) (by rfl) (World.news_of_block (cs := #[.int .i64 lo.x, .int .i64 lo.y, .int .i64 lo.z, .int .i64 hi2.x, .int .i64 hi2.y, .int .i64 hi2.z, .int .i64 0]) (t := 93) (fr := (0, 0)) (Blk.new (by simp)).at_) (by simp [leafCells, Value.oneCell']) (by omega) (by unfold maxLen; omega) (by omega) (by have h9 := hgrow1.size; simp at h9; simp; omega) (x1.heap.size + 1) (by simp) ?_; intro g2 cap2 x2 hown2 hgrow2 hat2 hlt2))
                  go_roundg (gk - 3)
                  case measure => omega
                  case rel =>
                    have h9 := hgrow1.size
                    simp at h9
                    refine ⟨(r, lo, M.lowHi s st hi) :: (r, M.upLo s st lo, hi) :: stk, st.cut s lo hi, g2, cap2, x, n, c2, rfl, rfl, by rw [HWr.out], rfl, by go_num, by simp only [M.St.cut, M.St.plane]; omega, ?_⟩
                    exact LV.plane (g1 := g1) (g2 := g2) HL.out HO.out (B5.alloc (by simp; omega) _) (show World.grownBy _ _ (some g) from hgrow1) (by rcases hat1 with e | e; exact .inl (by simpa [Value.ownBlock] using e); exact .inr (by omega)) ((Below.refl _ _).alloc (Nat.le_refl _) _) (show World.grownBy _ _ (some g1) from hgrow2) (by rcases hat2 with e | e; exact .inl (by simpa [Value.ownBlock] using e); exact .inr (by omega)) hlt1 (by rw [E1.out, E2.out]; exact hown2) HN.out (by have := H3.out; omega) (by have := H4.out; omega)
                · have HWr : Hid (st.wrong = (st.cut s lo hi).wrong) := by unfold Hid; rw [HWp.out true (by simp; omega), if_neg (by simp)]
                  clear HWp
                  go_wp2_with fail
                  refine (rhex_any _ d _ (by omega) (by omega) HD).mono ?_
                  rintro e w1 ⟨rfl, rfl⟩
                  go_wp2_with fail
                  refine (rhex_any _ f _ (by omega) (by omega) HF).mono ?_
                  rintro e w1 ⟨rfl, rfl⟩
                  go_wp2_with fail
                  refine (raxis_is lo _ (s[st.place].toNat : Int) A _ rfl hpl HA).mono ?_
                  rintro e w1 ⟨rfl, hb1⟩
                  have qa := (show Blk _ wr.heap.size #[.int .i64 lo.x, .int .i64 lo.y, .int .i64 lo.z, .int .i64 hi.x, .int .i64 hi.y, .int .i64 hi.z, .int .i64 0] 93 from (by repeat' (first | (with_reducible assumption) | (refine Blk.new ?_; (first | (simp; done) | rfl); done) | (with_reducible refine Blk.alloc ?_) | (with_reducible refine Blk.drew ?_) | (with_reducible refine Blk.drewN ?_)))).after hb1
                  have B1 : Below wr.heap.size wr w1 := bl (by go_grown) hb1
                  clear hb1 k0 k1 k2 k3 k4 k5 k6
                  obtain ⟨n0, n1, n2, n3, n4, n5, n6, nf, nl⟩ := qa.seven
                  go_wp2_with fail
                  refine (raxis_is hi _ (s[st.place].toNat : Int) Bv _ rfl hpl HBv).mono ?_
                  rintro e w2 ⟨rfl, hb1⟩
                  replace qa := qa.after hb1
                  have B2 : Below wr.heap.size wr w2 := bl B1 hb1
                  clear hb1 B1 n0 n1 n2 n3 n4 n5 n6 nf nl
                  obtain ⟨n0, n1, n2, n3, n4, n5, n6, nf, nl⟩ := qa.seven
                  go_wp2_with fail
                  refine (rwith_is lo lo2 _ (s[st.place].toNat : Int) _ _ rfl hpl HLo).mono ?_
                  rintro e w3 ⟨rfl, hb1⟩
                  have qu := (show Blk _ w2.heap.size #[.int .i64 lo.x, .int .i64 lo.y, .int .i64 lo.z, .int .i64 hi.x, .int .i64 hi.y, .int .i64 hi.z, .int .i64 0] 93 from (by repeat' (first | (with_reducible assumption) | (refine Blk.new ?_; (first | (simp; done) | rfl); done) | (with_reducible refine Blk.alloc ?_) | (with_reducible refine Blk.drew ?_) | (with_reducible refine Blk.drewN ?_)))).after hb1
                  replace qa := qa.alloc.after hb1
                  have u1 : wr.heap.size ≠ w2.heap.size := by omega
                  have u2 : w2.heap.size ≠ wr.heap.size := by omega
                  have u3 : wr.heap.size ≤ w2.heap.size := by omega
                  have B3 : Below wr.heap.size wr w3 := bl (by go_grown) hb1
                  clear hb1 B2 n0 n1 n2 n3 n4 n5 n6 nf nl
                  obtain ⟨n0, n1, n2, n3, n4, n5, n6, nf, nl⟩ := qa.seven
                  obtain ⟨m0, m1, m2, m3, m4, m5, m6, mf, ml⟩ := qu.seven
                  go_wp2_with fail
                  refine (rwith_is hi hi2 _ (s[st.place].toNat : Int) _ _ rfl hpl HHi).mono ?_
                  rintro e w4 ⟨rfl, hb1⟩
                  replace qu : Blk w4 w2.heap.size #[.int .i64 lo2.x, .int .i64 lo2.y, .int .i64 lo2.z, .int .i64 hi.x, .int .i64 hi.y, .int .i64 hi.z, .int .i64 0] 93 := (((qu.set 0 (.int .i64 lo2.x)).set 1 (.int .i64 lo2.y)).set 2 (.int .i64 lo2.z)).after hb1
                  replace qa := (((qa.other (c := w2.heap.size) 0 (.int .i64 lo2.x) u1).other (c := w2.heap.size) 1 (.int .i64 lo2.y) u1).other (c := w2.heap.size) 2 (.int .i64 lo2.z) u1).after hb1
                  have B4 : Below wr.heap.size wr w4 := bl (by go_grown) hb1
                  clear hb1 B3 n0 n1 n2 n3 n4 n5 n6 nf nl m0 m1 m2 m3 m4 m5 m6 mf ml
                  obtain ⟨n0, n1, n2, n3, n4, n5, n6, nf, nl⟩ := qa.seven
                  obtain ⟨m0, m1, m2, m3, m4, m5, m6, mf, ml⟩ := qu.seven
                  have q5 : Blk (((w4.setCell ⟨wr.heap.size, 3, none⟩ (.int .i64 hi2.x)).setCell ⟨wr.heap.size, 4, none⟩ (.int .i64 hi2.y)).setCell ⟨wr.heap.size, 5, none⟩ (.int .i64 hi2.z)) wr.heap.size #[.int .i64 lo.x, .int .i64 lo.y, .int .i64 lo.z, .int .i64 hi2.x, .int .i64 hi2.y, .int .i64 hi2.z, .int .i64 0] 93 := (((qa.set 3 (.int .i64 hi2.x)).set 4 (.int .i64 hi2.y)).set 5 (.int .i64 hi2.z))
                  have B5 : Below wr.heap.size wr (((w4.setCell ⟨wr.heap.size, 3, none⟩ (.int .i64 hi2.x)).setCell ⟨wr.heap.size, 4, none⟩ (.int .i64 hi2.y)).setCell ⟨wr.heap.size, 5, none⟩ (.int .i64 hi2.z)) := by go_grown
                  have H5 : Hid ((((w4.setCell ⟨wr.heap.size, 3, none⟩ (.int .i64 hi2.x)).setCell ⟨wr.heap.size, 4, none⟩ (.int .i64 hi2.y)).setCell ⟨wr.heap.size, 5, none⟩ (.int .i64 hi2.z)).ownsRow w.heap.size 93 7 (.slice (some ⟨g, 0, none⟩) stk.length cap) stk.length (flat (dueL stk))) := own_of HO.out (fun k hk => B5.block k (own_lt HO.out hk))
                  have zz := B4.size
                  have hsz := hb.size
                  go_wp2_with (first | (at_builtin; refine wpList_append_lies _ (by rfl) _ _ _ (by rfl) w.heap.size 93 i0 _ 7 56 Tryz.underlying69 hi0 hz0 hz1 hz2 rfl (by omega) (.slice (some ⟨g, 0, none⟩) stk.length cap) stk.length (flat (dueL stk)) (by rfl) (H5.out.alloc _) ⟨w4.heap.size, 0, none⟩ 1 1 (leafCells ⟨lo2, hi, 0⟩) (by rfl) (by rfl) (World.news_of_block (cs := #[.int .i64 lo2.x, .int .i64 lo2.y, .int .i64 lo2.z, .int .i64 hi.x, .int .i64 hi.y, .int .i64 hi.z, .int .i64 0]) (t := 93) (fr := (0, 0)) (Blk.new (by simp)).at_) (by simp [leafCells, Value.oneCell']) (by omega) (by unfold maxLen; omega) (by omega) (by simp; omega) (w4.heap.size + 1) (by simp) ?_; intro g1 cap1 x1 hown1 hgrow1 hat1 hlt1; obtain ⟨cA, _⟩ := cellFar hgrow1 (W := (((w4.setCell ⟨wr.heap.size, 3, none⟩ (.int .i64 hi2.x)).setCell ⟨wr.heap.size, 4, none⟩ (.int .i64 hi2.y)).setCell ⟨wr.heap.size, 5, none⟩ (.int .i64 hi2.z))) (by go_grown) q5.lt hgne; have p0 := (cA 0).trans (q5.cell 0); have p1 := (cA 1).trans (q5.cell 1); have p2 := (cA 2).trans (q5.cell 2); have p3 := (cA 3).trans (q5.cell 3); have p4 := (cA 4).trans (q5.cell 4); have p5 := (cA 5).trans (q5.cell 5); have p6 := (cA 6).trans (q5.cell 6); simp only [List.getElem?_toArray, List.getElem?_cons_zero, List.getElem?_cons_succ] at p0 p1 p2 p3 p4 p5 p6; clear cA) | (at_builtin; refine wpList_append_lies _ (by rfl) _ _ _ (by rfl) w.heap.size 93 i0 _ 7 56 Tryz.underlying69 hi0 hz0 hz1 hz2 rfl (by omega) (.slice (some ⟨g1, 0, none⟩) (stk.length + 1) cap1) (stk.length + 1) (flat (dueL stk) ++ leafCells ⟨lo2, hi, 0⟩) (by rfl) (hown1.alloc _) ⟨x1.heap.size, 0, none⟩ 1 1 (leafCells ⟨lo, hi2, 0⟩) (by rfl) (by rfl) (World.news_of_block (cs := #[.int .i64 lo.x, .int .i64 lo.y, .int .i64 lo.z, .int .i64 hi2.x, .int .i64 hi2.y, .int .i64 hi2.z, .int .i64 0]) (t := 93) (fr := (0, 0)) (Blk.new (by simp)).at_) (by simp [leafCells, Value.oneCell']) (by omega) (by unfold maxLen; omega) (by omega) (by have h9 := hgrow1.size; simp at h9; simp; omega) (x1.heap.size + 1) (by simp) ?_; intro g2 cap2 x2 hown2 hgrow2 hat2 hlt2))
                  go_roundg (gk - 3)
                  case measure => omega
                  case rel =>
                    have h9 := hgrow1.size
                    simp at h9
                    refine ⟨(r, lo, M.lowHi s st hi) :: (r, M.upLo s st lo, hi) :: stk, st.cut s lo hi, g2, cap2, x, n, c2, rfl, rfl, by rw [HWr.out], rfl, by go_num, by simp only [M.St.cut, M.St.plane]; omega, ?_⟩
                    exact LV.plane (g1 := g1) (g2 := g2) HL.out HO.out (B5.alloc (by simp; omega) _) (show World.grownBy _ _ (some g) from hgrow1) (by rcases hat1 with e | e; exact .inl (by simpa [Value.ownBlock] using e); exact .inr (by omega)) ((Below.refl _ _).alloc (Nat.le_refl _) _) (show World.grownBy _ _ (some g1) from hgrow2) (by rcases hat2 with e | e; exact .inl (by simpa [Value.ownBlock] using e); exact .inr (by omega)) hlt1 (by rw [E1.out, E2.out]; exact hown2) HN.out (by have := H3.out; omega) (by have := H4.out; omega)
            · have HWr : Hid (st.wrong = (st.cut s lo hi).wrong) := by unfold Hid; rw [HWp.out _ rfl, if_neg (by simp [c1])]
              clear HWp
              go_wp2_with fail
              refine (rhex_any _ d _ (by omega) (by omega) HD).mono ?_
              rintro e w1 ⟨rfl, rfl⟩
              go_wp2_with fail
              refine (rhex_any _ f _ (by omega) (by omega) HF).mono ?_
              rintro e w1 ⟨rfl, rfl⟩
              go_wp2_with fail
              refine (raxis_is lo _ (s[st.place].toNat : Int) A _ rfl hpl HA).mono ?_
              rintro e w1 ⟨rfl, hb1⟩
              have qa := (show Blk _ wr.heap.size #[.int .i64 lo.x, .int .i64 lo.y, .int .i64 lo.z, .int .i64 hi.x, .int .i64 hi.y, .int .i64 hi.z, .int .i64 0] 93 from (by repeat' (first | (with_reducible assumption) | (refine Blk.new ?_; (first | (simp; done) | rfl); done) | (with_reducible refine Blk.alloc ?_) | (with_reducible refine Blk.drew ?_) | (with_reducible refine Blk.drewN ?_)))).after hb1
              have B1 : Below wr.heap.size wr w1 := bl (by go_grown) hb1
              clear hb1 k0 k1 k2 k3 k4 k5 k6
              obtain ⟨n0, n1, n2, n3, n4, n5, n6, nf, nl⟩ := qa.seven
              go_wp2_with fail
              refine (raxis_is hi _ (s[st.place].toNat : Int) Bv _ rfl hpl HBv).mono ?_
              rintro e w2 ⟨rfl, hb1⟩
              replace qa := qa.after hb1
              have B2 : Below wr.heap.size wr w2 := bl B1 hb1
              clear hb1 B1 n0 n1 n2 n3 n4 n5 n6 nf nl
              obtain ⟨n0, n1, n2, n3, n4, n5, n6, nf, nl⟩ := qa.seven
              go_wp2_with fail
              refine (rwith_is lo lo2 _ (s[st.place].toNat : Int) _ _ rfl hpl HLo).mono ?_
              rintro e w3 ⟨rfl, hb1⟩
              have qu := (show Blk _ w2.heap.size #[.int .i64 lo.x, .int .i64 lo.y, .int .i64 lo.z, .int .i64 hi.x, .int .i64 hi.y, .int .i64 hi.z, .int .i64 0] 93 from (by repeat' (first | (with_reducible assumption) | (refine Blk.new ?_; (first | (simp; done) | rfl); done) | (with_reducible refine Blk.alloc ?_) | (with_reducible refine Blk.drew ?_) | (with_reducible refine Blk.drewN ?_)))).after hb1
              replace qa := qa.alloc.after hb1
              have u1 : wr.heap.size ≠ w2.heap.size := by omega
              have u2 : w2.heap.size ≠ wr.heap.size := by omega
              have u3 : wr.heap.size ≤ w2.heap.size := by omega
              have B3 : Below wr.heap.size wr w3 := bl (by go_grown) hb1
              clear hb1 B2 n0 n1 n2 n3 n4 n5 n6 nf nl
              obtain ⟨n0, n1, n2, n3, n4, n5, n6, nf, nl⟩ := qa.seven
              obtain ⟨m0, m1, m2, m3, m4, m5, m6, mf, ml⟩ := qu.seven
              go_wp2_with fail
              refine (rwith_is hi hi2 _ (s[st.place].toNat : Int) _ _ rfl hpl HHi).mono ?_
              rintro e w4 ⟨rfl, hb1⟩
              replace qu : Blk w4 w2.heap.size #[.int .i64 lo2.x, .int .i64 lo2.y, .int .i64 lo2.z, .int .i64 hi.x, .int .i64 hi.y, .int .i64 hi.z, .int .i64 0] 93 := (((qu.set 0 (.int .i64 lo2.x)).set 1 (.int .i64 lo2.y)).set 2 (.int .i64 lo2.z)).after hb1
              replace qa := (((qa.other (c := w2.heap.size) 0 (.int .i64 lo2.x) u1).other (c := w2.heap.size) 1 (.int .i64 lo2.y) u1).other (c := w2.heap.size) 2 (.int .i64 lo2.z) u1).after hb1
              have B4 : Below wr.heap.size wr w4 := bl (by go_grown) hb1
              clear hb1 B3 n0 n1 n2 n3 n4 n5 n6 nf nl m0 m1 m2 m3 m4 m5 m6 mf ml
              obtain ⟨n0, n1, n2, n3, n4, n5, n6, nf, nl⟩ := qa.seven
              obtain ⟨m0, m1, m2, m3, m4, m5, m6, mf, ml⟩ := qu.seven
              have q5 : Blk (((w4.setCell ⟨wr.heap.size, 3, none⟩ (.int .i64 hi2.x)).setCell ⟨wr.heap.size, 4, none⟩ (.int .i64 hi2.y)).setCell ⟨wr.heap.size, 5, none⟩ (.int .i64 hi2.z)) wr.heap.size #[.int .i64 lo.x, .int .i64 lo.y, .int .i64 lo.z, .int .i64 hi2.x, .int .i64 hi2.y, .int .i64 hi2.z, .int .i64 0] 93 := (((qa.set 3 (.int .i64 hi2.x)).set 4 (.int .i64 hi2.y)).set 5 (.int .i64 hi2.z))
              have B5 : Below wr.heap.size wr (((w4.setCell ⟨wr.heap.size, 3, none⟩ (.int .i64 hi2.x)).setCell ⟨wr.heap.size, 4, none⟩ (.int .i64 hi2.y)).setCell ⟨wr.heap.size, 5, none⟩ (.int .i64 hi2.z)) := by go_grown
              have H5 : Hid ((((w4.setCell ⟨wr.heap.size, 3, none⟩ (.int .i64 hi2.x)).setCell ⟨wr.heap.size, 4, none⟩ (.int .i64 hi2.y)).setCell ⟨wr.heap.size, 5, none⟩ (.int .i64 hi2.z)).ownsRow w.heap.size 93 7 (.slice (some ⟨g, 0, none⟩) stk.length cap) stk.length (flat (dueL stk))) := own_of HO.out (fun k hk => B5.block k (own_lt HO.out hk))
              have zz := B4.size
              have hsz := hb.size
              go_wp2_with (first | (at_builtin; refine wpList_append_lies _ (by rfl) _ _ _ (by rfl) w.heap.size 93 i0 _ 7 56 Tryz.underlying69 hi0 hz0 hz1 hz2 rfl (by omega) (.slice (some ⟨g, 0, none⟩) stk.length cap) stk.length (flat (dueL stk)) (by rfl) (H5.out.alloc _) ⟨w4.heap.size, 0, none⟩ 1 1 (leafCells ⟨lo2, hi, 0⟩) (by rfl) (by rfl) (World.news_of_block (cs := #[.int .i64 lo2.x, .int .i64 lo2.y, .int .i64 lo2.z, .int .i64 hi.x, .int .i64 hi.y, .int .i64 hi.z, .int .i64 0]) (t := 93) (fr := (0, 0)) (Blk.new (by simp)).at_) (by simp [leafCells, Value.oneCell']) (by omega) (by unfold maxLen; omega) (by omega) (by simp; omega) (w4.heap.size + 1) (by simp) ?_; intro g1 cap1 x1 hown1 hgrow1 hat1 hlt1; obtain ⟨cA, _⟩ := cellFar hgrow1 (W := (((w4.setCell ⟨wr.heap.size, 3, none⟩ (.int .i64 hi2.x)).setCell ⟨wr.heap.size, 4, none⟩ (.int .i64 hi2.y)).setCell ⟨wr.heap.size, 5, none⟩ (.int .i64 hi2.z))) (by go_grown) q5.lt hgne; have p0 := (cA 0).trans (q5.cell 0); have p1 := (cA 1).trans (q5.cell 1); have p2 := (cA 2).trans (q5.cell 2); have p3 := (cA 3).trans (q5.cell 3); have p4 := (cA 4).trans (q5.cell 4); have p5 := (cA 5).trans (q5.cell 5); have p6 := (cA 6).trans (q5.cell 6); simp only [List.getElem?_toArray, List.getElem?_cons_zero, List.getElem?_cons_succ] at p0 p1 p2 p3 p4 p5 p6; clear cA) | (at_builtin; refine wpList_append_lies _ (by rfl) _ _ _ (by rfl) w.heap.size 93 i0 _ 7 56 Tryz.underlying69 hi0 hz0 hz1 hz2 rfl (by omega) (.slice (some ⟨g1, 0, none⟩) (stk.length + 1) cap1) (stk.length + 1) (flat (dueL stk) ++ leafCells ⟨lo2, hi, 0⟩) (by rfl) (hown1.alloc _) ⟨x1.heap.size, 0, none⟩ 1 1 (leafCells ⟨lo, hi2, 0⟩) (by rfl) (by rfl) (World.news_of_block (cs := #[.int .i64 lo.x, .int .i64 lo.y, .int .i64 lo.z, .int .i64 hi2.x, .int .i64 hi2.y, .int .i64 hi2.z, .int .i64 0]) (t := 93) (fr := (0, 0)) (Blk.new (by simp)).at_) (by simp [leafCells, Value.oneCell']) (by omega) (by unfold maxLen; omega) (by omega) (by have h9 := hgrow1.size; simp at h9; simp; omega) (x1.heap.size + 1) (by simp) ?_; intro g2 cap2 x2 hown2 hgrow2 hat2 hlt2))
              go_roundg (gk - 3)
              case measure => omega
              case rel =>
                have h9 := hgrow1.size
                simp at h9
                refine ⟨(r, lo, M.lowHi s st hi) :: (r, M.upLo s st lo, hi) :: stk, st.cut s lo hi, g2, cap2, x, n, c2, rfl, rfl, by rw [HWr.out], rfl, by go_num, by simp only [M.St.cut, M.St.plane]; omega, ?_⟩
                exact LV.plane (g1 := g1) (g2 := g2) HL.out HO.out (B5.alloc (by simp; omega) _) (show World.grownBy _ _ (some g) from hgrow1) (by rcases hat1 with e | e; exact .inl (by simpa [Value.ownBlock] using e); exact .inr (by omega)) ((Below.refl _ _).alloc (Nat.le_refl _) _) (show World.grownBy _ _ (some g1) from hgrow2) (by rcases hat2 with e | e; exact .inl (by simpa [Value.ownBlock] using e); exact .inr (by omega)) hlt1 (by rw [E1.out, E2.out]; exact hown2) HN.out (by have := H3.out; omega) (by have := H4.out; omega)
      · exfalso
        have hge : s.size ≤ st.place := by omega
        have he : M.top s = (false, st) := by rw [← hL.eqn]; exact M.trees_none (by rw [M.byteAt_ge hge]; rfl) (by rw [M.byteAt_ge hge]; rfl)
        have := HOK.out
        rw [he] at this
        cases this
end Go.Proofs.YtonmihojfcjmjaaGreat

/- The document's Check; the law Checks. -/
namespace Go.Proofs.YtonmihojfcjmjaaGreat
open Go.RowKit
set_option linter.unusedVariables false
attribute [local go_sem] cell_set_off cell_set_blk

theorem placeS_tree {s : ByteArray} (h1 : (M.top s).1 = false) : placeS s = ((M.top s).2.place : Int) := by unfold placeS; rw [if_pos h1]
theorem placeS_else {s : ByteArray} (h1 : (M.top s).1 = true) : placeS s = optInt (M.pairsF s (s.size + 1) (M.top s).2.place) := by unfold placeS; rw [if_neg (by simp [h1])]

/-- What place tells, and what Check makes of it. -/
theorem place_err {s : ByteArray} (hs : s.size ≤ 512) : (0 ≤ placeS s ∧ M.errS s = (3, placeS s)) ∨ (placeS s = -1 ∧ (M.top s).1 = true ∧ M.errS s = if 0 ≤ (M.top s).2.wrong then (4, (M.top s).2.wrong) else (0, 0)) := by
  cases h : (M.top s).1
  · left
    rw [placeS_tree h]
    exact ⟨by omega, errS_tree hs h⟩
  · rw [placeS_else h]
    cases h2 : M.pairsF s (s.size + 1) (M.top s).2.place with
    | some k => left; exact ⟨by simp [optInt], errS_pair hs h h2⟩
    | none => right; exact ⟨rfl, rfl, errS_none hs h h2⟩

set_option maxHeartbeats 1000000 in
theorem rcheck_any (s : ByteArray) (w : World) (hm : s.size ≤ maxLen) : Calls Tryz.prog 14 #[.string s] w (CheckPost s w) := by
  by_cases h : 512 < s.size
  · have E : Hid (M.errS s = (2, 0)) := errS_long h
    have hc : decide ((512 : Int) < (s.size : Int)) = true := by simp; omega
    unfold maxLen at hm
    go_enter Tryz.func14, Tryz.ntmps14
    go_wp2
    go_ret2
    exact ⟨2, 0, rfl, E.out, Below.refl _ _⟩
  · have hs : s.size ≤ 512 := by omega
    have HE : Hid ((0 ≤ placeS s ∧ M.errS s = (3, placeS s)) ∨ (placeS s = -1 ∧ (M.top s).1 = true ∧ M.errS s = if 0 ≤ (M.top s).2.wrong then (4, (M.top s).2.wrong) else (0, 0))) := place_err hs
    have hc : decide ((512 : Int) < (s.size : Int)) = false := by simp; omega
    clear hm h
    go_enter Tryz.func14, Tryz.ntmps14
    go_wp2_with fail
    refine (place_any s _ hs).mono ?_
    rintro e w1 ⟨rfl, hb⟩
    rcases HE.out with ⟨h0, h1⟩ | ⟨h0, h1, h2⟩
    · have E : Hid (M.errS s = (3, placeS s)) := h1
      generalize placeS s = p at *
      clear h1 HE
      go_wp2
      go_ret2
      exact ⟨3, p, rfl, E.out, hb⟩
    · have E : Hid (M.errS s = if 0 ≤ (M.top s).2.wrong then (4, (M.top s).2.wrong) else (0, 0)) := h2
      rw [h0]
      clear h0 h2 HE
      go_wp2_with fail
      refine (leaves_any s _ hs h1).mono ?_
      rintro e w2 ⟨x, n, cap, rfl, _, hb2⟩
      have hb3 := bl hb hb2
      clear hb hb2
      clear h1
      by_cases hz : 0 ≤ (M.top s).2.wrong
      · have E2 : Hid (M.errS s = (4, (M.top s).2.wrong)) := by unfold Hid; rw [E.out, if_pos hz]
        generalize (M.top s).2.wrong = q at *
        clear E
        go_wp2
        go_ret2
        exact ⟨4, q, rfl, E2.out, hb3⟩
      · have E2 : Hid (M.errS s = (0, 0)) := by unfold Hid; rw [E.out, if_neg hz]
        generalize (M.top s).2.wrong = q at *
        clear E
        go_wp2
        go_ret2
        exact ⟨0, 0, rfl, E2.out, hb3⟩

end Go.Proofs.YtonmihojfcjmjaaGreat
