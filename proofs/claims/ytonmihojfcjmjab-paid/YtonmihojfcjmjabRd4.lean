import Derived.Test.YtonmihojfcjmjabRd3
/- Contracts: readTree, the other cases. -/
namespace Go.Proofs.Ytonmihojfcjmjab
open Go.RowKit
variable {ps : Nat → Bool}
set_option linter.unusedVariables false
attribute [local go_sem] cell_set_off cell_set_blk
attribute [local go_sem ↓] Go.wp_at_zero Go.wp_at_succ

set_option maxHeartbeats 2000000 in
theorem readTree_zone (R : Nat) (s : ByteArray) (st : M.St) (v : Value) (lo hi : M.V3) (r : Nat) (a : Int) (w : World) (h : Rd ps w R s st v) (hp : st.place < s.size) (hp2 : s.size ≤ 512) (hlv : st.leaves.length ≤ st.place) (c : Int) (hc : M.byteAt s st.place = c) (c1 : 48 ≤ c) (c2 : c ≤ 55) :
    Calls Try.prog 57 #[.pointer (some ⟨R, 0, none⟩), .agg #[.int .i64 lo.x, .int .i64 lo.y, .int .i64 lo.z, .int .i64 hi.x, .int .i64 hi.y, .int .i64 hi.z], .int .i64 a] w (TreePost ps R s (M.tree s r lo hi st) v w) := by
  obtain ⟨d, hd⟩ : ∃ d, M.zoneV c = d := ⟨_, rfl⟩
  have e : M.tree s r lo hi st = (true, st.leaf lo hi c) := by rw [M.tree_leaf (by rw [hc]; unfold M.leafB; simp; omega), hc]
  have E : Hid (M.tree s r lo hi st = (true, st.leaf lo hi c)) := e
  have hd2 : d = c - 48 := by rw [← hd]; unfold M.zoneV; rw [if_neg (by omega)]
  have HD : Hid (M.hexV (M.byteAt s st.place) = d) := by unfold Hid; rw [hc, hd2]; unfold M.hexV; rw [if_pos ⟨c1, by omega⟩]
  have d1 : 0 ≤ d := by omega
  have d2 : d < 8 := by omega
  have HZ : Hid (M.zoneV c = d) := hd
  have t1 : (c == 120) = false := by simp; omega
  have t2 : (c == 121) = false := by simp; omega
  have t3 : (c == 122) = false := by simp; omega
  have t4 : (c == 35) = false := by simp; omega
  rw [M.byteAt_lt hp] at hc
  have HC : Hid ((s[st.place].toNat : Int) = c) := hc
  clear hc hd hd2 e
  have H := h
  obtain ⟨k0, k1, k2, k3, k4, kf, kl⟩ := h.blk.five
  clear h
  have hvb : some w.heap.size ≠ v.ownBlock := fun e => Nat.lt_irrefl _ (own_lt H.own e.symm)
  have hvR : some R ≠ v.ownBlock := fun e => H.ne e.symm
  have hR0 : R ≠ w.heap.size := by omega
  go_enter Try.func57, Try.ntmps57
  go_wp2
  go_quiet (fail)
  have H1 := (H.alloc (o := (.cells #[.int .i64 lo.x, .int .i64 lo.y, .int .i64 lo.z, .int .i64 hi.x, .int .i64 hi.y, .int .i64 hi.z] 124))).drewN (n := nq)
  have F1 := ((Fr.refl R v w).alloc (.cells #[.int .i64 lo.x, .int .i64 lo.y, .int .i64 lo.z, .int .i64 hi.x, .int .i64 hi.y, .int .i64 hi.z] 124)).drewN (n := nq)
  have q1 : Blk ((w.alloc (.cells #[.int .i64 lo.x, .int .i64 lo.y, .int .i64 lo.z, .int .i64 hi.x, .int .i64 hi.y, .int .i64 hi.z] 124)).drewN nq) w.heap.size _ _ := Blk.drewN (Blk.new rfl)
  generalize (w.alloc (.cells #[.int .i64 lo.x, .int .i64 lo.y, .int .i64 lo.z, .int .i64 hi.x, .int .i64 hi.y, .int .i64 hi.z] 124)).drewN nq = w2 at H1 F1 q1 ⊢
  clear H k0 k1 k2 k3 k4 kf kl
  obtain ⟨k0, k1, k2, k3, k4, kf, kl⟩ := H1.blk.five
  obtain ⟨a0, a1, a2, a3, a4, a5, af, al⟩ := q1.six
  go_wp2
  go_quiet (fail)
  rw [HC.out]
  go_wp2_with fail
  refine (readDigit_ok R s st v 8 _ H1.drewN hp2 d HD d1 d2).mono ?_
  rintro rr W ⟨rfl, H2, F3⟩
  have F2 : Fr R v w W v := F1.drewN.trans F3
  have q2 := q1.drewN.fr F3 (fun e => hR0 e.symm) hvb
  clear H1 F1 F3 q1 k0 k1 k2 k3 k4 kf kl a0 a1 a2 a3 a4 a5 af al HC HD
  have hlen : st.leaves.length + 1 ≤ 513 := by omega
  obtain ⟨k0, k1, k2, k3, k4, kf, kl⟩ := H2.blk.five
  obtain ⟨a0, a1, a2, a3, a4, a5, af, al⟩ := q2.six
  obtain ⟨i0, hi0, hz0, hz1, hz2⟩ := info_parts infoLeaf
  go_wp2
  go_region_law
    ((refine step_append_lies _ (by rfl) _ _ _ (by rfl) 0 154 i0 _ 7 56 Try.underlying67 hi0 hz0 hz1 hz2 rfl (by omega) v st.leaves.length (flat st.leaves) (by rfl) (by first | exact H2.alloc.drew.own | exact H2.drew.alloc.own)
        ⟨W.heap.size, 0, none⟩ 1 1 (leafCells ⟨lo, hi, d⟩) (by rfl) (by rfl) (World.news_of_block (cs := #[.int .i64 lo.x, .int .i64 lo.y, .int .i64 lo.z, .int .i64 hi.x, .int .i64 hi.y, .int .i64 hi.z, .int .i64 d]) (t := 154) (fr := (0, 0)) (heap_alloc_new W _)) (by simp [leafCells, Value.oneCell'])
        (by omega) (by unfold maxLen; omega) (by omega) (by simp) (W.heap.size + 1) (by simp) ?_; intro g cap w1 hown1 hgrow hat hlt
      obtain ⟨cR, fR⟩ := cellFar hgrow (by go_grown) kl hvR
      obtain ⟨cB, _⟩ := cellFar hgrow (by go_grown) al hvb
      have c4 := (cR 4).trans k4
      have f4 := fun i => (fR i).trans (kf i)
      have b0 := (cB 0).trans a0
      have b1 := (cB 1).trans a1
      have b2 := (cB 2).trans a2
      have b3 := (cB 3).trans a3
      have b4 := (cB 4).trans a4
      have b5 := (cB 5).trans a5
      clear cR cB fR))
  all_goals
    go_wp2
    go_ret
    have hat2 : v.ownBlock = some g ∨ W.heap.size ≤ g := by rcases hat with e | e; exact .inl e; exact .inr (by omega)
    exact .mk E.out (H2.leaf (by go_grown) hgrow hat2 (by rw [HZ.out]; exact hown1)) ((F2.grown (by go_grown) hgrow hat2).setR _)

set_option maxHeartbeats 2000000 in
theorem readTree_none (R : Nat) (s : ByteArray) (st : M.St) (v : Value) (lo hi : M.V3) (r : Nat) (a : Int) (w : World) (h : Rd ps w R s st v) (hp : st.place < s.size) (hp2 : s.size ≤ 512) (hl : M.leafB (M.byteAt s st.place) = false) (hn : M.planeB (M.byteAt s st.place) = false) :
    Calls Try.prog 57 #[.pointer (some ⟨R, 0, none⟩), .agg #[.int .i64 lo.x, .int .i64 lo.y, .int .i64 lo.z, .int .i64 hi.x, .int .i64 hi.y, .int .i64 hi.z], .int .i64 a] w (TreePost ps R s (M.tree s r lo hi st) v w) := by
  have E : Hid (M.tree s r lo hi st = (false, st)) := M.tree_none hl hn
  have HN : noDigit s st.place 8 := by
    unfold noDigit
    by_cases x : 0 ≤ M.hexV (M.byteAt s st.place) ∧ M.hexV (M.byteAt s st.place) < 8
    · have := (M.hexV_zone _).1 x
      unfold M.leafB at hl; simp at hl; omega
    · omega
  obtain ⟨c, hc⟩ : ∃ c, M.byteAt s st.place = c := ⟨_, rfl⟩
  rw [hc] at hl hn
  rw [M.byteAt_lt hp] at hc
  have HC : Hid ((s[st.place].toNat : Int) = c) := hc
  have t1 : (c == 120) = false := by unfold M.planeB at hn; simp at hn; simp; omega
  have t2 : (c == 121) = false := by unfold M.planeB at hn; simp at hn; simp; omega
  have t3 : (c == 122) = false := by unfold M.planeB at hn; simp at hn; simp; omega
  have t4 : (c == 35) = false := by unfold M.leafB at hl; simp at hl; simp; omega
  clear hc hl hn
  have H := h
  obtain ⟨k0, k1, k2, k3, k4, kf, kl⟩ := h.blk.five
  clear h
  have hvb : some w.heap.size ≠ v.ownBlock := fun e => Nat.lt_irrefl _ (own_lt H.own e.symm)
  have hvR : some R ≠ v.ownBlock := fun e => H.ne e.symm
  have hR0 : R ≠ w.heap.size := by omega
  go_enter Try.func57, Try.ntmps57
  go_wp2
  go_quiet (fail)
  have H1 := (H.alloc (o := (.cells #[.int .i64 lo.x, .int .i64 lo.y, .int .i64 lo.z, .int .i64 hi.x, .int .i64 hi.y, .int .i64 hi.z] 124))).drewN (n := nq)
  have F1 := ((Fr.refl R v w).alloc (.cells #[.int .i64 lo.x, .int .i64 lo.y, .int .i64 lo.z, .int .i64 hi.x, .int .i64 hi.y, .int .i64 hi.z] 124)).drewN (n := nq)
  have q1 : Blk ((w.alloc (.cells #[.int .i64 lo.x, .int .i64 lo.y, .int .i64 lo.z, .int .i64 hi.x, .int .i64 hi.y, .int .i64 hi.z] 124)).drewN nq) w.heap.size _ _ := Blk.drewN (Blk.new rfl)
  generalize (w.alloc (.cells #[.int .i64 lo.x, .int .i64 lo.y, .int .i64 lo.z, .int .i64 hi.x, .int .i64 hi.y, .int .i64 hi.z] 124)).drewN nq = w2 at H1 F1 q1 ⊢
  clear H k0 k1 k2 k3 k4 kf kl
  obtain ⟨k0, k1, k2, k3, k4, kf, kl⟩ := H1.blk.five
  obtain ⟨a0, a1, a2, a3, a4, a5, af, al⟩ := q1.six
  go_wp2
  go_quiet (fail)
  rw [HC.out]
  go_wp2_with fail
  refine (readDigit_no R s st v 8 _ H1.drewN hp2 (by omega) HN).mono ?_
  rintro rr W ⟨rfl, H2, F3⟩
  have F2 : Fr R v w W v := F1.drewN.trans F3
  clear H1 F1 F3 q1 k0 k1 k2 k3 k4 kf kl a0 a1 a2 a3 a4 a5 af al HC
  go_wp2
  go_ret
  exact .mk E.out H2 F2

set_option maxHeartbeats 2000000 in
theorem readTree_plane (R : Nat) (s : ByteArray) (st : M.St) (v : Value) (lo hi : M.V3) (r : Nat) (a : Int) (w : World) (h : Rd ps w R s st v) (hp : st.place < s.size) (hp2 : s.size ≤ 512) (c : Int) (hc : M.byteAt s st.place = c) (hn : M.planeB c = true) (hP : ∀ W, Rd ps W R s st v → Calls Try.prog 78 #[.pointer (some ⟨R, 0, none⟩), .agg #[.int .i64 lo.x, .int .i64 lo.y, .int .i64 lo.z, .int .i64 hi.x, .int .i64 hi.y, .int .i64 hi.z], .int .i64 a, .int .u8 c] W (TreePost ps R s (M.tree s r lo hi st) v W)) :
    Calls Try.prog 57 #[.pointer (some ⟨R, 0, none⟩), .agg #[.int .i64 lo.x, .int .i64 lo.y, .int .i64 lo.z, .int .i64 hi.x, .int .i64 hi.y, .int .i64 hi.z], .int .i64 a] w (TreePost ps R s (M.tree s r lo hi st) v w) := by
  generalize M.tree s r lo hi st = p at hP ⊢
  rw [M.byteAt_lt hp] at hc
  have HC : Hid ((s[st.place].toNat : Int) = c) := hc
  have HP : Hid (∀ W, Rd ps W R s st v → Calls Try.prog 78 #[.pointer (some ⟨R, 0, none⟩), .agg #[.int .i64 lo.x, .int .i64 lo.y, .int .i64 lo.z, .int .i64 hi.x, .int .i64 hi.y, .int .i64 hi.z], .int .i64 a, .int .u8 c] W (TreePost ps R s p v W)) := hP
  clear hP hc
  have H := h
  obtain ⟨k0, k1, k2, k3, k4, kf, kl⟩ := h.blk.five
  clear h
  have hvb : some w.heap.size ≠ v.ownBlock := fun e => Nat.lt_irrefl _ (own_lt H.own e.symm)
  have hvR : some R ≠ v.ownBlock := fun e => H.ne e.symm
  have hR0 : R ≠ w.heap.size := by omega
  go_enter Try.func57, Try.ntmps57
  go_wp2
  go_quiet (fail)
  have H1 := (H.alloc (o := (.cells #[.int .i64 lo.x, .int .i64 lo.y, .int .i64 lo.z, .int .i64 hi.x, .int .i64 hi.y, .int .i64 hi.z] 124))).drewN (n := nq)
  have F1 := ((Fr.refl R v w).alloc (.cells #[.int .i64 lo.x, .int .i64 lo.y, .int .i64 lo.z, .int .i64 hi.x, .int .i64 hi.y, .int .i64 hi.z] 124)).drewN (n := nq)
  have q1 : Blk ((w.alloc (.cells #[.int .i64 lo.x, .int .i64 lo.y, .int .i64 lo.z, .int .i64 hi.x, .int .i64 hi.y, .int .i64 hi.z] 124)).drewN nq) w.heap.size _ _ := Blk.drewN (Blk.new rfl)
  generalize (w.alloc (.cells #[.int .i64 lo.x, .int .i64 lo.y, .int .i64 lo.z, .int .i64 hi.x, .int .i64 hi.y, .int .i64 hi.z] 124)).drewN nq = w2 at H1 F1 q1 ⊢
  clear H k0 k1 k2 k3 k4 kf kl
  obtain ⟨k0, k1, k2, k3, k4, kf, kl⟩ := H1.blk.five
  obtain ⟨a0, a1, a2, a3, a4, a5, af, al⟩ := q1.six
  go_wp2
  go_quiet (fail)
  rw [HC.out]
  rcases plane3 hn with rfl | rfl | rfl
  all_goals
    go_wp2_with fail
    refine (HP.out _ H1.drewN).mono ?_
    rintro rr W ⟨v', rfl, H2, F3⟩
    have F2 : Fr R v w W v' := F1.drewN.trans F3
    clear H1 F1 F3 q1 k0 k1 k2 k3 k4 kf kl a0 a1 a2 a3 a4 a5 af al HC HP
    go_wp2
    go_ret
    exact ⟨v', rfl, H2, F2⟩

end Go.Proofs.Ytonmihojfcjmjab
