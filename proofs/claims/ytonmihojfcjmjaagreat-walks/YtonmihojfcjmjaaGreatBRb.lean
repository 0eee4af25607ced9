import Derived.Test.YtonmihojfcjmjaaGreatBRa
/- Contracts: readTree, the other cases. -/
namespace Go.Proofs.YtonmihojfcjmjaaGreat
open Go.RowKit
variable {ps : Nat → Bool}
set_option linter.unusedVariables false
attribute [local go_sem] cell_set_off cell_set_blk
attribute [local go_sem ↓] Go.wp_at_zero Go.wp_at_succ

set_option maxHeartbeats 2000000 in
theorem readTree_zone (R : Nat) (s : ByteArray) (st : M.St) (v : Value) (lo hi : M.V3) (r : Nat) (a : Int) (w : World) (h : Rd ps w R s st v) (hp : st.place < s.size) (hp2 : s.size ≤ 512) (hlv : st.leaves.length ≤ st.place) (c : Int) (hc : M.byteAt s st.place = c) (c1 : 48 ≤ c) (c2 : c ≤ 55) :
    Calls Tryz.prog 48 #[.pointer (some ⟨R, 0, none⟩), .agg #[.int .i64 lo.x, .int .i64 lo.y, .int .i64 lo.z, .int .i64 hi.x, .int .i64 hi.y, .int .i64 hi.z], .int .i64 a] w (TreePost ps R s (M.tree s r lo hi st) v w) := by
  obtain ⟨d, hd⟩ : ∃ d, M.zoneV c = d := ⟨_, rfl⟩
  have e : M.tree s r lo hi st = (true, st.leaf lo hi c) := by rw [M.tree_leaf (by rw [hc]; unfold M.leafB; simp; omega), hc]
  have E : Hid (M.tree s r lo hi st = (true, st.leaf lo hi c)) := e
  have hd2 : d = c - 48 := by rw [← hd]; unfold M.zoneV; rw [if_neg (by omega)]
  have HD : Hid (M.hexV (M.byteAt s st.place) = d) := by unfold Hid; rw [hc, hd2]; unfold M.hexV; rw [if_pos ⟨c1, by omega⟩]
  have d1 : 0 ≤ d := by omega
  have d2 : d < 8 := by omega
  have HZ : Hid (M.zoneV c = d) := hd
  have t1 : (c == 120) = false := by simp; omega
  have t2 : (c == 121) = false := by simp; omega
  have t3 : (c == 122) = false := by simp; omega
  have t4 : (c == 35) = false := by simp; omega
  rw [M.byteAt_lt hp] at hc
  have HC : Hid ((s[st.place].toNat : Int) = c) := hc
  clear hc hd hd2 e
  have H := h
  obtain ⟨k0, k1, k2, k3, k4, kf, kl⟩ := h.blk.five
  clear h
  have hvb : some w.heap.size ≠ v.ownBlock := fun e => Nat.lt_irrefl _ (own_lt H.own e.symm)
  have hvR : some R ≠ v.ownBlock := fun e => H.ne e.symm
  have hR0 : R ≠ w.heap.size := by omega
  go_enter Tryz.func48, Tryz.ntmps48
  go_wp2
  go_quiet (fail)
  have H1 := (H.alloc (o := (.cells #[.int .i64 lo.x, .int .i64 lo.y, .int .i64 lo.z, .int .i64 hi.x, .int .i64 hi.y, .int .i64 hi.z] 108))).drewN (n := nq)
  have F1 := ((Fr.refl R v w).alloc (.cells #[.int .i64 lo.x, .int .i64 lo.y, .int .i64 lo.z, .int .i64 hi.x, .int .i64 hi.y, .int .i64 hi.z] 108)).drewN (n := nq)
  have q1 : Blk ((w.alloc (.cells #[.int .i64 lo.x, .int .i64 lo.y, .int .i64 lo.z, .int .i64 hi.x, .int .i64 hi.y, .int .i64 hi.z] 108)).drewN nq) w.heap.size _ _ := Blk.drewN (Blk.new rfl)
  generalize (w.alloc (.cells #[.int .i64 lo.x, .int .i64 lo.y, .int .i64 lo.z, .int .i64 hi.x, .int .i64 hi.y, .int .i64 hi.z] 108)).drewN nq = w2 at H1 F1 q1 ⊢
  clear H k0 k1 k2 k3 k4 kf kl
  obtain ⟨k0, k1, k2, k3, k4, kf, kl⟩ := H1.blk.five
  obtain ⟨a0, a1, a2, a3, a4, a5, af, al⟩ := q1.six
  go_wp2
  go_quiet (fail)
  rw [HC.out]
  go_wp2_with fail
  refine (readDigit_ok R s st v 8 _ H1.drewN hp2 d HD d1 d2).mono ?_
  rintro rr W ⟨rfl, H2, F3⟩
  have F2 : Fr R v w W v := F1.drewN.trans F3
  have q2 := q1.drewN.fr F3 (fun e => hR0 e.symm) hvb
  clear H1 F1 F3 q1 k0 k1 k2 k3 k4 kf kl a0 a1 a2 a3 a4 a5 af al HC HD
  have hlen : st.leaves.length + 1 ≤ 513 := by omega
  obtain ⟨k0, k1, k2, k3, k4, kf, kl⟩ := H2.blk.five
  obtain ⟨a0, a1, a2, a3, a4, a5, af, al⟩ := q2.six
  obtain ⟨i0, hi0, hz0, hz1, hz2⟩ := info_parts infoLeaf
  go_wp2
  go_region_law
    ((refine step_append_lies _ (by rfl) _ _ _ (by rfl) 0 137 i0 _ 7 56 Tryz.underlying42 hi0 hz0 hz1 hz2 rfl (by omega) v st.leaves.length (flat st.leaves) (by rfl) (by first | exact H2.alloc.drew.own | exact H2.drew.alloc.own)
        ⟨W.heap.size, 0, none⟩ 1 1 (leafCells ⟨lo, hi, d⟩) (by rfl) (by rfl) (World.news_of_block (cs := #[.int .i64 lo.x, .int .i64 lo.y, .int .i64 lo.z, .int .i64 hi.x, .int .i64 hi.y, .int .i64 hi.z, .int .i64 d]) (t := 137) (fr := (0, 0)) (heap_alloc_new W _)) (by simp [leafCells, Value.oneCell'])
        (by omega) (by unfold maxLen; omega) (by omega) (by simp) (W.heap.size + 1) (by simp) ?_; intro g cap w1 hown1 hgrow hat hlt
      obtain ⟨cR, fR⟩ := cellFar hgrow (by go_grown) kl hvR
      obtain ⟨cB, _⟩ := cellFar hgrow (by go_grown) al hvb
      have c4 := (cR 4).trans k4
      have f4 := fun i => (fR i).trans (kf i)
      have b0 := (cB 0).trans a0
      have b1 := (cB 1).trans a1
      have b2 := (cB 2).trans a2
      have b3 := (cB 3).trans a3
      have b4 := (cB 4).trans a4
      have b5 := (cB 5).trans a5
      clear cR cB fR))
  all_goals
    go_wp2
    go_ret
    have hat2 : v.ownBlock = some g ∨ W.heap.size ≤ g := by rcases hat with e | e; exact .inl e; exact .inr (by omega)
    exact .mk E.out (H2.leaf (by go_grown) hgrow hat2 (by rw [HZ.out]; exact hown1)) ((F2.grown (by go_grown) hgrow hat2).setR _)

set_option maxHeartbeats 2000000 in
theorem readTree_none (R : Nat) (s : ByteArray) (st : M.St) (v : Value) (lo hi : M.V3) (r : Nat) (a : Int) (w : World) (h : Rd ps w R s st v) (hp : st.place < s.size) (hp2 : s.size ≤ 512) (hl : M.leafB (M.byteAt s st.place) = false) (hn : M.planeB (M.byteAt s st.place) = false) :
    Calls Tryz.prog 48 #[.pointer (some ⟨R, 0, none⟩), .agg #[.int .i64 lo.x, .int .i64 lo.y, .int .i64 lo.z, .int .i64 hi.x, .int .i64 hi.y, .int .i64 hi.z], .int .i64 a] w (TreePost ps R s (M.tree s r lo hi st) v w) := by
  have E : Hid (M.tree s r lo hi st = (false, st)) := M.tree_none hl hn
  have HN : noDigit s st.place 8 := by
    unfold noDigit
    by_cases x : 0 ≤ M.hexV (M.byteAt s st.place) ∧ M.hexV (M.byteAt s st.place) < 8
    · have := (M.hexV_zone _).1 x
      unfold M.leafB at hl; simp at hl; omega
    · omega
  obtain ⟨c, hc⟩ : ∃ c, M.byteAt s st.place = c := ⟨_, rfl⟩
  rw [hc] at hl hn
  rw [M.byteAt_lt hp] at hc
  have HC : Hid ((s[st.place].toNat : Int) = c) := hc
  have t1 : (c == 120) = false := by unfold M.planeB at hn; simp at hn; simp; omega
  have t2 : (c == 121) = false := by unfold M.planeB at hn; simp at hn; simp; omega
  have t3 : (c == 122) = false := by unfold M.planeB at hn; simp at hn; simp; omega
  have t4 : (c == 35) = false := by unfold M.leafB at hl; simp at hl; simp; omega
  clear hc hl hn
  have H := h
  obtain ⟨k0, k1, k2, k3, k4, kf, kl⟩ := h.blk.five
  clear h
  have hvb : some w.heap.size ≠ v.ownBlock := fun e => Nat.lt_irrefl _ (own_lt H.own e.symm)
  have hvR : some R ≠ v.ownBlock := fun e => H.ne e.symm
  have hR0 : R ≠ w.heap.size := by omega
  go_enter Tryz.func48, Tryz.ntmps48
  go_wp2
  go_quiet (fail)
  have H1 := (H.alloc (o := (.cells #[.int .i64 lo.x, .int .i64 lo.y, .int .i64 lo.z, .int .i64 hi.x, .int .i64 hi.y, .int .i64 hi.z] 108))).drewN (n := nq)
  have F1 := ((Fr.refl R v w).alloc (.cells #[.int .i64 lo.x, .int .i64 lo.y, .int .i64 lo.z, .int .i64 hi.x, .int .i64 hi.y, .int .i64 hi.z] 108)).drewN (n := nq)
  have q1 : Blk ((w.alloc (.cells #[.int .i64 lo.x, .int .i64 lo.y, .int .i64 lo.z, .int .i64 hi.x, .int .i64 hi.y, .int .i64 hi.z] 108)).drewN nq) w.heap.size _ _ := Blk.drewN (Blk.new rfl)
  generalize (w.alloc (.cells #[.int .i64 lo.x, .int .i64 lo.y, .int .i64 lo.z, .int .i64 hi.x, .int .i64 hi.y, .int .i64 hi.z] 108)).drewN nq = w2 at H1 F1 q1 ⊢
  clear H k0 k1 k2 k3 k4 kf kl
  obtain ⟨k0, k1, k2, k3, k4, kf, kl⟩ := H1.blk.five
  obtain ⟨a0, a1, a2, a3, a4, a5, af, al⟩ := q1.six
  go_wp2
  go_quiet (fail)
  rw [HC.out]
  go_wp2_with fail
  refine (readDigit_no R s st v 8 _ H1.drewN hp2 (by omega) HN).mono ?_
  rintro rr W ⟨rfl, H2, F3⟩
  have F2 : Fr R v w W v := F1.drewN.trans F3
  clear H1 F1 F3 q1 k0 k1 k2 k3 k4 kf kl a0 a1 a2 a3 a4 a5 af al HC
  go_wp2
  go_ret
  exact .mk E.out H2 F2

set_option maxHeartbeats 2000000 in
theorem readTree_plane (R : Nat) (s : ByteArray) (st : M.St) (v : Value) (lo hi : M.V3) (r : Nat) (a : Int) (w : World) (h : Rd ps w R s st v) (hp : st.place < s.size) (hp2 : s.size ≤ 512) (c : Int) (hc : M.byteAt s st.place = c) (hn : M.planeB c = true) (hP : ∀ W, Rd ps W R s st v → Calls Tryz.prog 69 #[.pointer (some ⟨R, 0, none⟩), .agg #[.int .i64 lo.x, .int .i64 lo.y, .int .i64 lo.z, .int .i64 hi.x, .int .i64 hi.y, .int .i64 hi.z], .int .i64 a, .int .u8 c] W (TreePost ps R s (M.tree s r lo hi st) v W)) :
    Calls Tryz.prog 48 #[.pointer (some ⟨R, 0, none⟩), .agg #[.int .i64 lo.x, .int .i64 lo.y, .int .i64 lo.z, .int .i64 hi.x, .int .i64 hi.y, .int .i64 hi.z], .int .i64 a] w (TreePost ps R s (M.tree s r lo hi st) v w) := by
  generalize M.tree s r lo hi st = p at hP ⊢
  rw [M.byteAt_lt hp] at hc
  have HC : Hid ((s[st.place].toNat : Int) = c) := hc
  have HP : Hid (∀ W, Rd ps W R s st v → Calls Tryz.prog 69 #[.pointer (some ⟨R, 0, none⟩), .agg #[.int .i64 lo.x, .int .i64 lo.y, .int .i64 lo.z, .int .i64 hi.x, .int .i64 hi.y, .int .i64 hi.z], .int .i64 a, .int .u8 c] W (TreePost ps R s p v W)) := hP
  clear hP hc
  have H := h
  obtain ⟨k0, k1, k2, k3, k4, kf, kl⟩ := h.blk.five
  clear h
  have hvb : some w.heap.size ≠ v.ownBlock := fun e => Nat.lt_irrefl _ (own_lt H.own e.symm)
  have hvR : some R ≠ v.ownBlock := fun e => H.ne e.symm
  have hR0 : R ≠ w.heap.size := by omega
  go_enter Tryz.func48, Tryz.ntmps48
  go_wp2
  go_quiet (fail)
  have H1 := (H.alloc (o := (.cells #[.int .i64 lo.x, .int .i64 lo.y, .int .i64 lo.z, .int .i64 hi.x, .int .i64 hi.y, .int .i64 hi.z] 108))).drewN (n := nq)
  have F1 := ((Fr.refl R v w).alloc (.cells #[.int .i64 lo.x, .int .i64 lo.y, .int .i64 lo.z, .int .i64 hi.x, .int .i64 hi.y, .int .i64 hi.z] 108)).drewN (n := nq)
  have q1 : Blk ((w.alloc (.cells #[.int .i64 lo.x, .int .i64 lo.y, .int .i64 lo.z, .int .i64 hi.x, .int .i64 hi.y, .int .i64 hi.z] 108)).drewN nq) w.heap.size _ _ := Blk.drewN (Blk.new rfl)
  generalize (w.alloc (.cells #[.int .i64 lo.x, .int .i64 lo.y, .int .i64 lo.z, .int .i64 hi.x, .int .i64 hi.y, .int .i64 hi.z] 108)).drewN nq = w2 at H1 F1 q1 ⊢
  clear H k0 k1 k2 k3 k4 kf kl
  obtain ⟨k0, k1, k2, k3, k4, kf, kl⟩ := H1.blk.five
  obtain ⟨a0, a1, a2, a3, a4, a5, af, al⟩ := q1.six
  go_wp2
  go_quiet (fail)
  rw [HC.out]
  rcases plane3 hn with rfl | rfl | rfl
  all_goals
    go_wp2_with fail
    refine (HP.out _ H1.drewN).mono ?_
    rintro rr W ⟨v', rfl, H2, F3⟩
    have F2 : Fr R v w W v' := F1.drewN.trans F3
    clear H1 F1 F3 q1 k0 k1 k2 k3 k4 kf kl a0 a1 a2 a3 a4 a5 af al HC HP
    go_wp2
    go_ret
    exact ⟨v', rfl, H2, F2⟩

end Go.Proofs.YtonmihojfcjmjaaGreat

/- Contracts: readPlane; the two by induction. -/
namespace Go.Proofs.YtonmihojfcjmjaaGreat
open Go.RowKit
variable {ps : Nat → Bool}
set_option linter.unusedVariables false
attribute [local go_sem] cell_set_off cell_set_blk

/-- readTree reads a tree with at most r planes one within the other. -/
def TreeOK (r : Nat) : Prop := ∀ (ps : Nat → Bool) (R : Nat) (s : ByteArray) (st : M.St) (v : Value) (lo hi : M.V3) (a : Int) (w : World), Rd ps w R s st v → s.size ≤ 512 → st.Inv s → lo.Cub → hi.Cub → 0 ≤ a → a + r = 12 →
  Calls Tryz.prog 48 #[.pointer (some ⟨R, 0, none⟩), .agg #[.int .i64 lo.x, .int .i64 lo.y, .int .i64 lo.z, .int .i64 hi.x, .int .i64 hi.y, .int .i64 hi.z], .int .i64 a] w (TreePost ps R s (M.tree s r lo hi st) v w)

theorem planeB_leaf {c : Int} (h : M.planeB c = true) : M.leafB c = false := by
  rcases plane3 h with rfl | rfl | rfl <;> rfl

set_option maxHeartbeats 2000000 in
theorem readPlane_deep (R : Nat) (s : ByteArray) (st : M.St) (v : Value) (lo hi : M.V3) (c : Int) (w : World) (h : Rd ps w R s st v) (hc : M.byteAt s st.place = c) (hn : M.planeB c = true) :
    Calls Tryz.prog 69 #[.pointer (some ⟨R, 0, none⟩), .agg #[.int .i64 lo.x, .int .i64 lo.y, .int .i64 lo.z, .int .i64 hi.x, .int .i64 hi.y, .int .i64 hi.z], .int .i64 12, .int .u8 c] w (TreePost ps R s (M.tree s 0 lo hi st) v w) := by
  rw [M.tree_deep (by rw [hc]; exact planeB_leaf hn)]
  clear hc hn
  go_enter Tryz.func69, Tryz.ntmps69
  go_wp2
  go_ret
  exact .mk rfl h.alloc ((Fr.refl _ _ _).alloc _)

set_option maxHeartbeats 2000000 in
theorem readPlane_bad1 (R : Nat) (s : ByteArray) (st : M.St) (v : Value) (lo hi : M.V3) (r : Nat) (a c : Int) (w : World) (h : Rd ps w R s st v) (hs : s.size ≤ 512) (ha : a + (r + 1 : Nat) = 12) (hc : M.byteAt s st.place = c) (hn : M.planeB c = true)
    (h3 : M.hexV (M.byteAt s (st.place + 1)) < 0) :
    Calls Tryz.prog 69 #[.pointer (some ⟨R, 0, none⟩), .agg #[.int .i64 lo.x, .int .i64 lo.y, .int .i64 lo.z, .int .i64 hi.x, .int .i64 hi.y, .int .i64 hi.z], .int .i64 a, .int .u8 c] w (TreePost ps R s (M.tree s (r + 1) lo hi st) v w) := by
  rw [M.tree_bad1 (by rw [hc]; exact planeB_leaf hn) (by rw [hc]; exact hn) h3]
  have hp : st.place < s.size := M.byteAt_in (by rw [hc]; rcases plane3 hn with rfl | rfl | rfl <;> omega)
  have HN : noDigit s (st.goto (st.place + 1)).place 16 := .inl h3
  clear hc hn h3
  obtain ⟨k0, k1, k2, k3, k4, kf, kl⟩ := h.blk.five
  have hR0 : R ≠ w.heap.size := by omega
  have a1 : a < 12 := by omega
  clear ha
  go_enter Tryz.func69, Tryz.ntmps69
  go_wp2_with fail
  refine (readDigit_no R s (st.goto (st.place + 1)) v 16 _ (by exact (h.goto (st.place + 1)).alloc) hs hp HN).mono ?_
  rintro rr W ⟨rfl, H2, F3⟩
  have F2 : Fr R v w W v := Fr.trans (((Fr.refl R v w).setR _).alloc _) F3
  clear F3 k0 k1 k2 k3 k4 kf kl h
  go_wp2
  go_ret
  exact .mk rfl H2 F2

set_option maxHeartbeats 2000000 in
theorem readPlane_bad2 (R : Nat) (s : ByteArray) (st : M.St) (v : Value) (lo hi : M.V3) (r : Nat) (a c : Int) (w : World) (h : Rd ps w R s st v) (hs : s.size ≤ 512) (ha : a + (r + 1 : Nat) = 12) (hc : M.byteAt s st.place = c) (hn : M.planeB c = true)
    (h3 : ¬ M.hexV (M.byteAt s (st.place + 1)) < 0) (h4 : M.hexV (M.byteAt s (st.place + 2)) < 0) :
    Calls Tryz.prog 69 #[.pointer (some ⟨R, 0, none⟩), .agg #[.int .i64 lo.x, .int .i64 lo.y, .int .i64 lo.z, .int .i64 hi.x, .int .i64 hi.y, .int .i64 hi.z], .int .i64 a, .int .u8 c] w (TreePost ps R s (M.tree s (r + 1) lo hi st) v w) := by
  rw [M.tree_bad2 (by rw [hc]; exact planeB_leaf hn) (by rw [hc]; exact hn) h3 h4]
  have hp : st.place < s.size := M.byteAt_in (by rw [hc]; rcases plane3 hn with rfl | rfl | rfl <;> omega)
  have hp1 : st.place + 1 < s.size := M.hexV_in (by omega)
  obtain ⟨d, hd⟩ : ∃ d, M.hexV (M.byteAt s (st.place + 1)) = d := ⟨_, rfl⟩
  have HD : Hid (M.hexV (M.byteAt s (st.goto (st.place + 1)).place) = d) := hd
  have d1 : 0 ≤ d := by rw [← hd]; omega
  have d2 : d < 16 := by have := M.hexV_bd (M.byteAt s (st.place + 1)); omega
  have HN : noDigit s ((st.goto (st.place + 1)).goto (st.place + 1 + 1)).place 16 := .inl h4
  clear hc hn h3 h4 hd
  obtain ⟨k0, k1, k2, k3, k4, kf, kl⟩ := h.blk.five
  have hR0 : R ≠ w.heap.size := by omega
  have a1 : a < 12 := by omega
  clear ha
  go_enter Tryz.func69, Tryz.ntmps69
  go_wp2_with fail
  refine (readDigit_ok R s (st.goto (st.place + 1)) v 16 _ (by exact (h.goto (st.place + 1)).alloc) hs d HD d1 d2).mono ?_
  rintro rr W ⟨rfl, H2, F3⟩
  have F2 : Fr R v w W v := Fr.trans (((Fr.refl R v w).setR _).alloc _) F3
  clear F3 k0 k1 k2 k3 k4 kf kl h
  go_wp2_with fail
  refine (readDigit_no R s ((st.goto (st.place + 1)).goto (st.place + 1 + 1)) v 16 _ (by exact H2) hs (by exact hp1) HN).mono ?_
  rintro rr W2 ⟨rfl, H3, F3⟩
  have F4 : Fr R v w W2 v := F2.trans F3
  clear F2 F3 H2
  go_wp2
  go_ret
  exact .mk rfl H3 F4

set_option maxHeartbeats 4000000 in
theorem readPlane_go (R : Nat) (s : ByteArray) (st : M.St) (v : Value) (lo hi : M.V3) (r : Nat) (a c : Int) (w : World) (ih : TreeOK r) (h : Rd ps w R s st v) (hs : s.size ≤ 512) (hI : st.Inv s) (hlo : lo.Cub) (hhi : hi.Cub) (az : 0 ≤ a) (ha : a + (r + 1 : Nat) = 12) (hc : M.byteAt s st.place = c) (hn : M.planeB c = true)
    (h3 : ¬ M.hexV (M.byteAt s (st.place + 1)) < 0) (h4 : ¬ M.hexV (M.byteAt s (st.place + 2)) < 0) :
    Calls Tryz.prog 69 #[.pointer (some ⟨R, 0, none⟩), .agg #[.int .i64 lo.x, .int .i64 lo.y, .int .i64 lo.z, .int .i64 hi.x, .int .i64 hi.y, .int .i64 hi.z], .int .i64 a, .int .u8 c] w (TreePost ps R s (M.tree s (r + 1) lo hi st) v w) := by
  rw [M.tree_plane (by rw [hc]; exact planeB_leaf hn) (by rw [hc]; exact hn) h3 h4]
  have hp : st.place < s.size := M.byteAt_in (by rw [hc]; rcases plane3 hn with rfl | rfl | rfl <;> omega)
  have hp1 : st.place + 1 < s.size := M.hexV_in (by omega)
  obtain ⟨d, hd⟩ : ∃ d, M.hexV (M.byteAt s (st.place + 1)) = d := ⟨_, rfl⟩
  obtain ⟨f, hf⟩ : ∃ d, M.hexV (M.byteAt s (st.place + 2)) = d := ⟨_, rfl⟩
  have HD : Hid (M.hexV (M.byteAt s (st.goto (st.place + 1)).place) = d) := hd
  have HF : Hid (M.hexV (M.byteAt s ((st.goto (st.place + 1)).goto (st.place + 1 + 1)).place) = f) := hf
  have d1 : 0 ≤ d := by rw [← hd]; omega
  have d2 : d < 16 := by have := M.hexV_bd (M.byteAt s (st.place + 1)); omega
  have f1 : 0 ≤ f := by rw [← hf]; omega
  have f2 : f < 16 := by have := M.hexV_bd (M.byteAt s (st.place + 2)); omega
  have hat : M.planeAt s st.place = 16 * (16 * d + f) := by unfold M.planeAt; rw [hd, hf]
  have hI2 := M.Inv_cut (lo := lo) (hi := hi) hI h4
  have e1 : M.lowHi s st hi = M.setAx hi c (16 * (16 * d + f)) := by unfold M.lowHi; rw [hc, hat]
  have e2 : M.upLo s st lo = M.setAx lo c (16 * (16 * d + f)) := by unfold M.upLo; rw [hc, hat]
  have e3 : st.cut s lo hi = (((st.goto (st.place + 1)).goto (st.place + 1 + 1)).goto (st.place + 1 + 1 + 1)).count (M.insideB lo hi c (16 * (16 * d + f))) := by unfold M.St.cut; rw [hc, hat]; rfl
  rw [e1, e2]
  have hbd := M.planeAt_bd h3 h4
  rw [hat] at hbd
  have clo : (M.setAx lo c (16 * (16 * d + f))).Cub := hlo.set hbd.1 (by omega)
  have chi : (M.setAx hi c (16 * (16 * d + f))).Cub := hhi.set hbd.1 (by omega)
  have hJ := M.tree_inv s r lo (M.setAx hi c (16 * (16 * d + f))) (st.cut s lo hi) hlo chi hI2
  have hw := hI.w1
  have hpn : st.planes ≤ 512 := by have := hI.pn; omega
  have IH : Hid (TreeOK r) := ih
  have E3 : Hid (st.cut s lo hi = (((st.goto (st.place + 1)).goto (st.place + 1 + 1)).goto (st.place + 1 + 1 + 1)).count (M.insideB lo hi c (16 * (16 * d + f)))) := e3
  generalize st.cut s lo hi = sc at *
  have hI2' : Hid (sc.Inv s) := hI2
  obtain ⟨p1, hp1⟩ : ∃ p, M.tree s r lo (M.setAx hi c (16 * (16 * d + f))) sc = p := ⟨_, rfl⟩
  rw [hp1] at hJ ⊢
  have P1 : Hid (M.tree s r lo (M.setAx hi c (16 * (16 * d + f))) sc = p1) := hp1
  have HJ : Hid (p1.2.Inv s) := hJ
  clear ih e1 e2 e3 hI2 hp1 hJ hd hf hat hbd hI h3 h4
  obtain ⟨lo2, hl2⟩ : ∃ p, M.setAx lo c (16 * (16 * d + f)) = p := ⟨_, rfl⟩
  obtain ⟨hi2, hh2⟩ : ∃ p, M.setAx hi c (16 * (16 * d + f)) = p := ⟨_, rfl⟩
  rw [hl2] at clo ⊢
  rw [hh2] at chi P1
  have L2 : Hid (M.setAx lo c (16 * (16 * d + f)) = lo2) := hl2
  have U2 : Hid (M.setAx hi c (16 * (16 * d + f)) = hi2) := hh2
  clear hl2 hh2
  obtain ⟨pp, hpp⟩ : ∃ p, (if p1.1 = true then M.tree s r lo2 hi p1.2 else p1) = p := ⟨_, rfl⟩
  rw [hpp]
  have PP : Hid ((if p1.1 = true then M.tree s r lo2 hi p1.2 else p1) = pp) := hpp
  clear hpp
  obtain ⟨k0, k1, k2, k3, k4, kf, kl⟩ := h.blk.five
  have hR0 : R ≠ w.heap.size := by omega
  have a1 : a < 12 := by omega
  have a0 : a + 1 + r = 12 := by omega
  have hvb : some w.heap.size ≠ v.ownBlock := fun e => Nat.lt_irrefl _ (own_lt h.own e.symm)
  clear ha
  go_enter Tryz.func69, Tryz.ntmps69
  go_wp2_with fail
  refine (readDigit_ok R s (st.goto (st.place + 1)) v 16 _ (by exact (h.goto (st.place + 1)).alloc) hs d HD d1 d2).mono ?_
  rintro rr W ⟨rfl, H2, F3⟩
  have F2 : Fr R v w W v := Fr.trans (((Fr.refl R v w).setR _).alloc _) F3
  have q0 : Blk W w.heap.size #[.int .i64 lo.x, .int .i64 lo.y, .int .i64 lo.z, .int .i64 hi.x, .int .i64 hi.y, .int .i64 hi.z] 108 := (Blk.new (by simp)).fr F3 (fun e => hR0 e.symm) hvb
  clear F3 k0 k1 k2 k3 k4 kf kl h HD
  go_wp2_with fail
  refine (readDigit_ok R s ((st.goto (st.place + 1)).goto (st.place + 1 + 1)) v 16 _ (by exact H2) hs f HF f1 f2).mono ?_
  rintro rr W2 ⟨rfl, H3, F3⟩
  have F4 : Fr R v w W2 v := F2.trans F3
  replace q0 := q0.fr F3 (fun e => hR0 e.symm) hvb
  clear F2 F3 H2 W HF
  obtain ⟨b0, b1, b2, b3, b4, b5, bf, bz⟩ := q0.six
  go_wp2_with fail
  refine (countPlane_any R s (((st.goto (st.place + 1)).goto (st.place + 1 + 1)).goto (st.place + 1 + 1 + 1)) v lo hi c _ _ (by exact H3) hn hw hpn).mono ?_
  rintro rr W3 ⟨rfl, H4, F3⟩
  rw [← E3.out] at H4
  have F5 : Fr R v w W3 v := F4.trans F3
  replace q0 := q0.fr F3 (fun e => hR0 e.symm) hvb
  clear F3 F4 H3 W2 E3 b0 b1 b2 b3 b4 b5 bf bz
  obtain ⟨b0, b1, b2, b3, b4, b5, bf, bz⟩ := q0.six
  go_wp2_with fail
  refine (cut_any lo hi c _ _ hn).mono ?_
  rintro rr W4 ⟨rfl, hb⟩
  rw [L2.out, U2.out]
  have H5 : Rd ps W4 R s sc v := H4.below hb
  have F6 : Fr R v w W4 v := F5.below hb
  clear F5 H4 hb W3 L2 U2 b0 b1 b2 b3 b4 b5 bf bz q0
  have hW4 : w.heap.size ≤ W4.heap.size := F6.size
  have hR4 : R ≠ W4.heap.size ∧ R ≠ W4.heap.size + 1 := by have := H5.blk.lt; omega
  have hv4 : some (W4.heap.size + 1) ≠ v.ownBlock := fun e => by have := own_lt H5.own e.symm; omega
  go_wp2_with fail
  refine (IH.out ps R s sc v lo hi2 (a + 1) _ (by exact H5.alloc.alloc) hs hI2'.out hlo chi (by omega) a0).mono ?_
  rintro rr W5 ⟨v', rfl, H6, F7⟩
  rw [P1.out] at H6 ⊢
  have q5 : Blk W5 (W4.heap.size + 1) #[.int .i64 lo2.x, .int .i64 lo2.y, .int .i64 lo2.z, .int .i64 hi.x, .int .i64 hi.y, .int .i64 hi.z] 108 := (Blk.new (by simp)).fr F7 (fun e => hR4.2 e.symm) hv4
  have F8 : Fr R v w W5 v' := ((F6.alloc _).alloc _).trans F7
  clear F6 F7 H5 P1 hI2'
  obtain ⟨ok, st'⟩ := p1
  obtain ⟨b0, b1, b2, b3, b4, b5, bf, bz⟩ := q5.six
  clear q5
  cases ok
  · go_wp2
    go_ret
    exact .mk PP.out.symm H6 F8
  · have PP2 : Hid (M.tree s r lo2 hi st' = pp) := PP.out
    clear PP
    go_wp2_with fail
    refine (IH.out ps R s st' v' lo2 hi (a + 1) _ (by exact H6) hs HJ.out clo hhi (by omega) a0).mono ?_
    rw [PP2.out]
    rintro rr W6 ⟨v'', rfl, H7, F9⟩
    have F10 : Fr R v w W6 v'' := F8.trans F9
    clear F8 F9 H6 b0 b1 b2 b3 b4 b5 bf bz
    go_wp2
    go_ret
    exact ⟨v'', rfl, H7, F10⟩

theorem readTree_ok : ∀ r, TreeOK r
  | r, ps, R, s, st, v, lo, hi, a, w, h, hs, hI, hlo, hhi, az, ha => by
    by_cases hp : st.place < s.size
    · by_cases hl : M.leafB (M.byteAt s st.place) = true
      · have hl2 := hl
        unfold M.leafB at hl2
        simp at hl2
        rcases hl2 with e | e
        · exact readTree_solid R s st v lo hi r a w h hp hs hI.lv e
        · exact readTree_zone R s st v lo hi r a w h hp hs hI.lv _ rfl e.1 e.2
      · have hl' : M.leafB (M.byteAt s st.place) = false := by simpa using hl
        by_cases hn : M.planeB (M.byteAt s st.place) = true
        · refine readTree_plane R s st v lo hi r a w h hp hs _ rfl hn (fun W hW => ?_)
          cases r with
          | zero =>
            obtain rfl : a = 12 := by simpa using ha
            exact readPlane_deep R s st v lo hi _ W hW rfl hn
          | succ r =>
            by_cases h3 : M.hexV (M.byteAt s (st.place + 1)) < 0
            · exact readPlane_bad1 R s st v lo hi r a _ W hW hs ha rfl hn h3
            · by_cases h4 : M.hexV (M.byteAt s (st.place + 2)) < 0
              · exact readPlane_bad2 R s st v lo hi r a _ W hW hs ha rfl hn h3 h4
              · exact readPlane_go R s st v lo hi r a _ W (readTree_ok r) hW hs hI hlo hhi az ha rfl hn h3 h4
        · exact readTree_none R s st v lo hi r a w h hp hs hl' (by simpa using hn)
    · exact readTree_end R s st v lo hi r a w h (by omega) (by have := hI.pl; omega)

end Go.Proofs.YtonmihojfcjmjaaGreat
