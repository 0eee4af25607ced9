/- The law First. -/
import Derived.Test.YtonmihojfcjmjaaEnt
import Derived.Test.YtonmihojfcjmjaaKeep
namespace Go.Proofs.Ytonmihojfcjmjaa
open Go.RowKit
attribute [local go_sem] cell_set_off cell_set_blk

theorem cell3 {W : World} {b : Nat} {x0 x1 x2 : Value} {t : TypeId} (h : Blk W b #[x0, x1, x2] t) : W.cell? ⟨b, 0, none⟩ = some x0 ∧ W.cell? ⟨b, 1, none⟩ = some x1 ∧ W.cell? ⟨b, 2, none⟩ = some x2 := ⟨h.cell 0, h.cell 1, h.cell 2⟩

/-- The four arguments' boxes. -/
structure Box4 (w W : World) (p d lo hi : M.V3) : Prop where
  q0 : Blk W w.heap.size #[.int .i64 p.x, .int .i64 p.y, .int .i64 p.z] 27
  q1 : Blk W (w.heap.size + 1) #[.int .i64 d.x, .int .i64 d.y, .int .i64 d.z] 27
  q2 : Blk W (w.heap.size + 1 + 1) #[.int .i64 lo.x, .int .i64 lo.y, .int .i64 lo.z] 27
  q3 : Blk W (w.heap.size + 1 + 1 + 1) #[.int .i64 hi.x, .int .i64 hi.y, .int .i64 hi.z] 27
  hb : Below w.heap.size w W
theorem Box4.after {w W W' : World} {p d lo hi : M.V3} (h : Box4 w W p d lo hi) (hb : Below W.heap.size W W') : Box4 w W' p d lo hi :=
  ⟨h.q0.after hb, h.q1.after hb, h.q2.after hb, h.q3.after hb, bl h.hb hb⟩

set_option maxRecDepth 100000 in
set_option maxHeartbeats 2000000 in
theorem first_bad (p d lo hi : M.V3) (m k : Int) (w : World) (h : (M.nearB p && M.nearB d && M.nearB lo && M.nearB hi && M.ordB lo hi) = false) :
    Calls Try.prog 5 #[.agg #[.int .i64 p.x, .int .i64 p.y, .int .i64 p.z], .agg #[.int .i64 d.x, .int .i64 d.y, .int .i64 d.z], .agg #[.int .i64 lo.x, .int .i64 lo.y, .int .i64 lo.z], .agg #[.int .i64 hi.x, .int .i64 hi.y, .int .i64 hi.z], .int .i64 m, .int .i64 k] w fun e w' => e = .returned (.bool true) ∧ Below w.heap.size w w' := by
  obtain ⟨Bp, hp⟩ : ∃ B, M.nearB p = B := ⟨_, rfl⟩
  obtain ⟨Bd, hd⟩ : ∃ B, M.nearB d = B := ⟨_, rfl⟩
  obtain ⟨Bl, hl⟩ : ∃ B, M.nearB lo = B := ⟨_, rfl⟩
  obtain ⟨Bh, hh⟩ : ∃ B, M.nearB hi = B := ⟨_, rfl⟩
  rw [hp, hd, hl, hh] at h
  have H : Hid ((Bp && Bd && Bl && Bh && M.ordB lo hi) = false) := h
  have Hp : Hid (M.nearB p = Bp) := hp
  have Hd : Hid (M.nearB d = Bd) := hd
  have Hl : Hid (M.nearB lo = Bl) := hl
  have Hh : Hid (M.nearB hi = Bh) := hh
  clear h hp hd hl hh
  have g1 : Hid ((M.nearB p && M.nearB d) = (Bp && Bd)) := by unfold Hid; rw [Hp.out, Hd.out]
  have g2 : Hid ((M.nearB lo && M.nearB hi) = (Bl && Bh)) := by unfold Hid; rw [Hl.out, Hh.out]
  go_enter Try.func5, Try.ntmps5
  go_wp2_with fail
  refine (enter_bad p d lo hi _ (Bp && Bd) (Bl && Bh) g1 g2 (fun e1 e2 => by have := H.out; revert e1 e2 this; cases Bp <;> cases Bd <;> cases Bl <;> cases Bh <;> simp)).mono ?_
  rintro r w1 ⟨rfl, hb⟩
  have Q : Box4 w w1 p d lo hi := Box4.after (⟨by repeat' (first | (with_reducible assumption) | (refine Blk.new ?_; (first | (simp; done) | rfl); done) | (with_reducible refine Blk.alloc ?_) | (with_reducible refine Blk.drew ?_) | (with_reducible refine Blk.drewN ?_)), by repeat' (first | (with_reducible assumption) | (refine Blk.new ?_; (first | (simp; done) | rfl); done) | (with_reducible refine Blk.alloc ?_) | (with_reducible refine Blk.drew ?_) | (with_reducible refine Blk.drewN ?_)), by repeat' (first | (with_reducible assumption) | (refine Blk.new ?_; (first | (simp; done) | rfl); done) | (with_reducible refine Blk.alloc ?_) | (with_reducible refine Blk.drew ?_) | (with_reducible refine Blk.drewN ?_)), by repeat' (first | (with_reducible assumption) | (refine Blk.new ?_; (first | (simp; done) | rfl); done) | (with_reducible refine Blk.alloc ?_) | (with_reducible refine Blk.drew ?_) | (with_reducible refine Blk.drewN ?_)), by go_grown⟩) hb
  clear hb g1 g2
  obtain ⟨a0, a1, a2⟩ := cell3 Q.q0
  go_wp2_with fail
  refine (near_is p _ Bp Hp).mono ?_
  rintro r w2 ⟨rfl, hb⟩
  replace Q := Q.after hb
  clear hb a0 a1 a2
  obtain ⟨a0, a1, a2⟩ := cell3 Q.q1
  go_wp2_with fail
  refine (near_is d _ Bd Hd).mono ?_
  rintro r w3 ⟨rfl, hb⟩
  replace Q := Q.after hb
  clear hb a0 a1 a2
  obtain ⟨a0, a1, a2⟩ := cell3 Q.q2
  go_wp2_with fail
  refine (near_is lo _ Bl Hl).mono ?_
  rintro r w4 ⟨rfl, hb⟩
  replace Q := Q.after hb
  clear hb a0 a1 a2
  obtain ⟨a0, a1, a2⟩ := cell3 Q.q3
  go_wp2_with fail
  refine (near_is hi _ Bh Hh).mono ?_
  rintro r w5 ⟨rfl, hb⟩
  replace Q := Q.after hb
  clear hb a0 a1 a2 Hp Hd Hl Hh
  have hb := Q.hb
  obtain ⟨a0, a1, a2⟩ := cell3 Q.q2
  obtain ⟨b0, b1, b2⟩ := cell3 Q.q3
  clear Q
  cases Bp
  · go_wp2; go_ret; exact ⟨rfl, hb⟩
  cases Bd
  · go_wp2; go_ret; exact ⟨rfl, hb⟩
  cases Bl
  · go_wp2; go_ret; exact ⟨rfl, hb⟩
  cases Bh
  · go_wp2; go_ret; exact ⟨rfl, hb⟩
  by_cases hx : hi.x < lo.x
  · go_wp2; go_ret; exact ⟨rfl, hb⟩
  by_cases hy : hi.y < lo.y
  · go_wp2; go_ret; exact ⟨rfl, hb⟩
  by_cases hz : hi.z < lo.z
  · go_wp2; go_ret; exact ⟨rfl, hb⟩
  exfalso
  have := H.out
  unfold M.ordB at this
  simp at this
  omega

set_option maxRecDepth 100000 in
set_option maxHeartbeats 4000000 in
theorem first_out (p d lo hi : M.V3) (m k : Int) (w : World) (hp : p.Near) (hd : d.Near) (hlo : lo.Near) (hhi : hi.Near) (ho : Hid (M.ordB lo hi = true)) (hk : ¬ (1 ≤ k ∧ k ≤ 1048576 ∧ 0 ≤ m ∧ m ≤ k)) :
    Calls Try.prog 5 #[.agg #[.int .i64 p.x, .int .i64 p.y, .int .i64 p.z], .agg #[.int .i64 d.x, .int .i64 d.y, .int .i64 d.z], .agg #[.int .i64 lo.x, .int .i64 lo.y, .int .i64 lo.z], .agg #[.int .i64 hi.x, .int .i64 hi.y, .int .i64 hi.z], .int .i64 m, .int .i64 k] w fun e w' => e = .returned (.bool true) ∧ Below w.heap.size w w' := by
  have ⟨⟨o1, o2⟩, o3⟩ : (lo.x ≤ hi.x ∧ lo.y ≤ hi.y) ∧ lo.z ≤ hi.z := by have := ho.out; unfold M.ordB at this; simpa using this
  have HK : Hid (¬ (1 ≤ k ∧ k ≤ 1048576 ∧ 0 ≤ m ∧ m ≤ k)) := hk
  clear hk
  go_enter Try.func5, Try.ntmps5
  go_wp2_with fail
  refine (enter_good p d lo hi _ hp hd hlo hhi ho).mono ?_
  rintro r w1 ⟨i, n, e, rfl, hE, hb⟩
  have HE : Hid (M.Ent p d lo hi i n e) := hE
  have Q : Box4 w w1 p d lo hi := Box4.after (⟨by repeat' (first | (with_reducible assumption) | (refine Blk.new ?_; (first | (simp; done) | rfl); done) | (with_reducible refine Blk.alloc ?_) | (with_reducible refine Blk.drew ?_) | (with_reducible refine Blk.drewN ?_)), by repeat' (first | (with_reducible assumption) | (refine Blk.new ?_; (first | (simp; done) | rfl); done) | (with_reducible refine Blk.alloc ?_) | (with_reducible refine Blk.drew ?_) | (with_reducible refine Blk.drewN ?_)), by repeat' (first | (with_reducible assumption) | (refine Blk.new ?_; (first | (simp; done) | rfl); done) | (with_reducible refine Blk.alloc ?_) | (with_reducible refine Blk.drew ?_) | (with_reducible refine Blk.drewN ?_)), by repeat' (first | (with_reducible assumption) | (refine Blk.new ?_; (first | (simp; done) | rfl); done) | (with_reducible refine Blk.alloc ?_) | (with_reducible refine Blk.drew ?_) | (with_reducible refine Blk.drewN ?_)), by go_grown⟩) hb
  clear hb hE
  obtain ⟨a0, a1, a2⟩ := cell3 Q.q0
  go_wp2_with fail
  refine (near_is p _ true ((M.nearB_iff p).2 hp)).mono ?_
  rintro r w2 ⟨rfl, hb⟩
  replace Q := Q.after hb
  clear hb a0 a1 a2
  obtain ⟨a0, a1, a2⟩ := cell3 Q.q1
  go_wp2_with fail
  refine (near_is d _ true ((M.nearB_iff d).2 hd)).mono ?_
  rintro r w3 ⟨rfl, hb⟩
  replace Q := Q.after hb
  clear hb a0 a1 a2
  obtain ⟨a0, a1, a2⟩ := cell3 Q.q2
  go_wp2_with fail
  refine (near_is lo _ true ((M.nearB_iff lo).2 hlo)).mono ?_
  rintro r w4 ⟨rfl, hb⟩
  replace Q := Q.after hb
  clear hb a0 a1 a2
  obtain ⟨a0, a1, a2⟩ := cell3 Q.q3
  go_wp2_with fail
  refine (near_is hi _ true ((M.nearB_iff hi).2 hhi)).mono ?_
  rintro r w5 ⟨rfl, hb⟩
  replace Q := Q.after hb
  clear hb a0 a1 a2
  have hb := Q.hb
  obtain ⟨a0, a1, a2⟩ := cell3 Q.q0
  obtain ⟨b0, b1, b2⟩ := cell3 Q.q1
  obtain ⟨c0, c1, c2⟩ := cell3 Q.q2
  obtain ⟨f0, f1, f2⟩ := cell3 Q.q3
  cases i
  · obtain ⟨n1, n2, _⟩ := HE.out.no rfl
    subst n1 n2
    clear Q a0 a1 a2 b0 b1 b2
    by_cases t1 : k < 1
    · go_wp2; go_ret; exact ⟨rfl, hb⟩
    by_cases t2 : 1048576 < k
    · go_wp2; go_ret; exact ⟨rfl, hb⟩
    by_cases t3 : m < 0
    · go_wp2; go_ret; exact ⟨rfl, hb⟩
    by_cases t4 : k < m
    · go_wp2; go_ret; exact ⟨rfl, hb⟩
    exact absurd ⟨by omega, by omega, by omega, by omega⟩ HK.out
  · obtain ⟨n1, n2, n3, n4, n5, n6⟩ := HE.out.yes rfl
    have H5 : Hid (Int.gcd n e = 1) := n5
    have H6 : Hid (M.liesB p d lo hi n e = true) := (M.liesB_iff p d lo hi n e).2 n6
    clear n5 n6
    go_wp2_with fail
    refine (common_any n e _ (by omega) (by omega) (by omega) (by omega)).mono ?_
    rintro r w6 ⟨rfl, hb6⟩
    replace Q := Q.after hb6
    clear hb6 hb a0 a1 a2 b0 b1 b2 c0 c1 c2 f0 f1 f2
    rw [H5.out]
    obtain ⟨a0, a1, a2⟩ := cell3 Q.q0
    obtain ⟨b0, b1, b2⟩ := cell3 Q.q1
    obtain ⟨c0, c1, c2⟩ := cell3 Q.q2
    obtain ⟨f0, f1, f2⟩ := cell3 Q.q3
    go_wp2_with fail
    refine (lies_is p d lo hi n e _ true H6 hp hd hlo hhi n1 n3 n2 n4).mono ?_
    rintro r w7 ⟨rfl, hb7⟩
    replace Q := Q.after hb7
    clear hb7 a0 a1 a2 b0 b1 b2 c0 c1 c2 f0 f1 f2
    have hb := Q.hb
    clear Q
    by_cases t1 : k < 1
    · go_wp2; go_ret; exact ⟨rfl, hb⟩
    by_cases t2 : 1048576 < k
    · go_wp2; go_ret; exact ⟨rfl, hb⟩
    by_cases t3 : m < 0
    · go_wp2; go_ret; exact ⟨rfl, hb⟩
    by_cases t4 : k < m
    · go_wp2; go_ret; exact ⟨rfl, hb⟩
    exact absurd ⟨by omega, by omega, by omega, by omega⟩ HK.out

set_option maxRecDepth 100000 in
set_option maxHeartbeats 4000000 in
theorem first_in (p d lo hi : M.V3) (m k : Int) (w : World) (hp : p.Near) (hd : d.Near) (hlo : lo.Near) (hhi : hi.Near) (ho : Hid (M.ordB lo hi = true)) (k1 : 1 ≤ k) (k2 : k ≤ 1048576) (m1 : 0 ≤ m) (m2 : m ≤ k) :
    Calls Try.prog 5 #[.agg #[.int .i64 p.x, .int .i64 p.y, .int .i64 p.z], .agg #[.int .i64 d.x, .int .i64 d.y, .int .i64 d.z], .agg #[.int .i64 lo.x, .int .i64 lo.y, .int .i64 lo.z], .agg #[.int .i64 hi.x, .int .i64 hi.y, .int .i64 hi.z], .int .i64 m, .int .i64 k] w fun e w' => e = .returned (.bool true) ∧ Below w.heap.size w w' := by
  have ⟨⟨o1, o2⟩, o3⟩ : (lo.x ≤ hi.x ∧ lo.y ≤ hi.y) ∧ lo.z ≤ hi.z := by have := ho.out; unfold M.ordB at this; simpa using this
  obtain ⟨B, hB⟩ : ∃ B, M.liesB p d lo hi m k = B := ⟨_, rfl⟩
  have HB : Hid (M.liesB p d lo hi m k = B) := hB
  clear hB
  go_enter Try.func5, Try.ntmps5
  go_wp2_with fail
  refine (enter_good p d lo hi _ hp hd hlo hhi ho).mono ?_
  rintro r w1 ⟨i, n, e, rfl, hE, hb⟩
  have HE : Hid (M.Ent p d lo hi i n e) := hE
  have Q : Box4 w w1 p d lo hi := Box4.after (⟨by repeat' (first | (with_reducible assumption) | (refine Blk.new ?_; (first | (simp; done) | rfl); done) | (with_reducible refine Blk.alloc ?_) | (with_reducible refine Blk.drew ?_) | (with_reducible refine Blk.drewN ?_)), by repeat' (first | (with_reducible assumption) | (refine Blk.new ?_; (first | (simp; done) | rfl); done) | (with_reducible refine Blk.alloc ?_) | (with_reducible refine Blk.drew ?_) | (with_reducible refine Blk.drewN ?_)), by repeat' (first | (with_reducible assumption) | (refine Blk.new ?_; (first | (simp; done) | rfl); done) | (with_reducible refine Blk.alloc ?_) | (with_reducible refine Blk.drew ?_) | (with_reducible refine Blk.drewN ?_)), by repeat' (first | (with_reducible assumption) | (refine Blk.new ?_; (first | (simp; done) | rfl); done) | (with_reducible refine Blk.alloc ?_) | (with_reducible refine Blk.drew ?_) | (with_reducible refine Blk.drewN ?_)), by go_grown⟩) hb
  clear hb hE
  obtain ⟨a0, a1, a2⟩ := cell3 Q.q0
  go_wp2_with fail
  refine (near_is p _ true ((M.nearB_iff p).2 hp)).mono ?_
  rintro r w2 ⟨rfl, hb⟩
  replace Q := Q.after hb
  clear hb a0 a1 a2
  obtain ⟨a0, a1, a2⟩ := cell3 Q.q1
  go_wp2_with fail
  refine (near_is d _ true ((M.nearB_iff d).2 hd)).mono ?_
  rintro r w3 ⟨rfl, hb⟩
  replace Q := Q.after hb
  clear hb a0 a1 a2
  obtain ⟨a0, a1, a2⟩ := cell3 Q.q2
  go_wp2_with fail
  refine (near_is lo _ true ((M.nearB_iff lo).2 hlo)).mono ?_
  rintro r w4 ⟨rfl, hb⟩
  replace Q := Q.after hb
  clear hb a0 a1 a2
  obtain ⟨a0, a1, a2⟩ := cell3 Q.q3
  go_wp2_with fail
  refine (near_is hi _ true ((M.nearB_iff hi).2 hhi)).mono ?_
  rintro r w5 ⟨rfl, hb⟩
  replace Q := Q.after hb
  clear hb a0 a1 a2
  have hb := Q.hb
  obtain ⟨a0, a1, a2⟩ := cell3 Q.q0
  obtain ⟨b0, b1, b2⟩ := cell3 Q.q1
  obtain ⟨c0, c1, c2⟩ := cell3 Q.q2
  obtain ⟨f0, f1, f2⟩ := cell3 Q.q3
  cases i
  · obtain ⟨n1, n2, n3⟩ := HE.out.no rfl
    have hf : B = false := by
      cases B
      · rfl
      · exact absurd ((M.liesB_iff p d lo hi m k).1 HB.out) (n3 m k k1 m1 m2)
    clear n3
    subst n1 n2 hf
    go_wp2_with fail
    refine (lies_is p d lo hi m k _ false HB hp hd hlo hhi m1 m2 k1 k2).mono ?_
    rintro r w7 ⟨rfl, hb7⟩
    replace Q := Q.after hb7
    clear hb7 a0 a1 a2 b0 b1 b2 c0 c1 c2 f0 f1 f2 hb
    have hb := Q.hb
    clear Q
    go_wp2; go_ret; exact ⟨rfl, hb⟩
  · obtain ⟨n1, n2, n3, n4, n5, n6⟩ := HE.out.yes rfl
    have H5 : Hid (Int.gcd n e = 1) := n5
    have H6 : Hid (M.liesB p d lo hi n e = true) := (M.liesB_iff p d lo hi n e).2 n6
    clear n5 n6
    go_wp2_with fail
    refine (common_any n e _ (by omega) (by omega) (by omega) (by omega)).mono ?_
    rintro r w6 ⟨rfl, hb6⟩
    replace Q := Q.after hb6
    clear hb6 hb a0 a1 a2 b0 b1 b2 c0 c1 c2 f0 f1 f2
    rw [H5.out]
    obtain ⟨a0, a1, a2⟩ := cell3 Q.q0
    obtain ⟨b0, b1, b2⟩ := cell3 Q.q1
    obtain ⟨c0, c1, c2⟩ := cell3 Q.q2
    obtain ⟨f0, f1, f2⟩ := cell3 Q.q3
    go_wp2_with fail
    refine (lies_is p d lo hi n e _ true H6 hp hd hlo hhi n1 n3 n2 n4).mono ?_
    rintro r w7 ⟨rfl, hb7⟩
    replace Q := Q.after hb7
    clear hb7 a0 a1 a2 b0 b1 b2 c0 c1 c2 f0 f1 f2
    have hb := Q.hb
    obtain ⟨a0, a1, a2⟩ := cell3 Q.q0
    obtain ⟨b0, b1, b2⟩ := cell3 Q.q1
    obtain ⟨c0, c1, c2⟩ := cell3 Q.q2
    obtain ⟨f0, f1, f2⟩ := cell3 Q.q3
    go_wp2_with fail
    refine (lies_is p d lo hi m k _ B HB hp hd hlo hhi m1 m2 k1 k2).mono ?_
    rintro r w8 ⟨rfl, hb8⟩
    replace Q := Q.after hb8
    clear hb8 a0 a1 a2 b0 b1 b2 c0 c1 c2 f0 f1 f2 hb
    have hb := Q.hb
    clear Q
    cases B
    · go_wp2; go_ret; exact ⟨rfl, hb⟩
    · have hl : n * k ≤ m * e := HE.out.least rfl m k k1 m1 m2 ((M.liesB_iff p d lo hi m k).1 HB.out)
      have x1 : wrap64 (n * k) = n * k := wrap_mul (by omega) (by omega) (by omega) (by omega)
      have x2 : wrap64 (m * e) = m * e := wrap_mul (by omega) (by omega) (by omega) (by omega)
      go_wp2; go_ret; exact ⟨rfl, hb⟩

theorem first_any (p d lo hi : M.V3) (m k : Int) (w : World) :
    Calls Try.prog 5 #[.agg #[.int .i64 p.x, .int .i64 p.y, .int .i64 p.z], .agg #[.int .i64 d.x, .int .i64 d.y, .int .i64 d.z], .agg #[.int .i64 lo.x, .int .i64 lo.y, .int .i64 lo.z], .agg #[.int .i64 hi.x, .int .i64 hi.y, .int .i64 hi.z], .int .i64 m, .int .i64 k] w fun e w' => e = .returned (.bool true) ∧ Below w.heap.size w w' := by
  by_cases h : (M.nearB p && M.nearB d && M.nearB lo && M.nearB hi && M.ordB lo hi) = false
  · exact first_bad p d lo hi m k w h
  · rw [Bool.not_eq_false] at h
    simp only [Bool.and_eq_true] at h
    obtain ⟨⟨⟨⟨hp, hd⟩, hl⟩, hh⟩, ho⟩ := h
    by_cases hk : 1 ≤ k ∧ k ≤ 1048576 ∧ 0 ≤ m ∧ m ≤ k
    · obtain ⟨k1, k2, m1, m2⟩ := hk
      exact first_in p d lo hi m k w ((M.nearB_iff p).1 hp) ((M.nearB_iff d).1 hd) ((M.nearB_iff lo).1 hl) ((M.nearB_iff hi).1 hh) ho k1 k2 m1 m2
    · exact first_out p d lo hi m k w ((M.nearB_iff p).1 hp) ((M.nearB_iff d).1 hd) ((M.nearB_iff lo).1 hl) ((M.nearB_iff hi).1 hh) ho hk

end Go.Proofs.Ytonmihojfcjmjaa
