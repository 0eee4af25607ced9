/- Contract: rewind.Enter. -/
import Derived.Test.YtonmihojfcjmjaaBox
import Derived.Test.YtonmihojfcjmjaaBox2
namespace Go.Proofs.Ytonmihojfcjmjaa
open Go.RowKit
attribute [local go_sem] cell_set_off cell_set_blk

theorem within_is (p q : M.V3) (w : World) (B : Bool) (h : Hid ((M.nearB p && M.nearB q) = B)) :
    Calls Try.prog 43 #[.agg #[.int .i64 p.x, .int .i64 p.y, .int .i64 p.z], .agg #[.int .i64 q.x, .int .i64 q.y, .int .i64 q.z]] w fun e w' => e = .returned (.bool B) ∧ Below w.heap.size w w' := by
  rw [← h.out]
  exact within_any p q w _ _ rfl rfl
theorem ordered_is (lo hi : M.V3) (w : World) (B : Bool) (h : Hid (M.ordB lo hi = B)) :
    Calls Try.prog 44 #[.agg #[.int .i64 lo.x, .int .i64 lo.y, .int .i64 lo.z, .int .i64 hi.x, .int .i64 hi.y, .int .i64 hi.z]] w fun e w' => e = .returned (.bool B) ∧ Below w.heap.size w w' := by
  rw [← h.out]
  exact ordered_any lo hi w

/-- What Enter gives back. -/
def EntPost (p d lo hi : M.V3) (w : World) (r : Ending) (w' : World) : Prop := ∃ i : Bool, ∃ n e : Int,
  r = .returned (.tuple #[.bool i, .int .i64 n, .int .i64 e, .int .i64 0]) ∧ M.Ent p d lo hi i n e ∧ Below w.heap.size w w'
theorem EntPost.mk {p d lo hi : M.V3} {w w' : World} {i : Bool} {n e : Int} (h : M.Ent p d lo hi i n e) (hb : Below w.heap.size w w') :
    EntPost p d lo hi w (.returned (.tuple #[.bool i, .int .i64 n, .int .i64 e, .int .i64 0])) w' := ⟨i, n, e, rfl, h, hb⟩
/-- What a call gives back that is refused. -/
def RefPost (w : World) (r : Ending) (w' : World) : Prop := r = .returned (.tuple #[.bool false, .int .i64 0, .int .i64 0, .int .i64 5]) ∧ Below w.heap.size w w'

set_option maxHeartbeats 1000000 in
theorem enter_good (p d lo hi : M.V3) (w : World) (hp : p.Near) (hd : d.Near) (hlo : lo.Near) (hhi : hi.Near) (ho : Hid (M.ordB lo hi = true)) :
    Calls Try.prog 16 #[.agg #[.int .i64 p.x, .int .i64 p.y, .int .i64 p.z], .agg #[.int .i64 d.x, .int .i64 d.y, .int .i64 d.z], .agg #[.int .i64 lo.x, .int .i64 lo.y, .int .i64 lo.z], .agg #[.int .i64 hi.x, .int .i64 hi.y, .int .i64 hi.z]] w (EntPost p d lo hi w) := by
  have g1 : Hid ((M.nearB p && M.nearB d) = true) := by unfold Hid; rw [(M.nearB_iff p).2 hp, (M.nearB_iff d).2 hd]; rfl
  have g2 : Hid ((M.nearB lo && M.nearB hi) = true) := by unfold Hid; rw [(M.nearB_iff lo).2 hlo, (M.nearB_iff hi).2 hhi]; rfl
  go_enter Try.func16, Try.ntmps16
  go_wp2_with fail
  refine (within_is p d _ true g1).mono ?_
  rintro r w1 ⟨rfl, hb⟩
  have q0 := (show Blk _ w.heap.size #[.int .i64 p.x, .int .i64 p.y, .int .i64 p.z] 27 from (by repeat' (first | (with_reducible assumption) | (refine Blk.new ?_; (first | (simp; done) | rfl); done) | (with_reducible refine Blk.alloc ?_) | (with_reducible refine Blk.drew ?_) | (with_reducible refine Blk.drewN ?_)))).after hb
  have q1 := (show Blk _ (w.heap.size + 1) #[.int .i64 d.x, .int .i64 d.y, .int .i64 d.z] 27 from (by repeat' (first | (with_reducible assumption) | (refine Blk.new ?_; (first | (simp; done) | rfl); done) | (with_reducible refine Blk.alloc ?_) | (with_reducible refine Blk.drew ?_) | (with_reducible refine Blk.drewN ?_)))).after hb
  have q2 := (show Blk _ (w.heap.size + 1 + 1) #[.int .i64 lo.x, .int .i64 lo.y, .int .i64 lo.z] 27 from (by repeat' (first | (with_reducible assumption) | (refine Blk.new ?_; (first | (simp; done) | rfl); done) | (with_reducible refine Blk.alloc ?_) | (with_reducible refine Blk.drew ?_) | (with_reducible refine Blk.drewN ?_)))).after hb
  have q3 := (show Blk _ (w.heap.size + 1 + 1 + 1) #[.int .i64 hi.x, .int .i64 hi.y, .int .i64 hi.z] 27 from (by repeat' (first | (with_reducible assumption) | (refine Blk.new ?_; (first | (simp; done) | rfl); done) | (with_reducible refine Blk.alloc ?_) | (with_reducible refine Blk.drew ?_) | (with_reducible refine Blk.drewN ?_)))).after hb
  have hb1 : Below w.heap.size w w1 := bl (by go_grown) hb
  clear hb
  obtain ⟨c0, c1, c2, cf, cz⟩ := q2.three
  obtain ⟨e0, e1, e2, ef, ez⟩ := q3.three
  go_wp2_with fail
  refine (within_is lo hi _ true g2).mono ?_
  rintro r w2 ⟨rfl, hb⟩
  replace q0 := q0.after hb
  replace q1 := q1.after hb
  replace q2 := q2.after hb
  replace q3 := q3.after hb
  have hb2 : Below w.heap.size w w2 := bl (by go_grown) hb
  clear hb hb1 c0 c1 c2 cf cz e0 e1 e2 ef ez
  obtain ⟨c0, c1, c2, cf, cz⟩ := q2.three
  obtain ⟨e0, e1, e2, ef, ez⟩ := q3.three
  have u4 : w.heap.size ≤ w2.heap.size := hb2.size
  go_wp2_with fail
  refine (ordered_is lo hi _ true ho).mono ?_
  rintro r w3 ⟨rfl, hb⟩
  have q4 := (show Blk (w2.alloc _) w2.heap.size #[.int .i64 lo.x, .int .i64 lo.y, .int .i64 lo.z, .int .i64 hi.x, .int .i64 hi.y, .int .i64 hi.z] 76 from Blk.new rfl).after hb
  replace q0 := q0.alloc.after hb
  replace q1 := q1.alloc.after hb
  have hb3 : Below w.heap.size w w3 := bl (by go_grown) hb
  clear hb hb2 c0 c1 c2 cf cz e0 e1 e2 ef ez q2 q3
  obtain ⟨c0, c1, c2, cf, cz⟩ := q0.three
  obtain ⟨e0, e1, e2, ef, ez⟩ := q1.three
  obtain ⟨f0, f1, f2, f3, f4, f5, ff, fz⟩ := q4.six
  go_wp2_with fail
  refine (boxEnter_any p d lo hi _ hp hd hlo hhi).mono ?_
  rintro r w4 ⟨i, n, k, rfl, hE, hb⟩
  have HE : Hid (M.Ent p d lo hi i n k) := hE
  have hb4 : Below w.heap.size w w4 := bl (by go_grown) hb
  clear hb hb3 c0 c1 c2 cf cz e0 e1 e2 ef ez f0 f1 f2 f3 f4 f5 ff fz q0 q1 q4 hE u4 g1 g2 ho hp hd hlo hhi
  have u5 : w.heap.size ≤ w4.heap.size := hb4.size
  go_wp2
  go_quiet (fail)
  go_wp2
  exact bodyPost_ret (v := .tuple #[.bool i, .int .i64 n, .int .i64 k, .int .i64 0]) (by simp [results, Try.results16, go_sem]) rfl (.mk HE.out (below_drewN (by go_grown) _))

set_option maxHeartbeats 1000000 in
theorem enter_bad (p d lo hi : M.V3) (w : World) (B1 B2 : Bool) (g1 : Hid ((M.nearB p && M.nearB d) = B1)) (g2 : Hid ((M.nearB lo && M.nearB hi) = B2)) (ho : B1 = true → B2 = true → M.ordB lo hi = false) :
    Calls Try.prog 16 #[.agg #[.int .i64 p.x, .int .i64 p.y, .int .i64 p.z], .agg #[.int .i64 d.x, .int .i64 d.y, .int .i64 d.z], .agg #[.int .i64 lo.x, .int .i64 lo.y, .int .i64 lo.z], .agg #[.int .i64 hi.x, .int .i64 hi.y, .int .i64 hi.z]] w (RefPost w) := by
  have Ho : Hid (B1 = true → B2 = true → M.ordB lo hi = false) := ho
  clear ho
  go_enter Try.func16, Try.ntmps16
  go_wp2_with fail
  refine (within_is p d _ B1 g1).mono ?_
  rintro r w1 ⟨rfl, hb⟩
  have q2 := (show Blk _ (w.heap.size + 1 + 1) #[.int .i64 lo.x, .int .i64 lo.y, .int .i64 lo.z] 27 from (by repeat' (first | (with_reducible assumption) | (refine Blk.new ?_; (first | (simp; done) | rfl); done) | (with_reducible refine Blk.alloc ?_) | (with_reducible refine Blk.drew ?_) | (with_reducible refine Blk.drewN ?_)))).after hb
  have q3 := (show Blk _ (w.heap.size + 1 + 1 + 1) #[.int .i64 hi.x, .int .i64 hi.y, .int .i64 hi.z] 27 from (by repeat' (first | (with_reducible assumption) | (refine Blk.new ?_; (first | (simp; done) | rfl); done) | (with_reducible refine Blk.alloc ?_) | (with_reducible refine Blk.drew ?_) | (with_reducible refine Blk.drewN ?_)))).after hb
  have hb1 : Below w.heap.size w w1 := bl (by go_grown) hb
  clear hb
  obtain ⟨c0, c1, c2, cf, cz⟩ := q2.three
  obtain ⟨e0, e1, e2, ef, ez⟩ := q3.three
  cases B1
  · go_wp2
    exact bodyPost_ret (v := .tuple #[.bool false, .int .i64 0, .int .i64 0, .int .i64 5]) (by simp [results, Try.results16, go_sem]) rfl ⟨rfl, by go_grown⟩
  go_wp2_with fail
  refine (within_is lo hi _ B2 g2).mono ?_
  rintro r w2 ⟨rfl, hb⟩
  replace q2 := q2.after hb
  replace q3 := q3.after hb
  have hb2 : Below w.heap.size w w2 := bl (by go_grown) hb
  clear hb hb1 c0 c1 c2 cf cz e0 e1 e2 ef ez
  obtain ⟨c0, c1, c2, cf, cz⟩ := q2.three
  obtain ⟨e0, e1, e2, ef, ez⟩ := q3.three
  cases B2
  · go_wp2
    exact bodyPost_ret (v := .tuple #[.bool false, .int .i64 0, .int .i64 0, .int .i64 5]) (by simp [results, Try.results16, go_sem]) rfl ⟨rfl, by go_grown⟩
  have u4 : w.heap.size ≤ w2.heap.size := hb2.size
  go_wp2_with fail
  refine (ordered_is lo hi _ false (by first | exact Ho.out rfl rfl | exact Ho.out trivial trivial | exact Ho.out)).mono ?_
  rintro r w3 ⟨rfl, hb⟩
  have hb3 : Below w.heap.size w w3 := bl (by go_grown) hb
  clear hb
  go_wp2
  exact bodyPost_ret (v := .tuple #[.bool false, .int .i64 0, .int .i64 0, .int .i64 5]) (by simp [results, Try.results16, go_sem]) rfl ⟨rfl, by go_grown⟩

end Go.Proofs.Ytonmihojfcjmjaa
