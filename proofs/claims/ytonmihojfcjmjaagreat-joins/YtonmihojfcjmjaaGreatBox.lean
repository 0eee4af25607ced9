import Derived.Test.YtonmihojfcjmjaaGreatSeg
/- Contracts: boxes and segments; rewind.Enter. -/
namespace Go.Proofs.YtonmihojfcjmjaaGreat
open Go.RowKit
attribute [local go_sem] cell_set_off cell_set_blk

/-- What Box.Enter gives back. -/
def BEntPost (p d lo hi : M.V3) (w : World) (r : Ending) (w' : World) : Prop := ∃ i : Bool, ∃ n e : Int,
  r = .returned (.tuple #[.bool i, .agg #[.int .i64 n, .int .i64 e]]) ∧ M.Ent p d lo hi i n e ∧ Below w.heap.size w w'
theorem BEntPost.mk {p d lo hi : M.V3} {w w' : World} {i : Bool} {n e : Int} (h : M.Ent p d lo hi i n e) (hb : Below w.heap.size w w') :
    BEntPost p d lo hi w (.returned (.tuple #[.bool i, .agg #[.int .i64 n, .int .i64 e]])) w' := ⟨i, n, e, rfl, h, hb⟩

set_option maxHeartbeats 6000000 in
theorem boxEnter_any (p d lo hi : M.V3) (w : World) (hp : p.Near) (hd : d.Near) (hlo : lo.Near) (hhi : hi.Near) :
    Calls Tryz.prog 121 #[.agg #[.int .i64 lo.x, .int .i64 lo.y, .int .i64 lo.z, .int .i64 hi.x, .int .i64 hi.y, .int .i64 hi.z], .agg #[.int .i64 p.x, .int .i64 p.y, .int .i64 p.z], .agg #[.int .i64 d.x, .int .i64 d.y, .int .i64 d.z]] w (BEntPost p d lo hi w) := by
  obtain ⟨p1, p2, p3, p4, p5, p6⟩ := hp
  obtain ⟨d1, d2, d3, d4, d5, d6⟩ := hd
  obtain ⟨l1, l2, l3, l4, l5, l6⟩ := hlo
  obtain ⟨h1, h2, h3, h4, h5, h6⟩ := hhi
  go_enter Tryz.func121, Tryz.ntmps121
  go_wp2_with fail
  refine (narrow_any (S := fun _ _ => True) _ _ _ _ _ _ _ _ _ M.whole (by omega) (by omega) (by omega) (by omega) (by omega) (by omega) (by omega) (by omega) (by omega)).mono ?_
  rintro r w1 ⟨a, b, c, e, s, rfl, hN, hb⟩
  have q0 := (show Blk _ w.heap.size #[.int .i64 lo.x, .int .i64 lo.y, .int .i64 lo.z, .int .i64 hi.x, .int .i64 hi.y, .int .i64 hi.z] 108 from (by repeat' (first | (with_reducible assumption) | (refine Blk.new ?_; (first | (simp; done) | rfl); done) | (with_reducible refine Blk.alloc ?_) | (with_reducible refine Blk.drew ?_) | (with_reducible refine Blk.drewN ?_)))).after hb
  have q1 := (show Blk _ (w.heap.size + 1) #[.int .i64 p.x, .int .i64 p.y, .int .i64 p.z] 27 from (by repeat' (first | (with_reducible assumption) | (refine Blk.new ?_; (first | (simp; done) | rfl); done) | (with_reducible refine Blk.alloc ?_) | (with_reducible refine Blk.drew ?_) | (with_reducible refine Blk.drewN ?_)))).after hb
  have q2 := (show Blk _ (w.heap.size + 1 + 1) #[.int .i64 d.x, .int .i64 d.y, .int .i64 d.z] 27 from (by repeat' (first | (with_reducible assumption) | (refine Blk.new ?_; (first | (simp; done) | rfl); done) | (with_reducible refine Blk.alloc ?_) | (with_reducible refine Blk.drew ?_) | (with_reducible refine Blk.drewN ?_)))).after hb
  have q3 := (show Blk _ (w.heap.size + 1 + 1 + 1) #[.int .i64 0, .int .i64 0] 166 from (by repeat' (first | (with_reducible assumption) | (refine Blk.new ?_; (first | (simp; done) | rfl); done) | (with_reducible refine Blk.alloc ?_) | (with_reducible refine Blk.drew ?_) | (with_reducible refine Blk.drewN ?_)))).after hb
  have hb1 : Below w.heap.size w w1 := bl (by go_grown) hb
  clear hb
  have HN : Hid (M.Nar (fun _ _ => True) (M.on1 p.x d.x lo.x hi.x) a b c e s) := hN
  clear hN
  obtain ⟨a0, a1, a2, a3, a4, a5, af, al⟩ := q0.six
  obtain ⟨b0, b1, b2, bf, bz⟩ := q1.three
  obtain ⟨c0, c1, c2, cf, cz⟩ := q2.three
  obtain ⟨e0, e1, ef, ez⟩ := q3.two
  cases s
  · go_wp2
    exact bodyPost_ret (v := .tuple #[.bool false, .agg #[.int .i64 0, .int .i64 0]]) (by simp [results, Tryz.results121, go_sem, *]) rfl (.mk (M.Ent.mk_no fun m k hk h0 hm x => HN.out.no rfl m k hk h0 hm ⟨trivial, x.1⟩) (by go_grown))
  obtain ⟨hS, hs⟩ := HN.out.yes rfl
  clear HN
  have HS : Hid (M.Sp (fun m k => True ∧ M.on1 p.x d.x lo.x hi.x m k) a b c e) := hS
  have a6 := hS.a0; have a7 := hS.a1; have a8 := hS.b1; have a9 := hS.b2
  clear hS
  go_wp2_with fail
  refine (narrow_any _ _ _ _ _ _ _ _ _ HS.out hs (by omega) (by omega) (by omega) (by omega) (by omega) (by omega) (by omega) (by omega)).mono ?_
  rintro r w2 ⟨a', b', c', e', s, rfl, hN, hb⟩
  clear a0 a1 a2 a3 a4 a5 af al b0 b1 b2 bf bz c0 c1 c2 cf cz e0 e1 ef ez
  have q4 := (show Blk (w1.alloc _) w1.heap.size #[.int .i64 a, .int .i64 b, .int .i64 c, .int .i64 e] 193 from Blk.new rfl).after hb
  have u0 : w1.heap.size ≠ w.heap.size := by have := q0.lt; omega
  have u1 : w1.heap.size ≠ w.heap.size + 1 := by have := q1.lt; omega
  have u2 : w1.heap.size ≠ w.heap.size + 1 + 1 := by have := q2.lt; omega
  have u3 : w1.heap.size ≠ w.heap.size + 1 + 1 + 1 := by have := q3.lt; omega
  have u4 : w.heap.size ≤ w1.heap.size := hb1.size
  replace q0 := q0.alloc.after hb
  replace q1 := q1.alloc.after hb
  replace q2 := q2.alloc.after hb
  replace q3 := q3.alloc.after hb
  have hb2 : Below w.heap.size w w2 := bl (by go_grown) hb
  clear hb hb1 HS hs a6 a7 a8 a9
  have HN : Hid (M.Nar (fun m k => True ∧ M.on1 p.x d.x lo.x hi.x m k) (M.on1 p.y d.y lo.y hi.y) a' b' c' e' s) := hN
  clear hN
  obtain ⟨a0, a1, a2, a3, a4, a5, af, al⟩ := q0.six
  obtain ⟨b0, b1, b2, bf, bz⟩ := q1.three
  obtain ⟨c0, c1, c2, cf, cz⟩ := q2.three
  obtain ⟨e0, e1, ef, ez⟩ := q3.two
  obtain ⟨g0, g1, g2, g3, gf, gz⟩ := q4.four
  cases s
  · go_wp2
    exact bodyPost_ret (v := .tuple #[.bool false, .agg #[.int .i64 0, .int .i64 0]]) (by simp [results, Tryz.results121, go_sem, *]) rfl (.mk (M.Ent.mk_no fun m k hk h0 hm x => HN.out.no rfl m k hk h0 hm ⟨⟨trivial, x.1⟩, x.2.1⟩) (by go_grown))
  obtain ⟨hS, hs⟩ := HN.out.yes rfl
  clear HN
  have HS : Hid (M.Sp (fun m k => (True ∧ M.on1 p.x d.x lo.x hi.x m k) ∧ M.on1 p.y d.y lo.y hi.y m k) a' b' c' e') := hS
  have a6 := hS.a0; have a7 := hS.a1; have a8 := hS.b1; have a9 := hS.b2
  clear hS
  go_wp2_with fail
  refine (narrow_any _ _ _ _ _ _ _ _ _ HS.out hs (by omega) (by omega) (by omega) (by omega) (by omega) (by omega) (by omega) (by omega)).mono ?_
  rintro r w3 ⟨a'', b'', c'', e'', s, rfl, hN, hb⟩
  clear a0 a1 a2 a3 a4 a5 af al b0 b1 b2 bf bz c0 c1 c2 cf cz e0 e1 ef ez
  clear g0 g1 g2 g3 gf gz
  replace q3 := ((((q3.other (c := w1.heap.size) 0 (.int .i64 a') (by omega)).other (c := w1.heap.size) 1 (.int .i64 b') (by omega)).other (c := w1.heap.size) 2 (.int .i64 c') (by omega)).other (c := w1.heap.size) 3 (.int .i64 e') (by omega)).after hb
  replace q4 : Blk w3 w1.heap.size #[.int .i64 a', .int .i64 b', .int .i64 c', .int .i64 e'] 193 := ((((q4.set 0 (.int .i64 a')).set 1 (.int .i64 b')).set 2 (.int .i64 c')).set 3 (.int .i64 e')).after hb
  have hb3 : Below w.heap.size w w3 := bl (by go_grown) hb
  clear hb hb2 HS hs a6 a7 a8 a9 q0 q1 q2
  have HN : Hid (M.Nar (fun m k => (True ∧ M.on1 p.x d.x lo.x hi.x m k) ∧ M.on1 p.y d.y lo.y hi.y m k) (M.on1 p.z d.z lo.z hi.z) a'' b'' c'' e'' s) := hN
  clear hN
  obtain ⟨e0, e1, ef, ez⟩ := q3.two
  obtain ⟨g0, g1, g2, g3, gf, gz⟩ := q4.four
  cases s
  · go_wp2
    exact bodyPost_ret (v := .tuple #[.bool false, .agg #[.int .i64 0, .int .i64 0]]) (by simp [results, Tryz.results121, go_sem, *]) rfl (.mk (M.Ent.mk_no fun m k hk h0 hm x => HN.out.no rfl m k hk h0 hm ⟨⟨⟨trivial, x.1⟩, x.2.1⟩, x.2.2⟩) (by go_grown))
  obtain ⟨hS, hs⟩ := HN.out.yes rfl
  clear HN
  have a6 := hS.a0; have a7 := hS.a1; have a8 := hS.b1; have a9 := hS.b2
  have HS : Hid (M.Ent p d lo hi true (a'' / Int.gcd a'' b'') (b'' / Int.gcd a'' b'')) := M.Ent.mk_yes hS (fun m k => by unfold M.lies; exact ⟨fun x => ⟨x.1.1.2, x.1.2, x.2⟩, fun x => ⟨⟨⟨trivial, x.1⟩, x.2.1⟩, x.2.2⟩⟩) hs rfl rfl
  clear hS hs
  go_wp2_with fail
  refine (lowest_any _ _ _ a6 a7 a8 a9).mono ?_
  rintro r w4 ⟨rfl, hb⟩
  have hb4 : Below w.heap.size w w4 := bl (by go_grown) hb
  replace q3 := ((((q3.other (c := w1.heap.size) 0 (.int .i64 a'') (by omega)).other (c := w1.heap.size) 1 (.int .i64 b'') (by omega)).other (c := w1.heap.size) 2 (.int .i64 c'') (by omega)).other (c := w1.heap.size) 3 (.int .i64 e'') (by omega)).after hb
  clear e0 e1 ef ez g0 g1 g2 g3 gf gz hb hb3
  obtain ⟨e0, e1, ef, ez⟩ := q3.two
  generalize a'' / Int.gcd a'' b'' = n at *
  generalize b'' / Int.gcd a'' b'' = k at *
  go_wp2
  exact bodyPost_ret (v := .tuple #[.bool true, .agg #[.int .i64 n, .int .i64 k]]) (by simp [results, Tryz.results121, go_sem, *]) rfl (.mk HS.out (by go_grown))

end Go.Proofs.YtonmihojfcjmjaaGreat
