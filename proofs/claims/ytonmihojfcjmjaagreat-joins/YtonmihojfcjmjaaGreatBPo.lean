import Derived.Test.YtonmihojfcjmjaaGreatBM
import Derived.Test.YtonmihojfcjmjaaGreatBBz
import Derived.StillTailTactics
import Derived.Deep.LoopGhost
/- Contracts of package past: timeOf, blend, between. -/
namespace Go.Proofs.YtonmihojfcjmjaaGreat
open Go.RowKit
set_option linter.unusedVariables false
attribute [local go_sem] cell_set_off cell_set_blk

set_option maxHeartbeats 400000 in
theorem timeOf_any (a : M.Rec) (w : World) (h1 : 0 ≤ a.tick) (h2 : a.tick ≤ 3000) : Calls Tryz.prog 129 #[.agg #[.int .i64 a.tick, .int .i64 a.pos.x, .int .i64 a.pos.y, .int .i64 a.pos.z]] w fun e w' => e = .returned (.int .i64 (256 * a.tick)) ∧ Below w.heap.size w w' := by
  go_enter Tryz.func129, Tryz.ntmps129
  go_wp2
  go_ret
  exact ⟨rfl, by go_grown⟩

set_option maxHeartbeats 1000000 in
theorem blend_any (a b g l : Int) (w : World) (a1 : 0 ≤ a) (a2 : a ≤ 4096) (b1 : 0 ≤ b) (b2 : b ≤ 4096) (g1 : 0 ≤ g) (g2 : g ≤ 16777216) (l1 : 0 ≤ l) (l2 : l ≤ 16777216) (h : 0 < g + l) (r : Int) (hr : Hid (M.blend a b g l = r)) :
    Calls Tryz.prog 132 #[.int .i64 a, .int .i64 b, .int .i64 g, .int .i64 l] w fun e w' => e = .returned (.int .i64 r) ∧ w' = w := by
  have p1 := M.mul_bd a1 a2 l1 l2
  have p2 := M.mul_bd b1 b2 g1 g2
  have e1 : wrap64 (a * l) = a * l := IntWalk.wrap64_in _ (by omega)
  have e2 : wrap64 (b * g) = b * g := IntWalk.wrap64_in _ (by omega)
  have e3 : wrap64 (a * l + b * g) = a * l + b * g := IntWalk.wrap64_in _ (by omega)
  have e4 : wrap64 (g + l) = g + l := IntWalk.wrap64_in _ (by omega)
  have s0 : 0 ≤ a * l + b * g := by omega
  have hb := M.blend_bd a1 a2 b1 b2 g1 l1 h
  have r1 : 0 ≤ r ∧ r ≤ 4096 := by rw [← hr.out]; exact hb
  have e6 : (a * l + b * g).tdiv (g + l) = r := by
    rw [Int.tdiv_eq_ediv_of_nonneg s0, ← hr.out]; rfl
  have e7 : (a * l + b * g) / (g + l) = r := hr.out
  have d1 : decide (g + l < 1) = false := by simp; omega
  have n0 : g + l ≠ 0 := by omega
  clear a1 a2 b1 b2 p1 p2 hb s0
  go_enter Tryz.func132, Tryz.ntmps132
  go_wp2
  go_ret
  exact ⟨rfl, rfl⟩

theorem still_tail3 {P : Program} {id : Nat} {Q : Exit → Act → World → Prop} {a : Act} {w : World} {l : List Oper} (n : Nat) (hm : P.follows .mixedOrders = true) (hB : Region.lexTailB .any l.toArray n = true)
    (h : wpStill P l.toArray w.drew (fun a' => wpList P l.toArray Q (l.drop n) a' w.drew) (l.take n) a) : (Code.region id l.toArray true).wp P Q a w := wp_region_still_tail n hm hB h

theorem Blk.set3 {W : World} {b : Nat} {x0 x1 x2 : Value} {t : TypeId} (h : Blk W b #[x0, x1, x2] t) (y0 y1 y2 : Value) : Blk (((W.setCell ⟨b, 0, none⟩ y0).setCell ⟨b, 1, none⟩ y1).setCell ⟨b, 2, none⟩ y2) b #[y0, y1, y2] t := by
  have e := ((h.set 0 y0).set 1 y1).set 2 y2
  simp only [List.setIfInBounds_toArray, List.set_cons_succ, List.set_cons_zero] at e
  exact e

set_option maxRecDepth 100000 in
set_option maxHeartbeats 2000000 in
theorem between_any (a b : M.Rec) (t : Int) (w : World) (ha : M.Cube a.pos) (hb : M.Cube b.pos) (a1 : 0 ≤ a.tick) (a2 : a.tick ≤ 3000) (b1 : 0 ≤ b.tick) (b2 : b.tick ≤ 3000) (t1 : 256 * a.tick ≤ t) (t2 : t < 256 * b.tick) (q : M.V3) (hq : Hid (M.mid a b t = q)) :
    Calls Tryz.prog 130 #[.agg #[.int .i64 a.tick, .int .i64 a.pos.x, .int .i64 a.pos.y, .int .i64 a.pos.z], .agg #[.int .i64 b.tick, .int .i64 b.pos.x, .int .i64 b.pos.y, .int .i64 b.pos.z], .int .i64 t] w fun e w' => e = .returned (.agg #[.int .i64 q.x, .int .i64 q.y, .int .i64 q.z]) ∧ Below w.heap.size w w' := by
  obtain ⟨ax1, ax2, ay1, ay2, az1, az2⟩ := ha
  obtain ⟨bx1, bx2, by1, by2, bz1, bz2⟩ := hb
  obtain ⟨g, hg⟩ : ∃ g, t - 256 * a.tick = g := ⟨_, rfl⟩
  obtain ⟨l, hl⟩ : ∃ l, 256 * b.tick - t = l := ⟨_, rfl⟩
  have Ex : Hid (M.blend a.pos.x b.pos.x g l = q.x) := by unfold Hid; rw [← hq.out, ← hg, ← hl]; rfl
  have Ey : Hid (M.blend a.pos.y b.pos.y g l = q.y) := by unfold Hid; rw [← hq.out, ← hg, ← hl]; rfl
  have Ez : Hid (M.blend a.pos.z b.pos.z g l = q.z) := by unfold Hid; rw [← hq.out, ← hg, ← hl]; rfl
  have Hg : Hid (t - 256 * a.tick = g) := hg
  have Hl : Hid (256 * b.tick - t = l) := hl
  have g1 : 0 ≤ g := by omega
  have g2 : g ≤ 16777216 := by omega
  have l1 : 0 ≤ l := by omega
  have l2 : l ≤ 16777216 := by omega
  have gl : 0 < g + l := by omega
  clear hg hl hq
  go_enter Tryz.func130, Tryz.ntmps130
  go_wp2_with fail
  refine (timeOf_any a _ a1 a2).mono ?_
  rintro e w1 ⟨rfl, hb⟩
  have q0 := (show Blk _ w.heap.size #[.int .i64 a.tick, .int .i64 a.pos.x, .int .i64 a.pos.y, .int .i64 a.pos.z] 53 from (by repeat' (first | (with_reducible assumption) | (refine Blk.new ?_; (first | (simp; done) | rfl); done) | (with_reducible refine Blk.alloc ?_) | (with_reducible refine Blk.drew ?_) | (with_reducible refine Blk.drewN ?_)))).after hb
  have q1 := (show Blk _ (w.heap.size + 1) #[.int .i64 b.tick, .int .i64 b.pos.x, .int .i64 b.pos.y, .int .i64 b.pos.z] 53 from (by repeat' (first | (with_reducible assumption) | (refine Blk.new ?_; (first | (simp; done) | rfl); done) | (with_reducible refine Blk.alloc ?_) | (with_reducible refine Blk.drew ?_) | (with_reducible refine Blk.drewN ?_)))).after hb
  have q2 := (show Blk _ (w.heap.size + 1 + 1) #[.int .i64 0, .int .i64 0, .int .i64 0] 27 from (by repeat' (first | (with_reducible assumption) | (refine Blk.new ?_; (first | (simp; done) | rfl); done) | (with_reducible refine Blk.alloc ?_) | (with_reducible refine Blk.drew ?_) | (with_reducible refine Blk.drewN ?_)))).after hb
  have hb1 : Below w.heap.size w w1 := bl (by go_grown) hb
  clear hb
  obtain ⟨c0, c1, c2, c3, cf, cz⟩ := q1.four
  go_wp2_with fail
  refine (timeOf_any b _ b1 b2).mono ?_
  rintro e w2 ⟨rfl, hb⟩
  replace q0 := q0.after hb
  replace q1 := q1.after hb
  replace q2 := q2.after hb
  have hb2 : Below w.heap.size w w2 := bl (by go_grown) hb
  clear hb c0 c1 c2 c3 cf cz hb1
  obtain ⟨a0, a1, a2, a3, af, az⟩ := q0.four
  obtain ⟨c0, c1, c2, c3, cf, cz⟩ := q1.four
  obtain ⟨d0, d1, d2, df, dz⟩ := q2.three
  go_wp2_with fail
  rw [Hg.out, Hl.out]
  refine still_tail3 28 (by kernel_rfl) (by kernel_rfl) ?_
  simp only [List.take_succ_cons, List.take_zero, List.drop_succ_cons, List.drop_zero]
  iterate 8 still_step
  still_call (blend_any a.pos.x b.pos.x g l _ ax1 ax2 bx1 bx2 g1 g2 l1 l2 gl q.x Ex)
  iterate 8 still_step
  still_call (blend_any a.pos.y b.pos.y g l _ ay1 ay2 by1 by2 g1 g2 l1 l2 gl q.y Ey)
  iterate 8 still_step
  still_call (blend_any a.pos.z b.pos.z g l _ az1 az2 bz1 bz2 g1 g2 l1 l2 gl q.z Ez)
  still_step
  refine wpStill_nil ?_
  go_wp2
  exact bodyPost_ret (v := .agg #[.int .i64 q.x, .int .i64 q.y, .int .i64 q.z]) (by simp [results, Tryz.results130, go_sem, d0, d1, d2]) rfl ⟨rfl, by go_grown⟩
end Go.Proofs.YtonmihojfcjmjaaGreat

/- Contracts of package past: Pose. -/
namespace Go.Proofs.YtonmihojfcjmjaaGreat
open Go.RowKit
set_option linter.unusedVariables false
attribute [local go_sem] cell_set_off cell_set_blk

/-- From ⟨b, off⟩ on lie the records rs. -/
structure RR (W : World) (b off : Nat) (rs : List M.Rec) : Prop where
  c0 : ∀ i r, rs[i]? = some r → W.cell? ⟨b, off + i * 4, none⟩ = some (.int .i64 r.tick)
  c1 : ∀ i r, rs[i]? = some r → W.cell? ⟨b, off + i * 4 + 1, none⟩ = some (.int .i64 r.pos.x)
  c2 : ∀ i r, rs[i]? = some r → W.cell? ⟨b, off + i * 4 + 2, none⟩ = some (.int .i64 r.pos.y)
  c3 : ∀ i r, rs[i]? = some r → W.cell? ⟨b, off + i * 4 + 3, none⟩ = some (.int .i64 r.pos.z)
  lt : b < W.heap.size

theorem RR.of {W W' : World} {b off : Nat} {rs : List M.Rec} (h : RR W b off rs) (e : W'.heap[b]? = W.heap[b]?) (hl : b < W'.heap.size) : RR W' b off rs :=
  ⟨fun i r hi => (World.cell?_of_block (a := ⟨b, _, none⟩) e).trans (h.c0 i r hi), fun i r hi => (World.cell?_of_block (a := ⟨b, _, none⟩) e).trans (h.c1 i r hi), fun i r hi => (World.cell?_of_block (a := ⟨b, _, none⟩) e).trans (h.c2 i r hi), fun i r hi => (World.cell?_of_block (a := ⟨b, _, none⟩) e).trans (h.c3 i r hi), hl⟩
theorem RR.after {W W' : World} {B b off : Nat} {rs : List M.Rec} (h : RR W b off rs) (hb : Below B W W') (hB : b < B) : RR W' b off rs := h.of (hb.block b hB) (by have := hb.size; have := h.lt; omega)

theorem Blk.set4 {W : World} {b : Nat} {x0 x1 x2 x3 : Value} {t : TypeId} (h : Blk W b #[x0, x1, x2, x3] t) (y0 y1 y2 y3 : Value) : Blk ((((W.setCell ⟨b, 0, none⟩ y0).setCell ⟨b, 1, none⟩ y1).setCell ⟨b, 2, none⟩ y2).setCell ⟨b, 3, none⟩ y3) b #[y0, y1, y2, y3] t := by
  have e := (((h.set 0 y0).set 1 y1).set 2 y2).set 3 y3
  simp only [List.setIfInBounds_toArray, List.set_cons_succ, List.set_cons_zero] at e
  exact e

theorem drop_rec {rs : List M.Rec} {k : Nat} {r : M.Rec} (h : rs[k]? = some r) : rs.drop k = r :: rs.drop (k + 1) := by
  obtain ⟨h1, h2⟩ := List.getElem?_eq_some_iff.1 h
  rw [← h2]
  exact List.drop_eq_getElem_cons h1

theorem pose_first {rs : List M.Rec} {r : M.Rec} {t : Int} (h : rs[0]? = some r) : M.pose t rs = if t ≤ 256 * r.tick then r.pos else M.poseF r t rs := by
  cases rs with
  | nil => cases h
  | cons x rs => simp at h; subst h; rfl

set_option maxRecDepth 100000 in
set_option maxHeartbeats 4000000 in
theorem pastPose_any (b off cap : Nat) (rs : List M.Rec) (t : Int) (w : World) (hR : RR w b off rs) (hn : 0 < rs.length) (hl : rs.length ≤ 17) (hok : ∀ r ∈ rs, M.Ok r) (t0 : 0 ≤ t) (t1 : t ≤ 16777215) (q : M.V3) (hq : Hid (M.pose t rs = q)) :
    Calls Tryz.prog 122 #[.slice (some ⟨b, off, none⟩) rs.length cap, .int .i64 t] w fun e w' => e = .returned (.agg #[.int .i64 q.x, .int .i64 q.y, .int .i64 q.z]) ∧ Below w.heap.size w w' := by
  obtain ⟨r0, h0⟩ : ∃ r, rs[0]? = some r := ⟨rs[0], List.getElem?_eq_getElem hn⟩
  have HK : Hid (∀ r ∈ rs, M.Ok r) := hok
  have k0 : M.Ok r0 := hok r0 (List.mem_of_getElem? h0)
  have HR : Hid (RR w b off rs) := hR
  have H0 : Hid (rs[0]? = some r0) := h0
  have c0 := hR.c0 0 r0 h0
  have c1 := hR.c1 0 r0 h0
  have c2 := hR.c2 0 r0 h0
  have c3 := hR.c3 0 r0 h0
  simp only [Nat.zero_mul, Nat.add_zero] at c0 c1 c2 c3
  have n1 : (0 : Int) < (rs.length : Int) := by omega
  have n2 : (rs.length : Int) ≤ 17 := by omega
  have hbl : b < w.heap.size := hR.lt
  obtain ⟨k1, k2, k3⟩ := k0
  clear hR h0 hok
  have z0 : ((rs.length : Int) == 0) = false := beq_eq_false_iff_ne.2 (by omega)
  go_enter Tryz.func122, Tryz.ntmps122
  go_wp2_with fail
  refine (timeOf_any r0 _ k1 k2).mono ?_
  rintro e w1 ⟨rfl, hb⟩
  have q0 := (show Blk _ w.heap.size #[.int .i64 0, .int .i64 0, .int .i64 0] 27 from (by repeat' (first | (with_reducible assumption) | (refine Blk.new ?_; (first | (simp; done) | rfl); done) | (with_reducible refine Blk.alloc ?_) | (with_reducible refine Blk.drew ?_) | (with_reducible refine Blk.drewN ?_)))).after hb
  have q1 := (show Blk _ (w.heap.size + 1) #[.int .i64 r0.tick, .int .i64 r0.pos.x, .int .i64 r0.pos.y, .int .i64 r0.pos.z] 53 from (by repeat' (first | (with_reducible assumption) | (refine Blk.new ?_; (first | (simp; done) | rfl); done) | (with_reducible refine Blk.alloc ?_) | (with_reducible refine Blk.drew ?_) | (with_reducible refine Blk.drewN ?_)))).after hb
  have hb1 : Below w.heap.size w w1 := bl (by go_grown) hb
  clear hb c0 c1 c2 c3
  obtain ⟨d0, d1, d2, df, dz⟩ := q0.three
  obtain ⟨a0, a1, a2, a3, af, az⟩ := q1.four
  by_cases ht : t ≤ 256 * r0.tick
  · obtain rfl : r0.pos = q := by rw [← hq.out, pose_first H0.out, if_pos ht]
    clear hq
    go_wp2
    exact bodyPost_ret (v := .agg #[.int .i64 r0.pos.x, .int .i64 r0.pos.y, .int .i64 r0.pos.z]) (by simp [results, Tryz.results122, go_sem, d0, d1, d2]) rfl ⟨rfl, by go_grown⟩
  · have HP : Hid (M.poseF r0 t (rs.drop 0) = q) := by unfold Hid; rw [← hq.out, pose_first H0.out, if_neg ht]; rfl
    have hz1 : w.heap.size + 1 < w1.heap.size := az
    have B1 : Hid (Below w.heap.size w w1) := hb1
    have HR1 : Hid (RR w1 b off rs) := HR.out.after hb1 hbl
    clear hq hb1 a0 a1 a2 a3 af az d0 d1 d2 df dz
    go_wp2_with fail
    go_loopg [23] (rs.length + 1) (fun k u23 wr => ∃ (j : Nat) (e : M.Rec), u23 = .int .i64 j ∧ j ≤ rs.length ∧ k + j = rs.length + 1 ∧ M.Ok e ∧ 256 * e.tick ≤ t ∧ Hid (M.poseF e t (rs.drop j) = q) ∧ Blk wr w.heap.size #[.int .i64 0, .int .i64 0, .int .i64 0] 27 ∧ Blk wr (w.heap.size + 1) #[.int .i64 e.tick, .int .i64 e.pos.x, .int .i64 e.pos.y, .int .i64 e.pos.z] 53 ∧ Below w.heap.size w wr)
    case atStart => exact ⟨0, r0, rfl, Nat.zero_le _, by omega, ⟨k1, k2, k3⟩, by omega, HP, q0, q1, B1.out⟩
    case round =>
      clear q0 q1
      obtain ⟨j, e, rfl, hj, hk, ⟨o1, o2, o3⟩, ht2, hP, q0, q1, hB⟩ := hrel
      obtain ⟨d0, d1, d2, df, dz⟩ := q0.three
      obtain ⟨a0, a1, a2, a3, af, az⟩ := q1.four
      by_cases hlt : j < rs.length
      · obtain ⟨r, hr⟩ : ∃ r, rs[j]? = some r := ⟨rs[j], List.getElem?_eq_getElem hlt⟩
        have hRR := HR.out.after hB hbl
        have c0 := hRR.c0 j r hr
        have c1 := hRR.c1 j r hr
        have c2 := hRR.c2 j r hr
        have c3 := hRR.c3 j r hr
        obtain ⟨p1, p2, p3⟩ := HK.out r (List.mem_of_getElem? hr)
        have hP2 : Hid (M.poseF e t (r :: rs.drop (j + 1)) = q) := by unfold Hid; rw [← drop_rec hr]; exact hP.out
        have hbw : b < wr.heap.size := hRR.lt
        clear hRR hr hP
        have j0 : (0 : Int) ≤ (j : Int) := by omega
        have j1 : (j : Int) < (rs.length : Int) := by omega
        go_wp2_with fail
        refine (timeOf_any r _ p1 p2).mono ?_
        rintro x w2 ⟨rfl, hb⟩
        have q2 := (show Blk (wr.alloc _) wr.heap.size #[.int .i64 r.tick, .int .i64 r.pos.x, .int .i64 r.pos.y, .int .i64 r.pos.z] 53 from Blk.new rfl).after hb
        have hz2 : w.heap.size + 1 < wr.heap.size := az
        replace q0 := q0.alloc.after hb
        replace q1 := q1.alloc.after hb
        have hb2 : Below w.heap.size w w2 := bl (by go_grown) hb
        clear hb c0 c1 c2 c3 d0 d1 d2 df dz a0 a1 a2 a3 af az hB
        obtain ⟨d0, d1, d2, df, dz⟩ := q0.three
        obtain ⟨a0, a1, a2, a3, af, az⟩ := q1.four
        obtain ⟨e0, e1, e2, e3, ef, ez⟩ := q2.four
        by_cases h2 : t < 256 * r.tick
        · have E : Hid (M.mid e r t = q) := by have := hP2.out; unfold M.poseF at this; rw [if_pos h2] at this; exact this
          clear hP2
          go_wp2_with fail
          refine (between_any e r t _ o3 p3 o1 o2 p1 p2 ht2 h2 q E).mono ?_
          rintro x w3 ⟨rfl, hb⟩
          replace q0 := q0.after hb
          have hb3 : Below w.heap.size w w3 := bl (by go_grown) hb
          clear hb a0 a1 a2 a3 af az e0 e1 e2 e3 ef ez d0 d1 d2 df dz hb2
          obtain ⟨d0, d1, d2, df, dz⟩ := q0.three
          go_wp2
          exact bodyPost_ret (v := .agg #[.int .i64 q.x, .int .i64 q.y, .int .i64 q.z]) (by simp [results, Tryz.results122, go_sem, d0, d1, d2]) rfl ⟨rfl, by go_grown⟩
        · have E : Hid (M.poseF r t (rs.drop (j + 1)) = q) := by have := hP2.out; unfold M.poseF at this; rw [if_neg h2] at this; exact this
          clear hP2
          go_wp2
          go_roundg (gk - 1)
          case measure => omega
          case rel =>
            exact ⟨j + 1, r, by go_num, hlt, by omega, ⟨p1, p2, p3⟩, by omega, E, (((q0.other 0 _ (by omega)).other 1 _ (by omega)).other 2 _ (by omega)).other 3 _ (by omega), q1.set4 _ _ _ _, by go_grown⟩
      · obtain rfl : e.pos = q := by have := hP.out; rw [List.drop_of_length_le (by omega)] at this; exact this
        have j1 : ¬ (j : Int) < (rs.length : Int) := by omega
        clear hP HP
        go_wp2
        exact bodyPost_ret (v := .agg #[.int .i64 e.pos.x, .int .i64 e.pos.y, .int .i64 e.pos.z]) (by simp [results, Tryz.results122, go_sem, d0, d1, d2]) rfl ⟨rfl, by go_grown⟩
end Go.Proofs.YtonmihojfcjmjaaGreat
