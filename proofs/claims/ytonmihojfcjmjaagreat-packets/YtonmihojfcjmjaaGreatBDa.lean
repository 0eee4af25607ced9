import Derived.Test.YtonmihojfcjmjaaGreatBPo
import Derived.Test.YtonmihojfcjmjaaGreatBSa
import Derived.Test.YtonmihojfcjmjaaGreatTr2
import Derived.Test.YtonmihojfcjmjaaGreatBM
import Derived.Test.YtonmihojfcjmjaaGreatBGb
/- Contracts of the document's poses: between, pose. -/
namespace Go.Proofs.YtonmihojfcjmjaaGreat
open Go.RowKit
set_option linter.unusedVariables false
attribute [local go_sem] cell_set_off cell_set_blk

namespace M
/-- Where it stood, as the document asks it. -/
def poseD (p : V3) (t : Int) : List Rec → V3
  | [] => p
  | [r] => if t < 256 * r.tick then p else r.pos
  | r :: s :: rs => if t < 256 * r.tick then p else if t < 256 * s.tick then mid r s t else poseD r.pos t (s :: rs)
theorem poseD_early {p : V3} {t : Int} {r : Rec} {rs : List Rec} (h : t < 256 * r.tick) : poseD p t (r :: rs) = p := by
  cases rs <;> (unfold poseD; rw [if_pos h])
theorem poseD_last {p : V3} {t : Int} {r : Rec} (h : ¬ t < 256 * r.tick) : poseD p t [r] = r.pos := by unfold poseD; rw [if_neg h]
theorem poseD_mid {p : V3} {t : Int} {r s : Rec} {rs : List Rec} (h : ¬ t < 256 * r.tick) (h2 : t < 256 * s.tick) : poseD p t (r :: s :: rs) = mid r s t := by
  show (if t < 256 * r.tick then p else if t < 256 * s.tick then mid r s t else poseD r.pos t (s :: rs)) = _
  rw [if_neg h, if_pos h2]
theorem poseD_next {p : V3} {t : Int} {r s : Rec} {rs : List Rec} (h : ¬ t < 256 * r.tick) (h2 : ¬ t < 256 * s.tick) : poseD p t (r :: s :: rs) = poseD r.pos t (s :: rs) := by
  show (if t < 256 * r.tick then p else if t < 256 * s.tick then mid r s t else poseD r.pos t (s :: rs)) = _
  rw [if_neg h, if_neg h2]
theorem poseD_F {t : Int} : ∀ (rs : List Rec) (r : Rec) (p : V3), ¬ t < 256 * r.tick → poseD p t (r :: rs) = poseF r t rs
  | [], r, p, h => poseD_last h
  | s :: rs, r, p, h => by
    by_cases h2 : t < 256 * s.tick
    · rw [poseD_mid h h2]; unfold poseF; rw [if_pos h2]
    · rw [poseD_next h h2, poseD_F rs s r.pos h2]
      show _ = if t < 256 * s.tick then mid r s t else poseF s t rs
      rw [if_neg h2]
/-- Both ways to ask it are one. -/
theorem poseD_is {t : Int} {r : Rec} {rs : List Rec} (hr : ∀ s, rs[0]? = some s → r.tick < s.tick) : poseD r.pos t (r :: rs) = pose t (r :: rs) := by
  show _ = if t ≤ 256 * r.tick then r.pos else poseF r t (r :: rs)
  by_cases h1 : t < 256 * r.tick
  · rw [poseD_early h1, if_pos (by omega)]
  · rw [poseD_F rs r _ h1]
    by_cases h2 : t ≤ 256 * r.tick
    · rw [if_pos h2]
      cases rs with
      | nil => rfl
      | cons s rs =>
        have := hr s rfl
        show (if t < 256 * s.tick then mid r s t else _) = _
        rw [if_pos (by omega), mid_first (by omega) this]
    · rw [if_neg h2]
      show _ = if t < 256 * r.tick then _ else poseF r t rs
      rw [if_neg h1]
end M

set_option maxHeartbeats 1000000 in
theorem rbetween_any (a b g v : Int) (w : World) (a1 : 0 ≤ a) (a2 : a ≤ 4096) (b1 : 0 ≤ b) (b2 : b ≤ 4096) (g1 : 0 ≤ g) (g2 : g ≤ v) (v1 : 0 < v) (v2 : v ≤ 16777216) (r : Int) (hr : Hid (M.blend a b g (v - g) = r)) :
    Calls Tryz.prog 118 #[.int .i64 a, .int .i64 b, .int .i64 g, .int .i64 v] w fun e w' => e = .returned (.int .i64 r) ∧ w' = w := by
  have p1 := M.mul_bd (b := v - g) (B := 16777216) a1 a2 (by omega) (by omega)
  have p2 := M.mul_bd (B := 16777216) b1 b2 g1 (by omega)
  have e1 : wrap64 (a * (v - g)) = a * (v - g) := IntWalk.wrap64_in _ (by omega)
  have e2 : wrap64 (b * g) = b * g := IntWalk.wrap64_in _ (by omega)
  have e3 : wrap64 (a * (v - g) + b * g) = a * (v - g) + b * g := IntWalk.wrap64_in _ (by omega)
  have s0 : 0 ≤ a * (v - g) + b * g := by omega
  have hb := M.blend_bd a1 a2 b1 b2 g1 (show 0 ≤ v - g by omega) (by omega)
  have r1 : 0 ≤ r ∧ r ≤ 4096 := by rw [← hr.out]; exact hb
  have e0 : g + (v - g) = v := by omega
  have e6 : (a * (v - g) + b * g).tdiv v = r := by
    rw [Int.tdiv_eq_ediv_of_nonneg s0, ← hr.out]; unfold M.blend; rw [e0]
  have e7 : (a * (v - g) + b * g) / v = r := by rw [← hr.out]; unfold M.blend; rw [e0]
  have n0 : v ≠ 0 := by omega
  clear a1 a2 b1 b2 p1 p2 hb s0 e0
  go_enter Tryz.func118, Tryz.ntmps118
  go_wp2
  go_ret
  exact ⟨rfl, rfl⟩

set_option maxRecDepth 100000 in
set_option maxHeartbeats 4000000 in
theorem rpose_any (b cap : Nat) (rs : List M.Rec) (t : Int) (w : World) (hR : RR w b 0 rs) (hn : 0 < rs.length) (hl : rs.length ≤ 24000) (hok : ∀ r ∈ rs, M.Ok r) (t0 : -4096 ≤ t) (t1 : t ≤ 16777215) (r0 : M.Rec) (h0 : rs[0]? = some r0) (q : M.V3) (hq : Hid (M.poseD r0.pos t rs = q)) :
    Calls Tryz.prog 104 #[.slice (some ⟨b, 0, none⟩) rs.length cap, .int .i64 t] w fun e w' => e = .returned (.agg #[.int .i64 q.x, .int .i64 q.y, .int .i64 q.z]) ∧ Below w.heap.size w w' := by
  have HK : Hid (∀ r ∈ rs, M.Ok r) := hok
  have HR : Hid (RR w b 0 rs) := hR
  have c0 := hR.c0 0 r0 h0
  have c1 := hR.c1 0 r0 h0
  have c2 := hR.c2 0 r0 h0
  have c3 := hR.c3 0 r0 h0
  simp only [Nat.zero_mul, Nat.add_zero, Nat.zero_add] at c0 c1 c2 c3
  have n1 : (0 : Int) < (rs.length : Int) := by omega
  have n2 : (rs.length : Int) ≤ 24000 := by omega
  have hbl : b < w.heap.size := hR.lt
  have HP : Hid (M.poseD r0.pos t (rs.drop 0) = q) := hq.out
  clear hR h0 hok hq
  go_enter Tryz.func104, Tryz.ntmps104
  go_wp2_with fail
  obtain ⟨V, hV⟩ : ∃ V, (w.alloc (.cells #[.int .i64 0, .int .i64 0, .int .i64 0] 27)).alloc (.cells #[.int .i64 r0.pos.x, .int .i64 r0.pos.y, .int .i64 r0.pos.z] 27) = V := ⟨_, rfl⟩
  have Q0 := hid (show Blk V w.heap.size #[.int .i64 0, .int .i64 0, .int .i64 0] 27 from by rw [← hV]; exact (by repeat' (first | (with_reducible assumption) | (refine Blk.new ?_; (first | (simp; done) | rfl); done) | (with_reducible refine Blk.alloc ?_) | (with_reducible refine Blk.drew ?_) | (with_reducible refine Blk.drewN ?_))))
  have Q1 := hid (show Blk V (w.heap.size + 1) #[.int .i64 r0.pos.x, .int .i64 r0.pos.y, .int .i64 r0.pos.z] 27 from by rw [← hV]; exact (by repeat' (first | (with_reducible assumption) | (refine Blk.new ?_; (first | (simp; done) | rfl); done) | (with_reducible refine Blk.alloc ?_) | (with_reducible refine Blk.drew ?_) | (with_reducible refine Blk.drewN ?_))))
  have B1 := hid (show Below w.heap.size w V from by rw [← hV]; go_grown)
  try rw [hV]
  clear hV c0 c1 c2 c3
  go_loopg [6, 7, 8, 9, 10, 11, 12] (rs.length + 1) (fun k u6 u7 u8 u9 u10 u11 u12 wr => ∃ (j : Nat) (e : M.V3), u6 = .int .i64 j ∧ j ≤ rs.length ∧ k + j = rs.length + 1 ∧ Hid (M.poseD e t (rs.drop j) = q) ∧ Hid (Blk wr w.heap.size #[.int .i64 0, .int .i64 0, .int .i64 0] 27) ∧ Hid (Blk wr (w.heap.size + 1) #[.int .i64 e.x, .int .i64 e.y, .int .i64 e.z] 27) ∧ Hid (Below w.heap.size w wr))
  case atStart => exact ⟨0, r0.pos, rfl, Nat.zero_le _, by omega, HP, Q0, Q1, B1⟩
  case round =>
    clear Q0 Q1 B1 HP
    obtain ⟨j, e, rfl, hj, hk, hP, q0, q1, hB⟩ := hrel
    have j0 : (0 : Int) ≤ (j : Int) := by omega
    by_cases hlt : j < rs.length
    · obtain ⟨r, hr⟩ : ∃ r, rs[j]? = some r := ⟨rs[j], List.getElem?_eq_getElem hlt⟩
      have hRR := HR.out.after hB.out hbl
      have c0 := hRR.c0 j r hr
      have c1 := hRR.c1 j r hr
      have c2 := hRR.c2 j r hr
      have c3 := hRR.c3 j r hr
      simp only [Nat.zero_add] at c0 c1 c2 c3
      obtain ⟨p1, p2, p3⟩ := HK.out r (List.mem_of_getElem? hr)
      have hP2 : Hid (M.poseD e t (r :: rs.drop (j + 1)) = q) := by unfold Hid; rw [← drop_rec hr]; exact hP.out
      have hbw : b < wr.heap.size := hRR.lt
      clear hr hP
      have j1 : (j : Int) < (rs.length : Int) := by omega
      obtain ⟨d0, d1, d2, df, dz⟩ := q0.out.three
      obtain ⟨a0, a1, a2, af, az⟩ := q1.out.three
      by_cases h2 : t < 256 * r.tick
      · obtain rfl : e = q := by rw [← hP2.out, M.poseD_early h2]
        clear hP2 c1 c2 c3
        go_wp2
        exact bodyPost_ret (v := .agg #[.int .i64 e.x, .int .i64 e.y, .int .i64 e.z]) (by simp [results, Tryz.results104, go_sem, d0, d1, d2]) rfl ⟨rfl, by have := hB.out; go_grown⟩
      · by_cases h3 : j + 1 < rs.length
        · obtain ⟨s, hs⟩ : ∃ s, rs[j + 1]? = some s := ⟨rs[j + 1], List.getElem?_eq_getElem h3⟩
          have s0 := hRR.c0 (j + 1) s hs
          have s1 := hRR.c1 (j + 1) s hs
          have s2 := hRR.c2 (j + 1) s hs
          have s3 := hRR.c3 (j + 1) s hs
          simp only [Nat.zero_add] at s0 s1 s2 s3
          obtain ⟨k1, k2, k3⟩ := HK.out s (List.mem_of_getElem? hs)
          have hP3 : Hid (M.poseD e t (r :: s :: rs.drop (j + 1 + 1)) = q) := by unfold Hid; rw [← drop_rec hs]; exact hP2.out
          have j3 : (j : Int) + 1 < (rs.length : Int) := by omega
          have nb : b ≠ w.heap.size + 1 := by omega
          have hs2 := hid hs
          clear hRR hs hP2
          by_cases h4 : t < 256 * s.tick
          · have E : Hid (M.mid r s t = q) := by unfold Hid; rw [← hP3.out, M.poseD_mid h2 h4]
            obtain ⟨T, hT⟩ : ∃ T, t - 256 * r.tick = T := ⟨_, rfl⟩
            obtain ⟨U, hU⟩ : ∃ U, 256 * s.tick - 256 * r.tick = U := ⟨_, rfl⟩
            have eU : 256 * s.tick - t = U - T := by omega
            have Ex : Hid (M.blend r.pos.x s.pos.x T (U - T) = q.x) := by unfold Hid; rw [← E.out]; unfold M.mid; rw [hT, eU]
            have Ey : Hid (M.blend r.pos.y s.pos.y T (U - T) = q.y) := by unfold Hid; rw [← E.out]; unfold M.mid; rw [hT, eU]
            have Ez : Hid (M.blend r.pos.z s.pos.z T (U - T) = q.z) := by unfold Hid; rw [← E.out]; unfold M.mid; rw [hT, eU]
            have T1 : 0 ≤ T := by omega
            have T2 : T ≤ U := by omega
            have U1 : 0 < U := by omega
            have U2 : U ≤ 16777216 := by omega
            obtain ⟨ax1, ax2, ay1, ay2, az1, az2⟩ := p3
            obtain ⟨bx1, bx2, by1, by2, bz1, bz2⟩ := k3
            clear eU
            clear hP3 E
            obtain ⟨V, hV⟩ : ∃ V, (((wr.setCell ⟨w.heap.size + 1, 0, none⟩ (.int .i64 r.pos.x)).setCell ⟨w.heap.size + 1, 1, none⟩ (.int .i64 r.pos.y)).setCell ⟨w.heap.size + 1, 2, none⟩ (.int .i64 r.pos.z)).alloc (.cells #[.int .i64 s.pos.x, .int .i64 s.pos.y, .int .i64 s.pos.z] 27) = V := ⟨_, rfl⟩
            have Q0 := hid (show Blk V w.heap.size #[.int .i64 0, .int .i64 0, .int .i64 0] 27 from by rw [← hV]; exact (((q0.out.other 0 _ (by omega)).other 1 _ (by omega)).other 2 _ (by omega)).alloc)
            have Q1 := hid (show Blk V (w.heap.size + 1) #[.int .i64 r.pos.x, .int .i64 r.pos.y, .int .i64 r.pos.z] 27 from by rw [← hV]; exact (q1.out.set3 _ _ _).alloc)
            have Q2 := hid (show Blk V wr.heap.size #[.int .i64 s.pos.x, .int .i64 s.pos.y, .int .i64 s.pos.z] 27 from by rw [← hV]; exact Blk.new (by simp))
            have BV := hid (show Below w.heap.size w V from by rw [← hV]; have := hB.out; go_grown)
            have v0 := (HR.out.after BV.out hbl).c0 (j + 1) s hs2.out
            simp only [Nat.zero_add] at v0
            clear hs2
            obtain ⟨m0, m1, m2, mf, mz⟩ := Q0.out.three
            obtain ⟨n0, n1, n2, nf, nz⟩ := Q1.out.three
            obtain ⟨e0, e1, e2, ef, ez⟩ := Q2.out.three
            go_wp2_with fail
            try rw [hV]
            clear hV v0 q0 q1 hB d0 d1 d2 df dz a0 a1 a2 af az c0 c1 c2 c3 s0 s1 s2 s3
            refine (rbetween_any r.pos.x s.pos.x T U _ ax1 ax2 bx1 bx2 T1 T2 U1 U2 q.x Ex).mono ?_
            rintro x w9 ⟨rfl, rfl⟩
            go_wp2_with fail
            refine (rbetween_any r.pos.y s.pos.y T U _ ay1 ay2 by1 by2 T1 T2 U1 U2 q.y Ey).mono ?_
            rintro x w9 ⟨rfl, rfl⟩
            go_wp2_with fail
            refine (rbetween_any r.pos.z s.pos.z T U _ az1 az2 bz1 bz2 T1 T2 U1 U2 q.z Ez).mono ?_
            rintro x w9 ⟨rfl, rfl⟩
            go_wp2
            exact bodyPost_ret (v := .agg #[.int .i64 q.x, .int .i64 q.y, .int .i64 q.z]) (by simp [results, Tryz.results104, go_sem, m0, m1, m2]) rfl ⟨rfl, by have := BV.out; go_grown⟩
          · have E : Hid (M.poseD r.pos t (rs.drop (j + 1)) = q) := by
              unfold Hid; rw [← hP3.out, M.poseD_next h2 h4, drop_rec hs2.out]
            clear hP3 hs2
            go_wp2
            go_roundg (gk - 1)
            case measure => omega
            case rel => exact ⟨j + 1, r.pos, by go_num, by omega, by omega, E, hid ((((q0.out.other 0 _ (by omega)).other 1 _ (by omega)).other 2 _ (by omega))), hid (q1.out.set3 _ _ _), hid (by have := hB.out; go_grown)⟩
        · have j3 : ¬ (j : Int) + 1 < (rs.length : Int) := by omega
          have ed : rs.drop (j + 1) = [] := List.drop_of_length_le (by omega)
          have E : Hid (M.poseD r.pos t (rs.drop (j + 1)) = q) := by
            have := hP2.out
            rw [ed, M.poseD_last h2] at this
            unfold Hid; rw [ed]; exact this
          clear hP2 ed hRR
          go_wp2
          go_roundg (gk - 1)
          case measure => omega
          case rel => exact ⟨j + 1, r.pos, by go_num, by omega, by omega, E, hid ((((q0.out.other 0 _ (by omega)).other 1 _ (by omega)).other 2 _ (by omega))), hid (q1.out.set3 _ _ _), hid (by have := hB.out; go_grown)⟩
    · have j1 : ¬ (j : Int) < (rs.length : Int) := by omega
      obtain rfl : e = q := by have := hP.out; rw [List.drop_of_length_le (by omega)] at this; exact this
      obtain ⟨d0, d1, d2, df, dz⟩ := q0.out.three
      obtain ⟨a0, a1, a2, af, az⟩ := q1.out.three
      clear hP
      go_wp2
      exact bodyPost_ret (v := .agg #[.int .i64 e.x, .int .i64 e.y, .int .i64 e.z]) (by simp [results, Tryz.results104, go_sem, d0, d1, d2]) rfl ⟨rfl, by have := hB.out; go_grown⟩

end Go.Proofs.YtonmihojfcjmjaaGreat

/- Contracts of the document's shots: box, struck. -/
namespace Go.Proofs.YtonmihojfcjmjaaGreat
open Go.RowKit
set_option linter.unusedVariables false
attribute [local go_sem] cell_set_off cell_set_blk

/-- In the cube. -/
theorem M.near_box {q : M.V3} (h : M.InB M.cubeLo M.cubeHi q) {a b c : Int} (a1 : -16 ≤ a) (a2 : a ≤ 16) (b1 : -16 ≤ b) (b2 : b ≤ 16) (c1 : -16 ≤ c) (c2 : c ≤ 16) : M.V3.Near ⟨q.x + a, q.y + b, q.z + c⟩ := by
  obtain ⟨h1, h2, h3, h4, h5, h6⟩ := h
  simp only [M.cubeLo, M.cubeHi] at h1 h2 h3 h4 h5 h6
  constructor <;> (simp only; omega)

set_option maxRecDepth 100000 in
set_option maxHeartbeats 2000000 in
theorem rbox_any (p d q : M.V3) (a b c : Int) (w : World) (hp : p.Near) (hd : d.Near) (hq : M.InB M.cubeLo M.cubeHi q) (a1 : -16 ≤ a) (a2 : a ≤ 16) (b1 : -16 ≤ b) (b2 : b ≤ 16) (c1 : -16 ≤ c) (c2 : c ≤ 16) (lo hi : M.V3) (hlo : Hid (lo = ⟨q.x - a, q.y - a, q.z + b⟩)) (hhi : Hid (hi = ⟨q.x + a, q.y + a, q.z + c⟩)) :
    Calls Tryz.prog 105 #[.agg #[.int .i64 p.x, .int .i64 p.y, .int .i64 p.z], .agg #[.int .i64 d.x, .int .i64 d.y, .int .i64 d.z], .agg #[.int .i64 q.x, .int .i64 q.y, .int .i64 q.z], .int .i64 a, .int .i64 b, .int .i64 c] w (REntPost p d lo hi w) := by
  have n1 : lo.Near := by
    rw [hlo.out, show (⟨q.x - a, q.y - a, q.z + b⟩ : M.V3) = ⟨q.x + -a, q.y + -a, q.z + b⟩ from rfl]
    exact M.near_box hq (by omega) (by omega) (by omega) (by omega) b1 b2
  have n2 : hi.Near := by rw [hhi.out]; exact M.near_box hq a1 a2 a1 a2 c1 c2
  have HP := hid hp
  have HD := hid hd
  have N1 := hid n1
  have N2 := hid n2
  obtain ⟨q1, q2, q3, q4, q5, q6⟩ := hq
  simp only [M.cubeLo, M.cubeHi] at q1 q2 q3 q4 q5 q6
  have e1 : lo.x = q.x - a := by rw [hlo.out]
  have e2 : lo.y = q.y - a := by rw [hlo.out]
  have e3 : lo.z = q.z + b := by rw [hlo.out]
  have e4 : hi.x = q.x + a := by rw [hhi.out]
  have e5 : hi.y = q.y + a := by rw [hhi.out]
  have e6 : hi.z = q.z + c := by rw [hhi.out]
  have H := hid (fun W => renter_any p d lo hi W HP.out HD.out N1.out N2.out)
  rw [e1, e2, e3, e4, e5, e6] at H
  clear hp hd n1 n2 e1 e2 e3 e4 e5 e6
  go_enter Tryz.func105, Tryz.ntmps105
  go_wp2_with fail
  refine (H.out _).mono ?_
  rintro rr w1 ⟨i, n, e, rfl, hE, hb⟩
  have HE := hid hE
  have HB := hid (bl (by go_grown) hb : Below w.heap.size w w1)
  clear hE hb H
  go_wp2
  go_ret3
  exact ⟨i, n, e, rfl, HE.out, HB.out⟩

def M.hitOf (i : Bool) (n e x : Int) : M.Hit := if i = true then some (n, e, x) else Option.none
theorem M.hit_ent {p d lo hi : M.V3} {i : Bool} {n e x : Int} (h : M.Ent p d lo hi i n e) : M.boxHit p d lo hi x = M.hitOf i n e x := by
  unfold M.boxHit M.hitOf
  rw [M.entO_is h.toG]
  cases i <;> rfl

/-- What struck gives back. -/
def StrPost (p d q : M.V3) (w : World) (r : Ending) (w' : World) : Prop := ∃ (i : Bool) (n e x : Int), r = .returned (.tuple #[.bool i, .int .i64 n, .int .i64 e, .int .i64 x]) ∧ M.hitAt p d q = M.hitOf i n e x ∧ (0 ≤ n ∧ n ≤ 1048576 ∧ 0 ≤ e ∧ e ≤ 1048576) ∧ (x = 25 ∨ x = 60) ∧ Below w.heap.size w w'
theorem M.ent_bd {p d lo hi : M.V3} {i : Bool} {n e : Int} (h : M.Ent p d lo hi i n e) : 0 ≤ n ∧ n ≤ 1048576 ∧ 0 ≤ e ∧ e ≤ 1048576 := by
  cases i
  · have := h.no rfl; omega
  · have := h.yes rfl; omega

set_option maxRecDepth 100000 in
set_option maxHeartbeats 4000000 in
theorem rstruck_any (p d q : M.V3) (w : World) (hp : p.Near) (hd : d.Near) (hq : M.InB M.cubeLo M.cubeHi q) :
    Calls Tryz.prog 84 #[.agg #[.int .i64 p.x, .int .i64 p.y, .int .i64 p.z], .agg #[.int .i64 d.x, .int .i64 d.y, .int .i64 d.z], .agg #[.int .i64 q.x, .int .i64 q.y, .int .i64 q.z]] w (StrPost p d q w) := by
  have H1 := hid (fun W => rbox_any p d q 8 (-16) 8 W hp hd hq (by omega) (by omega) (by omega) (by omega) (by omega) (by omega) (M.bodyLo q) (M.bodyHi q) (hid rfl) (hid rfl))
  have H2 := hid (fun W => rbox_any p d q 4 8 16 W hp hd hq (by omega) (by omega) (by omega) (by omega) (by omega) (by omega) (M.headLo q) (M.headHi q) (hid rfl) (hid rfl))
  clear hp hd hq
  go_enter Tryz.func84, Tryz.ntmps84
  go_wp2_with fail
  obtain ⟨V, hV⟩ : ∃ V, ((w.alloc (.cells #[.int .i64 p.x, .int .i64 p.y, .int .i64 p.z] 27)).alloc (.cells #[.int .i64 d.x, .int .i64 d.y, .int .i64 d.z] 27)).alloc (.cells #[.int .i64 q.x, .int .i64 q.y, .int .i64 q.z] 27) = V := ⟨_, rfl⟩
  have Q0 := hid (show Blk V w.heap.size #[.int .i64 p.x, .int .i64 p.y, .int .i64 p.z] 27 from by rw [← hV]; exact (by repeat' (first | (with_reducible assumption) | (refine Blk.new ?_; (first | (simp; done) | rfl); done) | (with_reducible refine Blk.alloc ?_) | (with_reducible refine Blk.drew ?_) | (with_reducible refine Blk.drewN ?_))))
  have Q1 := hid (show Blk V (w.heap.size + 1) #[.int .i64 d.x, .int .i64 d.y, .int .i64 d.z] 27 from by rw [← hV]; exact (by repeat' (first | (with_reducible assumption) | (refine Blk.new ?_; (first | (simp; done) | rfl); done) | (with_reducible refine Blk.alloc ?_) | (with_reducible refine Blk.drew ?_) | (with_reducible refine Blk.drewN ?_))))
  have Q2 := hid (show Blk V (w.heap.size + 1 + 1) #[.int .i64 q.x, .int .i64 q.y, .int .i64 q.z] 27 from by rw [← hV]; exact (by repeat' (first | (with_reducible assumption) | (refine Blk.new ?_; (first | (simp; done) | rfl); done) | (with_reducible refine Blk.alloc ?_) | (with_reducible refine Blk.drew ?_) | (with_reducible refine Blk.drewN ?_))))
  have B0 := hid (show Below w.heap.size w V from by rw [← hV]; go_grown)
  try rw [hV]
  clear hV
  refine (H1.out _).mono ?_
  rintro rr w1 ⟨i, n, e, rfl, hE, hb⟩
  have E1 := hid hE
  have bd1 := M.ent_bd hE
  obtain ⟨n0, n1, e0, e1⟩ := bd1
  have B1 := hid (bl B0.out hb)
  obtain ⟨x0, x1, x2, xf, xl⟩ := (Q0.out.after hb).three
  obtain ⟨y0, y1, y2, yf, yl⟩ := (Q1.out.after hb).three
  obtain ⟨z0, z1, z2, zf, zl⟩ := (Q2.out.after hb).three
  clear hE hb H1 B0 Q0 Q1 Q2
  go_wp2_with fail
  refine (H2.out _).mono ?_
  rintro rr w2 ⟨j, m, f, rfl, hE, hb⟩
  have E2 := hid hE
  have bd2 := M.ent_bd hE
  obtain ⟨m0, m1, f0, f1⟩ := bd2
  have B2 := hid (bl B1.out hb)
  clear hE hb H2 B1 x0 x1 x2 xf xl y0 y1 y2 yf yl z0 z1 z2 zf zl
  have HH := hid (show M.hitAt p d q = if M.Hit.ahead (M.hitOf i n e 25) (M.hitOf j m f 60) = true then M.hitOf i n e 25 else M.hitOf j m f 60 from by unfold M.hitAt; rw [M.hit_ent E1.out, M.hit_ent E2.out])
  have p1 := M.mul_bd m0 m1 e0 e1
  have p2 := M.mul_bd n0 n1 f0 f1
  have k1 : wrap64 (m * e) = m * e := IntWalk.wrap64_in _ (by omega)
  have k2 : wrap64 (n * f) = n * f := IntWalk.wrap64_in _ (by omega)
  clear p1 p2 E1 E2
  have nb := hid (show 0 ≤ n ∧ n ≤ 1048576 ∧ 0 ≤ e ∧ e ≤ 1048576 from ⟨n0, n1, e0, e1⟩)
  have mb := hid (show 0 ≤ m ∧ m ≤ 1048576 ∧ 0 ≤ f ∧ f ≤ 1048576 from ⟨m0, m1, f0, f1⟩)
  cases j
  · go_wp2
    refine bodyPost_ret (v := .tuple #[.bool i, .int .i64 n, .int .i64 e, .int .i64 25]) (by simp [results, Tryz.results84, go_sem]) rfl ⟨i, n, e, 25, rfl, ?_, nb.out, .inl rfl, B2.out⟩
    rw [HH.out]; cases i <;> rfl
  · cases i
    · go_wp2
      refine bodyPost_ret (v := .tuple #[.bool true, .int .i64 m, .int .i64 f, .int .i64 60]) (by simp [results, Tryz.results84, go_sem]) rfl ⟨true, m, f, 60, rfl, ?_, mb.out, .inr rfl, B2.out⟩
      rw [HH.out]; rfl
    · by_cases hx : m * e ≤ n * f
      · go_wp2
        refine bodyPost_ret (v := .tuple #[.bool true, .int .i64 m, .int .i64 f, .int .i64 60]) (by simp [results, Tryz.results84, go_sem]) rfl ⟨true, m, f, 60, rfl, ?_, mb.out, .inr rfl, B2.out⟩
        rw [HH.out, if_neg]
        show ¬ decide (n * f < m * e) = true
        simp; omega
      · go_wp2
        refine bodyPost_ret (v := .tuple #[.bool true, .int .i64 n, .int .i64 e, .int .i64 25]) (by simp [results, Tryz.results84, go_sem]) rfl ⟨true, n, e, 25, rfl, ?_, nb.out, .inl rfl, B2.out⟩
        rw [HH.out, if_pos]
        show decide (n * f < m * e) = true
        simp; omega

end Go.Proofs.YtonmihojfcjmjaaGreat

/- Contracts of the document's shots: stood. -/
namespace Go.Proofs.YtonmihojfcjmjaaGreat
open Go.RowKit
set_option linter.unusedVariables false
attribute [local go_sem] cell_set_off cell_set_blk

theorem flatMap_len {α : Type} {f : α → List Value} {k : Nat} (hf : ∀ x, (f x).length = k) : ∀ xs : List α, (xs.flatMap f).length = xs.length * k
  | [] => by simp
  | x :: xs => by rw [List.flatMap_cons, List.length_append, hf, flatMap_len hf xs, List.length_cons, Nat.succ_mul]; omega
theorem flatMap_at {α : Type} {f : α → List Value} {k : Nat} (hf : ∀ x, (f x).length = k) : ∀ (xs : List α) (i : Nat) (x : α) (j : Nat), xs[i]? = some x → j < k → (xs.flatMap f)[i * k + j]? = (f x)[j]?
  | [], i, x, j, h, hj => by simp at h
  | y :: xs, 0, x, j, h, hj => by
    have : y = x := by simpa using h
    subst this
    rw [List.flatMap_cons, List.getElem?_append_left (by rw [hf]; omega)]
    simp
  | y :: xs, i + 1, x, j, h, hj => by
    rw [List.flatMap_cons, List.getElem?_append_right (by rw [hf, Nat.succ_mul]; omega), hf]
    rw [show (i + 1) * k + j - k = i * k + j by rw [Nat.succ_mul]; omega]
    exact flatMap_at hf xs i x j (by simpa using h) hj
/-- An element of a row. -/
theorem own_at {α : Type} {f : α → List Value} {k : Nat} (hf : ∀ x, (f x).length = k) {W : World} {base e g n cap : Nat} {xs : List α} (h : W.ownsRow base e k (.slice (some ⟨g, 0, none⟩) n cap) n (xs.flatMap f)) {i : Nat} {x : α} (hi : xs[i]? = some x) {j : Nat} (hj : j < k) :
    W.cell? ⟨g, i * k + j, none⟩ = (f x)[j]? := by
  have hlt : i < xs.length := (List.getElem?_eq_some_iff.1 hi).1
  have hn : xs.length * k = n * k := by rw [← flatMap_len hf xs]; exact h.1
  have hn2 : xs.length = n := Nat.eq_of_mul_eq_mul_right (by omega) hn
  rcases h.2 with ⟨h0, _⟩ | ⟨g', cap', cur, hv, _, hh, hc1, hc2, hsz, ht⟩
  · cases h0
  · cases hv
    simp only [World.cell?, hh]
    have hb : i * k + j < n * k := by
      have : (i + 1) * k ≤ n * k := Nat.mul_le_mul_right k (by omega)
      rw [Nat.succ_mul] at this; omega
    have e1 : (cur.toList.take (n * k))[i * k + j]? = (xs.flatMap f)[i * k + j]? := by rw [ht]
    rw [List.getElem?_take_of_lt hb, flatMap_at hf xs i x j hi hj] at e1
    rw [← e1]
    simp
theorem own_shape {W : World} {base e k n : Nat} {v : Value} {xs : List Value} (h : W.ownsRow base e k v n xs) : (v = .slice none 0 0 ∧ n = 0) ∨ ∃ g cap, v = .slice (some ⟨g, 0, none⟩) n cap ∧ g < W.heap.size := by
  rcases h.2 with ⟨e1, e2⟩ | ⟨g, c, cur, e1, _, e3, _⟩
  · exact .inl ⟨e1, e2⟩
  · exact .inr ⟨g, c, e1, (Array.getElem?_eq_some_iff.1 e3).1⟩

/-- A record's cells; a track's. -/
def recCells (r : M.Rec) : List Value := [.int .i64 r.tick, .int .i64 r.pos.x, .int .i64 r.pos.y, .int .i64 r.pos.z]
def trkCells (t : M.Track) : List Value := [.int .i64 t.slot, .int .i64 t.gen, .int .i64 t.tick, .int .i64 t.pos.x, .int .i64 t.pos.y, .int .i64 t.pos.z]
def rrow (l : List M.Rec) : List Value := l.flatMap recCells
def trks (l : List M.Track) : List Value := l.flatMap trkCells
theorem rrow_snoc (l : List M.Rec) (r : M.Rec) : rrow (l ++ [r]) = rrow l ++ recCells r := by simp [rrow]
theorem trks_snoc (l : List M.Track) (r : M.Track) : trks (l ++ [r]) = trks l ++ trkCells r := by simp [trks]
theorem infoRec : (Tryz.prog.info? 53).map (fun i => (i.zero, i.size, i.bytes)) = some (some (.agg #[.int .i64 0, .int .i64 0, .int .i64 0, .int .i64 0]), 4, 32) := by kernel_rfl
theorem infoTrk : (Tryz.prog.info? 125).map (fun i => (i.zero, i.size, i.bytes)) = some (some (.agg #[.int .i64 0, .int .i64 0, .int .i64 0, .int .i64 0, .int .i64 0, .int .i64 0]), 6, 48) := by kernel_rfl
theorem trk6 {W : World} {base e g n cap : Nat} {l : List M.Track} (h : W.ownsRow base e 6 (.slice (some ⟨g, 0, none⟩) n cap) n (trks l)) {i : Nat} {t : M.Track} (hi : l[i]? = some t) :
    W.cell? ⟨g, i * 6, none⟩ = some (.int .i64 t.slot) ∧ W.cell? ⟨g, i * 6 + 1, none⟩ = some (.int .i64 t.gen) ∧ W.cell? ⟨g, i * 6 + 2, none⟩ = some (.int .i64 t.tick) ∧ W.cell? ⟨g, i * 6 + 2 + 1, none⟩ = some (.int .i64 t.pos.x) ∧ W.cell? ⟨g, i * 6 + 2 + 2, none⟩ = some (.int .i64 t.pos.y) ∧ W.cell? ⟨g, i * 6 + 2 + 3, none⟩ = some (.int .i64 t.pos.z) :=
  have k := fun j (hj : j < 6) => own_at (f := trkCells) (k := 6) (fun _ => rfl) h hi (j := j) hj
  ⟨k 0 (by omega), k 1 (by omega), k 2 (by omega), k 3 (by omega), k 4 (by omega), k 5 (by omega)⟩
theorem rrow_RR {W : World} {base e g n cap : Nat} {l : List M.Rec} (h : W.ownsRow base e 4 (.slice (some ⟨g, 0, none⟩) n cap) n (rrow l)) : RR W g 0 l := by
  have k := fun i r (hi : l[i]? = some r) j (hj : j < 4) => own_at (f := recCells) (k := 4) (fun _ => rfl) h hi (j := j) hj
  refine ⟨fun i r hi => ?_, fun i r hi => ?_, fun i r hi => ?_, fun i r hi => ?_, ?_⟩
  · rw [Nat.zero_add]; exact k i r hi 0 (by omega)
  · rw [Nat.zero_add]; exact k i r hi 1 (by omega)
  · rw [Nat.zero_add]; exact k i r hi 2 (by omega)
  · rw [Nat.zero_add]; exact k i r hi 3 (by omega)
  · rcases own_shape h with ⟨h0, _⟩ | ⟨g', cap', h0, hl⟩
    · cases h0
    · cases h0; exact hl
theorem recsOf_take {l : List M.Track} {j : Nat} {t : M.Track} (h : l[j]? = some t) (i : Nat) (g : Int) : M.recsOf (l.take (j + 1)) i g = M.recsOf (l.take j) i g ++ (if t.slot = (i : Int) ∧ t.gen = g then [⟨t.tick, t.pos⟩] else []) := by
  rw [List.take_add_one, h]
  unfold M.recsOf
  rw [List.filter_append, List.map_append]
  congr 1
  by_cases e : t.slot = (i : Int) ∧ t.gen = g
  · rw [if_pos e]; simp [e.1, e.2]
  · rw [if_neg e]
    have : (decide (t.slot = (i : Int)) && decide (t.gen = g)) = false := by
      rw [Bool.eq_false_iff]; intro k; rw [Bool.and_eq_true, decide_eq_true_eq, decide_eq_true_eq] at k; exact e k
    simp only [Option.toList_some]
    rw [List.filter_cons_of_neg (by rw [this]; exact fun e => by cases e)]
    rfl
theorem recsOf_len (l : List M.Track) (i : Nat) (g : Int) : (M.recsOf l i g).length ≤ l.length := by
  unfold M.recsOf; rw [List.length_map]; exact List.length_filter_le _ _

set_option maxRecDepth 100000 in
set_option maxHeartbeats 4000000 in
theorem gStood_any (b slot : Nat) (m lv tv gv : Value) (g : M.Game) (wv : Nat → Value) (t : Int) (w : World) (hi : slot < 8) (h : Gc w b m lv tv gv (fun i => seatV (g.seat i) (wv i))) (hlog : w.ownsRow 0 125 6 gv g.log.length (trks g.log)) (hne : ∀ k, gv.ownBlock = some k → k ≠ b)
    (hlen : g.log.length ≤ 24000) (hok : ∀ tr ∈ g.log, M.Ok ⟨tr.tick, tr.pos⟩) (t0 : -4096 ≤ t) (t1 : t ≤ 16777215) (hup : ∀ r s, (g.recs slot)[0]? = some r → (g.recs slot)[1]? = some s → r.tick < s.tick) (q : M.V3) (hq : Hid (g.stood slot t = q)) :
    Calls Tryz.prog 83 #[.pointer (some ⟨b, 0, none⟩), .int .i64 slot, .int .i64 t] w fun e w' => e = .returned (.agg #[.int .i64 q.x, .int .i64 q.y, .int .i64 q.z]) ∧ Below w.heap.size w w' := by
  have HG := hid h
  have HL := hid hlog
  have HK := hid hok
  have HU := hid hup
  have hb := h.lt
  have i0 : (0 : Int) ≤ (slot : Int) := by omega
  have i1 : (slot : Int) < 8 := by omega
  have l0 : (0 : Int) ≤ (g.log.length : Int) := by omega
  have l1 : (g.log.length : Int) ≤ 24000 := by omega
  have E0 := hid (show M.recsOf g.log slot (g.seat slot).gen = g.recs slot from rfl)
  obtain ⟨s, hs⟩ : ∃ s, g.seat slot = s := ⟨_, rfl⟩
  have HS := hid hs
  obtain ⟨xw, nw, cw, hwv⟩ : ∃ x, ∃ y : Nat, ∃ z : Nat, True ∧ wv slot = x ∧ y = y ∧ z = z := ⟨wv slot, 0, 0, trivial, rfl, rfl, rfl⟩
  clear hwv xw nw cw h hlog hok hup hs
  have mk : ∀ W : World, Below w.heap.size w W → W.cell? ⟨b, 3 + slot * 15 + 2, none⟩ = some (.int .i64 s.pos.x) ∧ W.cell? ⟨b, 3 + slot * 15 + 3, none⟩ = some (.int .i64 s.pos.y) ∧ W.cell? ⟨b, 3 + slot * 15 + 4, none⟩ = some (.int .i64 s.pos.z) ∧ W.cell? ⟨b, 3 + slot * 15 + 12, none⟩ = some (.int .i64 s.gen) ∧ W.cell? ⟨b, 123, none⟩ = some gv ∧ b < W.heap.size := fun W hB => by
    have G := HG.out.after hB
    have c := G.seat hi (fun k _ => rfl)
    rw [HS.out] at c
    obtain ⟨c0, c1, c2, c3, c4, c5, c6, c7, c8, c9, c10, c11, c12, c13, c14⟩ := c
    exact ⟨c2, c3, c4, c12, G.cg, G.lt⟩
  have MK := hid mk
  clear mk
  obtain ⟨ii, hi0, hz0, hz1, hz2⟩ := info_parts infoRec
  rcases own_shape HL.out with ⟨rfl, hl0⟩ | ⟨gb, cap, rfl, hgb⟩
  · have eR : g.recs slot = [] := by rw [← E0.out, List.length_eq_zero_iff.1 hl0]; rfl
    obtain rfl : s.pos = q := by rw [← hq.out]; unfold M.Game.stood; rw [eR, ← HS.out]; rfl
    obtain ⟨c2, c3, c4, c12, c123, cb⟩ := MK.out w (Below.refl _ _)
    clear hq eR hl0
    go_enter Tryz.func83, Tryz.ntmps83
    go_wp2_with fail
    refine wp_loop_rounds 1 ?_
    rw [rounds_succ]
    go_wp2
    exact bodyPost_ret (v := .agg #[.int .i64 s.pos.x, .int .i64 s.pos.y, .int .i64 s.pos.z]) (by simp [results, Tryz.results83, go_sem]) rfl ⟨rfl, by go_grown⟩
  · go_enter Tryz.func83, Tryz.ntmps83
    go_wp2_with fail
    obtain ⟨V, hV⟩ : ∃ V, w.alloc (.cells #[.int .i64 0, .int .i64 0, .int .i64 0] 27) = V := ⟨_, rfl⟩
    have Q0 := hid (show Blk V w.heap.size #[.int .i64 0, .int .i64 0, .int .i64 0] 27 from by rw [← hV]; exact Blk.new rfl)
    have B0 := hid (show Below w.heap.size w V from by rw [← hV]; go_grown)
    have zV : V.heap.size = w.heap.size + 1 := by rw [← hV]; simp
    have ZV := hid zV
    clear zV
    try rw [hV]
    clear hV
    go_loopg [7, 8] (g.log.length + 1) (fun k u7 u8 wr => ∃ j : Nat, u8 = .int .i64 j ∧ j ≤ g.log.length ∧ k + j = g.log.length + 1 ∧ Hid (wr.ownsRow V.heap.size 53 4 u7 (M.recsOf (g.log.take j) slot s.gen).length (rrow (M.recsOf (g.log.take j) slot s.gen))) ∧ Hid (Below V.heap.size V wr))
    case atStart => exact ⟨0, rfl, Nat.zero_le _, by omega, hid ⟨rfl, .inl ⟨rfl, rfl⟩⟩, hid (Below.refl _ _)⟩
    case round =>
      obtain ⟨j, rfl, hj, hk, HO, HB⟩ := hrel
      have Bw := hid (show Below w.heap.size w wr from bl B0.out HB.out)
      obtain ⟨c2, c3, c4, c12, c123, cb⟩ := MK.out wr Bw.out
      have j0 : (0 : Int) ≤ (j : Int) := by omega
      have zw : V.heap.size ≤ wr.heap.size := HB.out.size
      by_cases hlt : j < g.log.length
      · obtain ⟨tr, htr⟩ : ∃ x, g.log[j]? = some x := ⟨g.log[j], List.getElem?_eq_getElem hlt⟩
        have HLr := hid (row_below HL.out Bw.out (fun k hk => by have : gb = k := (by simpa [Value.ownBlock] using hk); omega))
        obtain ⟨d0, d1, d2, d3, d4, d5⟩ := trk6 HLr.out htr
        have HT := hid (recsOf_take htr slot s.gen)
        have j1 : (j : Int) < (g.log.length : Int) := by omega
        have rl := recsOf_len (g.log.take j) slot s.gen
        have rl2 : (g.log.take j).length ≤ j := by rw [List.length_take]; omega
        clear htr HLr
        by_cases e1 : tr.slot = (slot : Int)
        · have z1 : (tr.slot == (slot : Int)) = true := by simp [e1]
          by_cases e2 : tr.gen = s.gen
          · have z2 : (tr.gen == s.gen) = true := by simp [e2]
            have HT2 := hid (show M.recsOf (g.log.take (j + 1)) slot s.gen = M.recsOf (g.log.take j) slot s.gen ++ [⟨tr.tick, tr.pos⟩] from by rw [HT.out, if_pos ⟨e1, e2⟩])
            clear HT e1 e2
            generalize M.recsOf (g.log.take j) slot s.gen = R at HO HT2 rl
            go_wp2_with fail
            go_quiet (fail)
            have HO2 := hid (show (wr.drewN nq).ownsRow V.heap.size 53 4 u7 R.length (rrow R) from HO.out)
            go_wp2_with (at_builtin; refine wpList_append_lies _ (by rfl) _ _ _ (by rfl) V.heap.size 53 ii _ 4 32 Tryz.underlying174 hi0 hz0 hz1 hz2 rfl (by omega) u7 R.length (rrow R) (by rfl) (Go.World.ownsRow.alloc HO2.out _) ⟨wr.heap.size, 0, none⟩ 1 1 (recCells ⟨tr.tick, tr.pos⟩) (by rfl) (by rfl) (World.news_of_block (cs := (recCells ⟨tr.tick, tr.pos⟩).toArray) (t := 53) (fr := (0, 0)) (Blk.new rfl).at_) (by simp [recCells, Value.oneCell']) (by omega) (by unfold maxLen; omega) (by omega) (by simp; omega) (wr.heap.size + 1) (by simp) ?_; intro g1 cap1 w4 hown1 hgrow1 hat1 hlt1)
            go_roundg (gk - 1)
            case measure => omega
            case rel =>
              refine ⟨j + 1, by go_num, hlt, by omega, hid ?_, hid ?_⟩
              · rw [HT2.out, rrow_snoc, List.length_append]; exact hown1
              · exact ((below_drewN HB.out nq).alloc zw _).grown hgrow1 (by simp; omega) (row_own2 HO.out)
          · have z2 : (tr.gen == s.gen) = false := by simp [e2]
            have HT2 := hid (show M.recsOf (g.log.take (j + 1)) slot s.gen = M.recsOf (g.log.take j) slot s.gen from by rw [HT.out, if_neg (fun k => e2 k.2), List.append_nil])
            clear HT e1 e2
            go_wp2_with fail
            go_quiet (fail)
            go_wp2
            go_roundg (gk - 1)
            case measure => omega
            case rel => exact ⟨j + 1, by go_num, hlt, by omega, by rw [HT2.out]; exact HO, hid (below_drewN HB.out nq)⟩
        · have z1 : (tr.slot == (slot : Int)) = false := by simp [e1]
          have HT2 := hid (show M.recsOf (g.log.take (j + 1)) slot s.gen = M.recsOf (g.log.take j) slot s.gen from by rw [HT.out, if_neg (fun k => e1 k.1), List.append_nil])
          clear HT e1
          go_wp2_with fail
          go_quiet (fail)
          go_wp2
          go_roundg (gk - 1)
          case measure => omega
          case rel => exact ⟨j + 1, by go_num, hlt, by omega, by rw [HT2.out]; exact HO, hid (below_drewN HB.out nq)⟩
      · have j1 : ¬ (j : Int) < (g.log.length : Int) := by omega
        have et : g.log.take j = g.log := List.take_of_length_le (by omega)
        have eR : M.recsOf (g.log.take j) slot s.gen = g.recs slot := by rw [et, ← E0.out, HS.out]
        rw [eR] at HO
        have rl := recsOf_len g.log slot (g.seat slot).gen
        rw [E0.out] at rl
        have RK := hid (show ∀ r ∈ g.recs slot, M.Ok r from fun r hr => by
          rw [← E0.out] at hr
          unfold M.recsOf at hr
          obtain ⟨tr, h1, rfl⟩ := List.mem_map.1 hr
          exact HK.out tr (List.mem_filter.1 h1).1)
        have HQ := hid (show (if (g.recs slot).isEmpty = true then s.pos else M.pose t (g.recs slot)) = q from by rw [← hq.out]; unfold M.Game.stood; rw [HS.out])
        obtain ⟨d0, d1, d2, df, dz⟩ := (Q0.out.after HB.out).three
        clear et eR hq E0 HK
        generalize hRR : g.recs slot = R at *
        clear hRR
        rcases own_shape HO.out with ⟨rfl, hl0⟩ | ⟨rb, rc, rfl, hrb⟩
        · obtain rfl : R = [] := List.length_eq_zero_iff.1 hl0
          obtain rfl : s.pos = q := HQ.out
          clear HQ RK HU
          go_wp2
          exact bodyPost_ret (v := .agg #[.int .i64 s.pos.x, .int .i64 s.pos.y, .int .i64 s.pos.z]) (by simp [results, Tryz.results83, go_sem, d0, d1, d2]) rfl ⟨rfl, by have := Bw.out; go_grown⟩
        · match R, HO, RK, HU, HQ, rl with
          | [], HO, RK, HU, HQ, rl =>
            obtain rfl : s.pos = q := HQ.out
            clear HQ RK HU
            go_wp2
            exact bodyPost_ret (v := .agg #[.int .i64 s.pos.x, .int .i64 s.pos.y, .int .i64 s.pos.z]) (by simp [results, Tryz.results83, go_sem, d0, d1, d2]) rfl ⟨rfl, by have := Bw.out; go_grown⟩
          | r0 :: rs, HO, RK, HU, HQ, rl =>
            have HQ2 := hid (show M.poseD r0.pos t (r0 :: rs) = q from by
              rw [M.poseD_is (fun s hs => HU.out r0 s rfl (by simpa using hs))]; exact HQ.out)
            have H := hid (fun W (hR : RR W rb 0 (r0 :: rs)) => rpose_any rb rc (r0 :: rs) t W hR (by simp) (by omega) RK.out t0 t1 r0 rfl q HQ2)
            have z : (((r0 :: rs).length : Int) == 0) = false := beq_eq_false_iff_ne.2 (by simp; omega)
            have RW := hid (rrow_RR HO.out)
            generalize (r0 :: rs).length = n at *
            clear HQ RK HU HQ2 HO
            go_wp2_with fail
            refine (H.out _ RW.out).mono ?_
            rintro e w5 ⟨rfl, hb5⟩
            have B5 := hid (bl Bw.out hb5)
            obtain ⟨f0, f1, f2, ff, fz⟩ := ((Q0.out.after HB.out).after hb5).three
            clear hb5 d0 d1 d2 df dz c2 c3 c4 c12 c123
            go_wp2
            exact bodyPost_ret (v := .agg #[.int .i64 q.x, .int .i64 q.y, .int .i64 q.z]) (by simp [results, Tryz.results83, go_sem, f0, f1, f2]) rfl ⟨rfl, by have := B5.out; go_grown⟩

end Go.Proofs.YtonmihojfcjmjaaGreat
