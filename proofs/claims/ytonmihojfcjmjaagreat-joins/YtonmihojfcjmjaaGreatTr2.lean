import Derived.Test.YtonmihojfcjmjaaGreatBM
import Derived.Test.YtonmihojfcjmjaaGreatBBz
import Derived.Test.YtonmihojfcjmjaaGreatBRf
/- Contracts of the document's answer: within, lowest, bounded, enter. -/
namespace Go.Proofs.YtonmihojfcjmjaaGreat
open Go.RowKit
set_option linter.unusedVariables false
attribute [local go_sem] cell_set_off cell_set_blk

set_option maxHeartbeats 4000000 in
theorem rwithin_is (p d lo hi : M.V3) (n e : Int) (w : World) (B : Bool) (h : Hid (M.liesB p d lo hi n e = B)) (hp : p.Near) (hd : d.Near) (hlo : lo.Near) (hhi : hi.Near) (n1 : 0 ≤ n) (n2 : n ≤ e) (k1 : 1 ≤ e) (k2 : e ≤ 1048576) :
    Calls Tryz.prog 116 #[.agg #[.int .i64 p.x, .int .i64 p.y, .int .i64 p.z], .agg #[.int .i64 d.x, .int .i64 d.y, .int .i64 d.z], .agg #[.int .i64 lo.x, .int .i64 lo.y, .int .i64 lo.z], .agg #[.int .i64 hi.x, .int .i64 hi.y, .int .i64 hi.z], .int .i64 n, .int .i64 e] w fun r w' => r = .returned (.bool B) ∧ Below w.heap.size w w' := by
  obtain ⟨p1, p2, p3, p4, p5, p6⟩ := hp
  obtain ⟨d1, d2, d3, d4, d5, d6⟩ := hd
  obtain ⟨l1, l2, l3, l4, l5, l6⟩ := hlo
  obtain ⟨h1, h2, h3, h4, h5, h6⟩ := hhi
  have x1 : wrap64 (p.x * e) = p.x * e := wrap_mul (by omega) (by omega) (by omega) (by omega)
  have x2 : wrap64 (d.x * n) = d.x * n := wrap_mul (by omega) (by omega) (by omega) (by omega)
  have x3 : wrap64 (lo.x * e) = lo.x * e := wrap_mul (by omega) (by omega) (by omega) (by omega)
  have x4 : wrap64 (hi.x * e) = hi.x * e := wrap_mul (by omega) (by omega) (by omega) (by omega)
  have x5 : wrap64 (p.x * e + d.x * n) = p.x * e + d.x * n := wrap_sum (by omega) (by omega) (by omega) (by omega) (by omega) (by omega) (by omega) (by omega)
  have y1 : wrap64 (p.y * e) = p.y * e := wrap_mul (by omega) (by omega) (by omega) (by omega)
  have y2 : wrap64 (d.y * n) = d.y * n := wrap_mul (by omega) (by omega) (by omega) (by omega)
  have y3 : wrap64 (lo.y * e) = lo.y * e := wrap_mul (by omega) (by omega) (by omega) (by omega)
  have y4 : wrap64 (hi.y * e) = hi.y * e := wrap_mul (by omega) (by omega) (by omega) (by omega)
  have y5 : wrap64 (p.y * e + d.y * n) = p.y * e + d.y * n := wrap_sum (by omega) (by omega) (by omega) (by omega) (by omega) (by omega) (by omega) (by omega)
  have z1 : wrap64 (p.z * e) = p.z * e := wrap_mul (by omega) (by omega) (by omega) (by omega)
  have z2 : wrap64 (d.z * n) = d.z * n := wrap_mul (by omega) (by omega) (by omega) (by omega)
  have z3 : wrap64 (lo.z * e) = lo.z * e := wrap_mul (by omega) (by omega) (by omega) (by omega)
  have z4 : wrap64 (hi.z * e) = hi.z * e := wrap_mul (by omega) (by omega) (by omega) (by omega)
  have z5 : wrap64 (p.z * e + d.z * n) = p.z * e + d.z * n := wrap_sum (by omega) (by omega) (by omega) (by omega) (by omega) (by omega) (by omega) (by omega)
  clear p1 p2 p3 p4 p5 p6 d1 d2 d3 d4 d5 d6 l1 l2 l3 l4 l5 l6 h1 h2 h3 h4 h5 h6 n1 n2 k1 k2
  go_enter Tryz.func116, Tryz.ntmps116
  go_wp2
  go_rounds 4
  all_goals (go_ret; exact ⟨ret_bool (by rw [← h.out]; unfold M.liesB M.on1B; (first | (simp [*]; done) | (simp; omega))), by go_grown⟩)

set_option maxHeartbeats 1000000 in
theorem rlowest_any (n e : Int) (w : World) (a1 : 0 ≤ n) (a2 : n ≤ 2097152) (b1 : 1 ≤ e) (b2 : e ≤ 2097152) :
    Calls Tryz.prog 117 #[.int .i64 n, .int .i64 e] w fun r w' => r = .returned (.tuple #[.int .i64 (n / Int.gcd n e), .int .i64 (e / Int.gcd n e)]) ∧ Below w.heap.size w w' := by
  have hg : 1 ≤ (Int.gcd n e : Int) := by
    have : 0 < Int.gcd n e := Int.gcd_pos_of_ne_zero_right _ (by omega)
    omega
  obtain ⟨G, hG⟩ : ∃ G : Int, (Int.gcd n e : Int) = G := ⟨_, rfl⟩
  rw [hG] at hg
  rw [hG]
  have HG : Hid ((Int.gcd n e : Int) = G) := hG
  clear hG
  go_enter Tryz.func117, Tryz.ntmps117
  go_wp2_with fail
  go_loopw [6, 7] (fun u v wr => ∃ x y : Int, u = .int .i64 x ∧ v = .int .i64 y ∧ 0 ≤ x ∧ x ≤ 2097152 ∧ 0 ≤ y ∧ y ≤ 2097152 ∧ Hid ((Int.gcd x y : Int) = G) ∧ Below w.heap.size w wr) (fun _ v _ => (intOf v).toNat)
  case atStart => exact ⟨n, e, rfl, rfl, a1, a2, by omega, b2, HG, Below.refl _ _⟩
  case round =>
    obtain ⟨x, y, rfl, rfl, x1, x2, y1, y2, hgx, hb⟩ := hrel
    by_cases h : y = 0
    · subst h
      have e1 : x = G := by rw [← hgx.out]; simp; omega
      subst e1
      go_wp2
      go_quiet (fail)
      go_wp2
      go_ret2
      exact ⟨rfl, below_drewN hb _⟩
    · have hp : 0 < y := by omega
      have hg' : Hid ((Int.gcd y (x % y) : Int) = G) := by unfold Hid; rw [M.gcd_step x1 hp]; exact hgx.out
      have hm1 : 0 ≤ x % y := Int.emod_nonneg _ h
      have hm2 : x % y < y := Int.emod_lt_of_pos _ hp
      go_wp2
      go_roundw
      case rel => exact ⟨y, x % y, rfl, rfl, y1, y2, hm1, by omega, hg', hb⟩
      case measure => simp [intOf]; omega

theorem getAx_near {p : M.V3} (h : p.Near) (c : Int) : -1048576 ≤ M.getAx p c ∧ M.getAx p c ≤ 1048576 := by
  have := h.x1; have := h.x2; have := h.y1; have := h.y2; have := h.z1; have := h.z2
  unfold M.getAx
  split
  · omega
  · split <;> omega

theorem M.CI.zero (p d lo hi : M.V3) : M.CI p d lo hi 0 false 0 0 := ⟨(fun x => by cases x), (fun x => by cases x), fun _ => ⟨rfl, rfl, fun k hk => by omega⟩⟩
theorem M.CI.skip {p d lo hi : M.V3} {j : Nat} {f : Bool} {n e : Int} (h : M.CI p d lo hi j f n e) (hx : M.cOk p d lo hi j → ¬ M.lies p d lo hi (M.cA p d lo hi j) (M.cB d j)) : M.CI p d lo hi (j + 1) f n e := by
  refine ⟨h.yes, fun hf k hk ok li => ?_, fun hf => ?_⟩
  · rcases Nat.lt_or_ge k j with x | x
    · exact h.min hf k x ok li
    · obtain rfl : k = j := by omega
      exact absurd li (hx ok)
  · obtain ⟨a, b, c⟩ := h.no hf
    refine ⟨a, b, fun k hk ok li => ?_⟩
    rcases Nat.lt_or_ge k j with x | x
    · exact c k x ok li
    · obtain rfl : k = j := by omega
      exact absurd li (hx ok)
theorem M.CI.new {p d lo hi : M.V3} {j : Nat} {n e a b : Int} (h : M.CI p d lo hi j false n e) (ea : M.cA p d lo hi j = a) (eb : M.cB d j = b) (h0 : 0 ≤ a) (h1 : 1 ≤ b) (h2 : a ≤ b) (h3 : b ≤ 1048576) (hl : M.lies p d lo hi a b) : M.CI p d lo hi (j + 1) true a b := by
  refine ⟨fun _ => ⟨h0, h1, h2, h3, hl⟩, fun _ k hk ok li => ?_, fun x => by cases x⟩
  rcases Nat.lt_or_ge k j with x | x
  · exact absurd li ((h.no rfl).2.2 k x ok)
  · obtain rfl : k = j := by omega
    rw [ea, eb]; omega
theorem M.CI.less {p d lo hi : M.V3} {j : Nat} {n e a b : Int} (h : M.CI p d lo hi j true n e) (ea : M.cA p d lo hi j = a) (eb : M.cB d j = b) (h0 : 0 ≤ a) (h1 : 1 ≤ b) (h2 : a ≤ b) (h3 : b ≤ 1048576) (hl : M.lies p d lo hi a b) (hx : a * e < n * b) : M.CI p d lo hi (j + 1) true a b := by
  obtain ⟨c1, c2, c3, c4, c5⟩ := h.yes rfl
  refine ⟨fun _ => ⟨h0, h1, h2, h3, hl⟩, fun _ k hk ok li => ?_, fun x => by cases x⟩
  rcases Nat.lt_or_ge k j with x | x
  · exact M.later h1 c2 (by have := ok.1; have := ok.2.1; have := ok.2.2; omega) hx (h.min rfl k x ok li)
  · obtain rfl : k = j := by omega
    rw [ea, eb]; omega
theorem M.CI.more {p d lo hi : M.V3} {j : Nat} {n e a b : Int} (h : M.CI p d lo hi j true n e) (ea : M.cA p d lo hi j = a) (eb : M.cB d j = b) (hx : ¬ a * e < n * b) : M.CI p d lo hi (j + 1) true n e := by
  refine ⟨h.yes, fun _ k hk ok li => ?_, fun x => by cases x⟩
  rcases Nat.lt_or_ge k j with x | x
  · exact h.min rfl k x ok li
  · obtain rfl : k = j := by omega
    rw [ea, eb]; omega

/-- What enter gives back. -/
def REntPost (p d lo hi : M.V3) (w : World) (r : Ending) (w' : World) : Prop := ∃ (i : Bool) (n e : Int), r = .returned (.tuple #[.bool i, .int .i64 n, .int .i64 e]) ∧ M.Ent p d lo hi i n e ∧ Below w.heap.size w w'

set_option maxRecDepth 100000 in
set_option maxHeartbeats 8000000 in
theorem renter_any (p d lo hi : M.V3) (w : World) (hp : p.Near) (hd : d.Near) (hlo : lo.Near) (hhi : hi.Near) :
    Calls Tryz.prog 103 #[.agg #[.int .i64 p.x, .int .i64 p.y, .int .i64 p.z], .agg #[.int .i64 d.x, .int .i64 d.y, .int .i64 d.z], .agg #[.int .i64 lo.x, .int .i64 lo.y, .int .i64 lo.z], .agg #[.int .i64 hi.x, .int .i64 hi.y, .int .i64 hi.z]] w (REntPost p d lo hi w) := by
  obtain ⟨Bs, hBs⟩ : ∃ B, M.liesB p d lo hi 0 1 = B := ⟨_, rfl⟩
  have HBs : Hid (M.liesB p d lo hi 0 1 = Bs) := hBs
  clear hBs
  go_enter Tryz.func103, Tryz.ntmps103
  go_wp2_with fail
  refine (rwithin_is p d lo hi 0 1 _ Bs HBs hp hd hlo hhi (by omega) (by omega) (by omega) (by omega)).mono ?_
  rintro rr W0 ⟨rfl, hb0⟩
  have q0 := (show Blk _ w.heap.size #[.int .i64 p.x, .int .i64 p.y, .int .i64 p.z] 27 from (by repeat' (first | (with_reducible assumption) | (refine Blk.new ?_; (first | (simp; done) | rfl); done) | (with_reducible refine Blk.alloc ?_) | (with_reducible refine Blk.drew ?_) | (with_reducible refine Blk.drewN ?_)))).after hb0
  have q1 := (show Blk _ (w.heap.size + 1) #[.int .i64 d.x, .int .i64 d.y, .int .i64 d.z] 27 from (by repeat' (first | (with_reducible assumption) | (refine Blk.new ?_; (first | (simp; done) | rfl); done) | (with_reducible refine Blk.alloc ?_) | (with_reducible refine Blk.drew ?_) | (with_reducible refine Blk.drewN ?_)))).after hb0
  have q2 := (show Blk _ (w.heap.size + 1 + 1) #[.int .i64 lo.x, .int .i64 lo.y, .int .i64 lo.z] 27 from (by repeat' (first | (with_reducible assumption) | (refine Blk.new ?_; (first | (simp; done) | rfl); done) | (with_reducible refine Blk.alloc ?_) | (with_reducible refine Blk.drew ?_) | (with_reducible refine Blk.drewN ?_)))).after hb0
  have q3 := (show Blk _ (w.heap.size + 1 + 1 + 1) #[.int .i64 hi.x, .int .i64 hi.y, .int .i64 hi.z] 27 from (by repeat' (first | (with_reducible assumption) | (refine Blk.new ?_; (first | (simp; done) | rfl); done) | (with_reducible refine Blk.alloc ?_) | (with_reducible refine Blk.drew ?_) | (with_reducible refine Blk.drewN ?_)))).after hb0
  have B0 : Below w.heap.size w W0 := bl (by go_grown) hb0
  clear hb0
  cases Bs
  · have H0 : Hid (¬ M.lies p d lo hi 0 1) := fun li => by have := (M.liesB_iff p d lo hi 0 1).2 li; rw [HBs.out] at this; cases this
    clear HBs
    go_wp2_with fail
    go_loopg [12, 13, 14, 15] 7 (fun k u12 u13 u14 u15 wr => ∃ (j : Nat) (f : Bool) (n e : Int), u12 = .bool f ∧ u13 = .int .i64 n ∧ u14 = .int .i64 e ∧ u15 = .int .i64 j ∧ j ≤ 6 ∧ k + j = 7 ∧ Hid (M.CI p d lo hi j f n e) ∧ Below W0.heap.size W0 wr)
    case atStart => exact ⟨0, false, 0, 0, rfl, rfl, rfl, rfl, by omega, rfl, M.CI.zero p d lo hi, Below.refl _ _⟩
    case round =>
      obtain ⟨j, f, n, e, rfl, rfl, rfl, rfl, hj, hk, hE, hb⟩ := hrel
      by_cases hlt : j < 6
      · have hc : M.planeB ((j : Int) / 2 + 120) = true := by unfold M.planeB; simp; omega
        have HK : Hid ((j : Int) / 2 = (j : Int) / 2 + 120 - 120) := by unfold Hid; omega
        obtain ⟨L0, hL0⟩ : ∃ A, M.getAx lo ((j : Int) / 2 + 120) = A := ⟨_, rfl⟩
        obtain ⟨H0v, hH0⟩ : ∃ A, M.getAx hi ((j : Int) / 2 + 120) = A := ⟨_, rfl⟩
        obtain ⟨P0, hP0⟩ : ∃ A, M.getAx p ((j : Int) / 2 + 120) = A := ⟨_, rfl⟩
        obtain ⟨D0, hD0⟩ : ∃ A, M.getAx d ((j : Int) / 2 + 120) = A := ⟨_, rfl⟩
        have g1 := getAx_near hlo ((j : Int) / 2 + 120)
        have g2 := getAx_near hhi ((j : Int) / 2 + 120)
        have g3 := getAx_near hp ((j : Int) / 2 + 120)
        have g4 := getAx_near hd ((j : Int) / 2 + 120)
        rw [hL0] at g1
        rw [hH0] at g2
        rw [hP0] at g3
        rw [hD0] at g4
        obtain ⟨g11, g12⟩ := g1
        obtain ⟨g21, g22⟩ := g2
        obtain ⟨g31, g32⟩ := g3
        obtain ⟨g41, g42⟩ := g4
        have HL0 : Hid (M.getAx lo ((j : Int) / 2 + 120) = L0) := hL0
        have HH0 : Hid (M.getAx hi ((j : Int) / 2 + 120) = H0v) := hH0
        have HP0 : Hid (M.getAx p ((j : Int) / 2 + 120) = P0) := hP0
        have HD0 : Hid (M.getAx d ((j : Int) / 2 + 120) = D0) := hD0
        clear hL0 hH0 hP0 hD0
        have j1 : (j : Int) < 6 := by omega
        obtain ⟨a0, a1, a2, af, al⟩ := (q0.after hb).three
        obtain ⟨b0, b1, b2, bf, bz⟩ := (q1.after hb).three
        obtain ⟨c0, c1, c2, cf, cz⟩ := (q2.after hb).three
        obtain ⟨d0, d1, d2, df, dz⟩ := (q3.after hb).three
        by_cases pr : j % 2 = 1
        · have pt : ((j : Int) % 2 == 1) = true := by simp; omega
          by_cases dn : D0 < 0
          · skip
            go_wp2_with fail
            refine (raxis_is lo _ ((j : Int) / 2 + 120) L0 _ HK.out hc HL0).mono ?_
            rintro rr w1 ⟨rfl, h1⟩
            have B1 : Below W0.heap.size W0 w1 := bl hb h1
            clear h1 a0 a1 a2 af al b0 b1 b2 bf bz c0 c1 c2 cf cz d0 d1 d2 df dz
            obtain ⟨d0, d1, d2, df, dz⟩ := (q3.after B1).three
            go_wp2_with fail
            refine (raxis_is hi _ ((j : Int) / 2 + 120) H0v _ HK.out hc HH0).mono ?_
            rintro rr w1b ⟨rfl, h1⟩
            have B1b : Below W0.heap.size W0 w1b := bl B1 h1
            clear h1 d0 d1 d2 df dz B1
            obtain ⟨a0, a1, a2, af, al⟩ := (q0.after B1b).three
            go_wp2_with fail
            refine (raxis_is p _ ((j : Int) / 2 + 120) P0 _ HK.out hc HP0).mono ?_
            rintro rr w2 ⟨rfl, h1⟩
            have B2 : Below W0.heap.size W0 w2 := bl B1b h1
            clear h1 a0 a1 a2 af al B1b
            obtain ⟨b0, b1, b2, bf, bz⟩ := (q1.after B2).three
            go_wp2_with fail
            refine (raxis_is d _ ((j : Int) / 2 + 120) D0 _ HK.out hc HD0).mono ?_
            rintro rr w3 ⟨rfl, h1⟩
            have B9 : Below W0.heap.size W0 w3 := bl B2 h1
            clear h1 b0 b1 b2 bf bz B2
            have EA : Hid (M.cA p d lo hi j = -(H0v - P0)) := by unfold Hid M.cA M.cS M.cP; rw [HP0.out, HD0.out, HH0.out, if_pos dn, if_pos pr]
            have EB : Hid (M.cB d j = -D0) := by unfold Hid M.cB M.cP; rw [HD0.out, if_pos dn]
            clear pr
            have z1 : (-D0 == 0) = false := by simp; omega
            by_cases y1 : -(H0v - P0) < 0
            · have HX2 : Hid (M.CI p d lo hi (j + 1) f n e) := hE.out.skip (fun ok _ => by have := ok.2.1; rw [EA.out] at this; omega)
              go_wp2
              go_roundg (gk - 1)
              case measure => omega
              case rel => exact ⟨j + 1, f, n, e, rfl, rfl, rfl, by go_num, by omega, by omega, HX2, B9⟩
            by_cases y2 : -D0 < -(H0v - P0)
            · have HX2 : Hid (M.CI p d lo hi (j + 1) f n e) := hE.out.skip (fun ok _ => by have := ok.2.2; rw [EA.out, EB.out] at this; omega)
              go_wp2
              go_roundg (gk - 1)
              case measure => omega
              case rel => exact ⟨j + 1, f, n, e, rfl, rfl, rfl, by go_num, by omega, by omega, HX2, B9⟩
            obtain ⟨a0, a1, a2, af, al⟩ := (q0.after B9).three
            obtain ⟨b0, b1, b2, bf, bz⟩ := (q1.after B9).three
            obtain ⟨c0, c1, c2, cf, cz⟩ := (q2.after B9).three
            obtain ⟨d0, d1, d2, df, dz⟩ := (q3.after B9).three
            obtain ⟨BB, hBB⟩ : ∃ B, M.liesB p d lo hi (-(H0v - P0)) (-D0) = B := ⟨_, rfl⟩
            have HBB : Hid (M.liesB p d lo hi (-(H0v - P0)) (-D0) = BB) := hBB
            clear hBB
            go_wp2_with fail
            refine (rwithin_is p d lo hi _ _ _ BB HBB hp hd hlo hhi (by omega) (by omega) (by omega) (by omega)).mono ?_
            rintro rr w4 ⟨rfl, h1⟩
            have B10 : Below W0.heap.size W0 w4 := bl B9 h1
            clear h1 B9 a0 a1 a2 af al b0 b1 b2 bf bz c0 c1 c2 cf cz d0 d1 d2 df dz
            have B9 := B10
            clear B10
            cases BB
            · have HX2 : Hid (M.CI p d lo hi (j + 1) f n e) := hE.out.skip (fun _ li => by rw [EA.out, EB.out] at li; have := (M.liesB_iff p d lo hi _ _).2 li; rw [HBB.out] at this; cases this)
              go_wp2
              go_roundg (gk - 1)
              case measure => omega
              case rel => exact ⟨j + 1, f, n, e, rfl, rfl, rfl, by go_num, by omega, by omega, HX2, B9⟩
            have HLi : Hid (M.lies p d lo hi (-(H0v - P0)) (-D0)) := (M.liesB_iff p d lo hi _ _).1 HBB.out
            cases f
            · have HX2 : Hid (M.CI p d lo hi (j + 1) true (-(H0v - P0)) (-D0)) := hE.out.new EA.out EB.out (by omega) (by omega) (by omega) (by omega) HLi.out
              go_wp2
              go_roundg (gk - 1)
              case measure => omega
              case rel => exact ⟨j + 1, true, -(H0v - P0), -D0, rfl, rfl, rfl, by go_num, by omega, by omega, HX2, B9⟩
            · obtain ⟨v1, v2, v3, v4, _⟩ := hE.out.yes rfl
              have m1 : wrap64 (-(H0v - P0) * e) = -(H0v - P0) * e := wrap_mul (by omega) (by omega) (by omega) (by omega)
              have m2 : wrap64 (n * -D0) = n * -D0 := wrap_mul (by omega) (by omega) (by omega) (by omega)
              by_cases w9 : -(H0v - P0) * e < n * -D0
              · have HX2 : Hid (M.CI p d lo hi (j + 1) true (-(H0v - P0)) (-D0)) := hE.out.less EA.out EB.out (by omega) (by omega) (by omega) (by omega) HLi.out w9
                have w8 : decide (-(H0v - P0) * e < n * -D0) = true := by simpa using w9
                go_wp2
                go_roundg (gk - 1)
                case measure => omega
                case rel => exact ⟨j + 1, true, -(H0v - P0), -D0, rfl, rfl, rfl, by go_num, by omega, by omega, HX2, B9⟩
              · have HX2 : Hid (M.CI p d lo hi (j + 1) true n e) := hE.out.more EA.out EB.out w9
                have w8 : decide (-(H0v - P0) * e < n * -D0) = false := by simpa using w9
                go_wp2
                go_roundg (gk - 1)
                case measure => omega
                case rel => exact ⟨j + 1, true, n, e, rfl, rfl, rfl, by go_num, by omega, by omega, HX2, B9⟩
          · skip
            go_wp2_with fail
            refine (raxis_is lo _ ((j : Int) / 2 + 120) L0 _ HK.out hc HL0).mono ?_
            rintro rr w1 ⟨rfl, h1⟩
            have B1 : Below W0.heap.size W0 w1 := bl hb h1
            clear h1 a0 a1 a2 af al b0 b1 b2 bf bz c0 c1 c2 cf cz d0 d1 d2 df dz
            obtain ⟨d0, d1, d2, df, dz⟩ := (q3.after B1).three
            go_wp2_with fail
            refine (raxis_is hi _ ((j : Int) / 2 + 120) H0v _ HK.out hc HH0).mono ?_
            rintro rr w1b ⟨rfl, h1⟩
            have B1b : Below W0.heap.size W0 w1b := bl B1 h1
            clear h1 d0 d1 d2 df dz B1
            obtain ⟨a0, a1, a2, af, al⟩ := (q0.after B1b).three
            go_wp2_with fail
            refine (raxis_is p _ ((j : Int) / 2 + 120) P0 _ HK.out hc HP0).mono ?_
            rintro rr w2 ⟨rfl, h1⟩
            have B2 : Below W0.heap.size W0 w2 := bl B1b h1
            clear h1 a0 a1 a2 af al B1b
            obtain ⟨b0, b1, b2, bf, bz⟩ := (q1.after B2).three
            go_wp2_with fail
            refine (raxis_is d _ ((j : Int) / 2 + 120) D0 _ HK.out hc HD0).mono ?_
            rintro rr w3 ⟨rfl, h1⟩
            have B9 : Below W0.heap.size W0 w3 := bl B2 h1
            clear h1 b0 b1 b2 bf bz B2
            have EA : Hid (M.cA p d lo hi j = (H0v - P0)) := by unfold Hid M.cA M.cS M.cP; rw [HP0.out, HD0.out, HH0.out, if_neg (show ¬ D0 < 0 from by omega), if_pos pr]
            have EB : Hid (M.cB d j = D0) := by unfold Hid M.cB M.cP; rw [HD0.out, if_neg (show ¬ D0 < 0 from by omega)]
            clear pr
            by_cases z0 : D0 = 0
            · have z1 : (D0 == 0) = true := by simp [z0]
              have HX : M.CI p d lo hi (j + 1) f n e := hE.out.skip (fun ok _ => ok.1 (by rw [EB.out]; exact z0))
              have HX2 : Hid (M.CI p d lo hi (j + 1) f n e) := HX
              clear z0 HX
              go_wp2
              go_roundg (gk - 1)
              case measure => omega
              case rel => exact ⟨j + 1, f, n, e, rfl, rfl, rfl, by go_num, by omega, by omega, HX2, B9⟩
            have z1 : (D0 == 0) = false := by simp [z0]
            by_cases y1 : (H0v - P0) < 0
            · have HX2 : Hid (M.CI p d lo hi (j + 1) f n e) := hE.out.skip (fun ok _ => by have := ok.2.1; rw [EA.out] at this; omega)
              go_wp2
              go_roundg (gk - 1)
              case measure => omega
              case rel => exact ⟨j + 1, f, n, e, rfl, rfl, rfl, by go_num, by omega, by omega, HX2, B9⟩
            by_cases y2 : D0 < (H0v - P0)
            · have HX2 : Hid (M.CI p d lo hi (j + 1) f n e) := hE.out.skip (fun ok _ => by have := ok.2.2; rw [EA.out, EB.out] at this; omega)
              go_wp2
              go_roundg (gk - 1)
              case measure => omega
              case rel => exact ⟨j + 1, f, n, e, rfl, rfl, rfl, by go_num, by omega, by omega, HX2, B9⟩
            obtain ⟨a0, a1, a2, af, al⟩ := (q0.after B9).three
            obtain ⟨b0, b1, b2, bf, bz⟩ := (q1.after B9).three
            obtain ⟨c0, c1, c2, cf, cz⟩ := (q2.after B9).three
            obtain ⟨d0, d1, d2, df, dz⟩ := (q3.after B9).three
            obtain ⟨BB, hBB⟩ : ∃ B, M.liesB p d lo hi ((H0v - P0)) (D0) = B := ⟨_, rfl⟩
            have HBB : Hid (M.liesB p d lo hi ((H0v - P0)) (D0) = BB) := hBB
            clear hBB
            go_wp2_with fail
            refine (rwithin_is p d lo hi _ _ _ BB HBB hp hd hlo hhi (by omega) (by omega) (by omega) (by omega)).mono ?_
            rintro rr w4 ⟨rfl, h1⟩
            have B10 : Below W0.heap.size W0 w4 := bl B9 h1
            clear h1 B9 a0 a1 a2 af al b0 b1 b2 bf bz c0 c1 c2 cf cz d0 d1 d2 df dz
            have B9 := B10
            clear B10
            cases BB
            · have HX2 : Hid (M.CI p d lo hi (j + 1) f n e) := hE.out.skip (fun _ li => by rw [EA.out, EB.out] at li; have := (M.liesB_iff p d lo hi _ _).2 li; rw [HBB.out] at this; cases this)
              go_wp2
              go_roundg (gk - 1)
              case measure => omega
              case rel => exact ⟨j + 1, f, n, e, rfl, rfl, rfl, by go_num, by omega, by omega, HX2, B9⟩
            have HLi : Hid (M.lies p d lo hi ((H0v - P0)) (D0)) := (M.liesB_iff p d lo hi _ _).1 HBB.out
            cases f
            · have HX2 : Hid (M.CI p d lo hi (j + 1) true ((H0v - P0)) (D0)) := hE.out.new EA.out EB.out (by omega) (by omega) (by omega) (by omega) HLi.out
              go_wp2
              go_roundg (gk - 1)
              case measure => omega
              case rel => exact ⟨j + 1, true, (H0v - P0), D0, rfl, rfl, rfl, by go_num, by omega, by omega, HX2, B9⟩
            · obtain ⟨v1, v2, v3, v4, _⟩ := hE.out.yes rfl
              have m1 : wrap64 ((H0v - P0) * e) = (H0v - P0) * e := wrap_mul (by omega) (by omega) (by omega) (by omega)
              have m2 : wrap64 (n * D0) = n * D0 := wrap_mul (by omega) (by omega) (by omega) (by omega)
              by_cases w9 : (H0v - P0) * e < n * D0
              · have HX2 : Hid (M.CI p d lo hi (j + 1) true ((H0v - P0)) (D0)) := hE.out.less EA.out EB.out (by omega) (by omega) (by omega) (by omega) HLi.out w9
                have w8 : decide ((H0v - P0) * e < n * D0) = true := by simpa using w9
                go_wp2
                go_roundg (gk - 1)
                case measure => omega
                case rel => exact ⟨j + 1, true, (H0v - P0), D0, rfl, rfl, rfl, by go_num, by omega, by omega, HX2, B9⟩
              · have HX2 : Hid (M.CI p d lo hi (j + 1) true n e) := hE.out.more EA.out EB.out w9
                have w8 : decide ((H0v - P0) * e < n * D0) = false := by simpa using w9
                go_wp2
                go_roundg (gk - 1)
                case measure => omega
                case rel => exact ⟨j + 1, true, n, e, rfl, rfl, rfl, by go_num, by omega, by omega, HX2, B9⟩
        · have pt : ((j : Int) % 2 == 1) = false := by simp; omega
          by_cases dn : D0 < 0
          · skip
            go_wp2_with fail
            refine (raxis_is lo _ ((j : Int) / 2 + 120) L0 _ HK.out hc HL0).mono ?_
            rintro rr w1 ⟨rfl, h1⟩
            have B1 : Below W0.heap.size W0 w1 := bl hb h1
            clear h1 a0 a1 a2 af al b0 b1 b2 bf bz c0 c1 c2 cf cz d0 d1 d2 df dz
            obtain ⟨a0, a1, a2, af, al⟩ := (q0.after B1).three
            go_wp2_with fail
            refine (raxis_is p _ ((j : Int) / 2 + 120) P0 _ HK.out hc HP0).mono ?_
            rintro rr w2 ⟨rfl, h1⟩
            have B2 : Below W0.heap.size W0 w2 := bl B1 h1
            clear h1 a0 a1 a2 af al B1
            obtain ⟨b0, b1, b2, bf, bz⟩ := (q1.after B2).three
            go_wp2_with fail
            refine (raxis_is d _ ((j : Int) / 2 + 120) D0 _ HK.out hc HD0).mono ?_
            rintro rr w3 ⟨rfl, h1⟩
            have B9 : Below W0.heap.size W0 w3 := bl B2 h1
            clear h1 b0 b1 b2 bf bz B2
            have EA : Hid (M.cA p d lo hi j = -(L0 - P0)) := by unfold Hid M.cA M.cS M.cP; rw [HP0.out, HD0.out, HL0.out, if_pos dn, if_neg pr]
            have EB : Hid (M.cB d j = -D0) := by unfold Hid M.cB M.cP; rw [HD0.out, if_pos dn]
            clear pr
            have z1 : (-D0 == 0) = false := by simp; omega
            by_cases y1 : -(L0 - P0) < 0
            · have HX2 : Hid (M.CI p d lo hi (j + 1) f n e) := hE.out.skip (fun ok _ => by have := ok.2.1; rw [EA.out] at this; omega)
              go_wp2
              go_roundg (gk - 1)
              case measure => omega
              case rel => exact ⟨j + 1, f, n, e, rfl, rfl, rfl, by go_num, by omega, by omega, HX2, B9⟩
            by_cases y2 : -D0 < -(L0 - P0)
            · have HX2 : Hid (M.CI p d lo hi (j + 1) f n e) := hE.out.skip (fun ok _ => by have := ok.2.2; rw [EA.out, EB.out] at this; omega)
              go_wp2
              go_roundg (gk - 1)
              case measure => omega
              case rel => exact ⟨j + 1, f, n, e, rfl, rfl, rfl, by go_num, by omega, by omega, HX2, B9⟩
            obtain ⟨a0, a1, a2, af, al⟩ := (q0.after B9).three
            obtain ⟨b0, b1, b2, bf, bz⟩ := (q1.after B9).three
            obtain ⟨c0, c1, c2, cf, cz⟩ := (q2.after B9).three
            obtain ⟨d0, d1, d2, df, dz⟩ := (q3.after B9).three
            obtain ⟨BB, hBB⟩ : ∃ B, M.liesB p d lo hi (-(L0 - P0)) (-D0) = B := ⟨_, rfl⟩
            have HBB : Hid (M.liesB p d lo hi (-(L0 - P0)) (-D0) = BB) := hBB
            clear hBB
            go_wp2_with fail
            refine (rwithin_is p d lo hi _ _ _ BB HBB hp hd hlo hhi (by omega) (by omega) (by omega) (by omega)).mono ?_
            rintro rr w4 ⟨rfl, h1⟩
            have B10 : Below W0.heap.size W0 w4 := bl B9 h1
            clear h1 B9 a0 a1 a2 af al b0 b1 b2 bf bz c0 c1 c2 cf cz d0 d1 d2 df dz
            have B9 := B10
            clear B10
            cases BB
            · have HX2 : Hid (M.CI p d lo hi (j + 1) f n e) := hE.out.skip (fun _ li => by rw [EA.out, EB.out] at li; have := (M.liesB_iff p d lo hi _ _).2 li; rw [HBB.out] at this; cases this)
              go_wp2
              go_roundg (gk - 1)
              case measure => omega
              case rel => exact ⟨j + 1, f, n, e, rfl, rfl, rfl, by go_num, by omega, by omega, HX2, B9⟩
            have HLi : Hid (M.lies p d lo hi (-(L0 - P0)) (-D0)) := (M.liesB_iff p d lo hi _ _).1 HBB.out
            cases f
            · have HX2 : Hid (M.CI p d lo hi (j + 1) true (-(L0 - P0)) (-D0)) := hE.out.new EA.out EB.out (by omega) (by omega) (by omega) (by omega) HLi.out
              go_wp2
              go_roundg (gk - 1)
              case measure => omega
              case rel => exact ⟨j + 1, true, -(L0 - P0), -D0, rfl, rfl, rfl, by go_num, by omega, by omega, HX2, B9⟩
            · obtain ⟨v1, v2, v3, v4, _⟩ := hE.out.yes rfl
              have m1 : wrap64 (-(L0 - P0) * e) = -(L0 - P0) * e := wrap_mul (by omega) (by omega) (by omega) (by omega)
              have m2 : wrap64 (n * -D0) = n * -D0 := wrap_mul (by omega) (by omega) (by omega) (by omega)
              by_cases w9 : -(L0 - P0) * e < n * -D0
              · have HX2 : Hid (M.CI p d lo hi (j + 1) true (-(L0 - P0)) (-D0)) := hE.out.less EA.out EB.out (by omega) (by omega) (by omega) (by omega) HLi.out w9
                have w8 : decide (-(L0 - P0) * e < n * -D0) = true := by simpa using w9
                go_wp2
                go_roundg (gk - 1)
                case measure => omega
                case rel => exact ⟨j + 1, true, -(L0 - P0), -D0, rfl, rfl, rfl, by go_num, by omega, by omega, HX2, B9⟩
              · have HX2 : Hid (M.CI p d lo hi (j + 1) true n e) := hE.out.more EA.out EB.out w9
                have w8 : decide (-(L0 - P0) * e < n * -D0) = false := by simpa using w9
                go_wp2
                go_roundg (gk - 1)
                case measure => omega
                case rel => exact ⟨j + 1, true, n, e, rfl, rfl, rfl, by go_num, by omega, by omega, HX2, B9⟩
          · skip
            go_wp2_with fail
            refine (raxis_is lo _ ((j : Int) / 2 + 120) L0 _ HK.out hc HL0).mono ?_
            rintro rr w1 ⟨rfl, h1⟩
            have B1 : Below W0.heap.size W0 w1 := bl hb h1
            clear h1 a0 a1 a2 af al b0 b1 b2 bf bz c0 c1 c2 cf cz d0 d1 d2 df dz
            obtain ⟨a0, a1, a2, af, al⟩ := (q0.after B1).three
            go_wp2_with fail
            refine (raxis_is p _ ((j : Int) / 2 + 120) P0 _ HK.out hc HP0).mono ?_
            rintro rr w2 ⟨rfl, h1⟩
            have B2 : Below W0.heap.size W0 w2 := bl B1 h1
            clear h1 a0 a1 a2 af al B1
            obtain ⟨b0, b1, b2, bf, bz⟩ := (q1.after B2).three
            go_wp2_with fail
            refine (raxis_is d _ ((j : Int) / 2 + 120) D0 _ HK.out hc HD0).mono ?_
            rintro rr w3 ⟨rfl, h1⟩
            have B9 : Below W0.heap.size W0 w3 := bl B2 h1
            clear h1 b0 b1 b2 bf bz B2
            have EA : Hid (M.cA p d lo hi j = (L0 - P0)) := by unfold Hid M.cA M.cS M.cP; rw [HP0.out, HD0.out, HL0.out, if_neg (show ¬ D0 < 0 from by omega), if_neg pr]
            have EB : Hid (M.cB d j = D0) := by unfold Hid M.cB M.cP; rw [HD0.out, if_neg (show ¬ D0 < 0 from by omega)]
            clear pr
            by_cases z0 : D0 = 0
            · have z1 : (D0 == 0) = true := by simp [z0]
              have HX : M.CI p d lo hi (j + 1) f n e := hE.out.skip (fun ok _ => ok.1 (by rw [EB.out]; exact z0))
              have HX2 : Hid (M.CI p d lo hi (j + 1) f n e) := HX
              clear z0 HX
              go_wp2
              go_roundg (gk - 1)
              case measure => omega
              case rel => exact ⟨j + 1, f, n, e, rfl, rfl, rfl, by go_num, by omega, by omega, HX2, B9⟩
            have z1 : (D0 == 0) = false := by simp [z0]
            by_cases y1 : (L0 - P0) < 0
            · have HX2 : Hid (M.CI p d lo hi (j + 1) f n e) := hE.out.skip (fun ok _ => by have := ok.2.1; rw [EA.out] at this; omega)
              go_wp2
              go_roundg (gk - 1)
              case measure => omega
              case rel => exact ⟨j + 1, f, n, e, rfl, rfl, rfl, by go_num, by omega, by omega, HX2, B9⟩
            by_cases y2 : D0 < (L0 - P0)
            · have HX2 : Hid (M.CI p d lo hi (j + 1) f n e) := hE.out.skip (fun ok _ => by have := ok.2.2; rw [EA.out, EB.out] at this; omega)
              go_wp2
              go_roundg (gk - 1)
              case measure => omega
              case rel => exact ⟨j + 1, f, n, e, rfl, rfl, rfl, by go_num, by omega, by omega, HX2, B9⟩
            obtain ⟨a0, a1, a2, af, al⟩ := (q0.after B9).three
            obtain ⟨b0, b1, b2, bf, bz⟩ := (q1.after B9).three
            obtain ⟨c0, c1, c2, cf, cz⟩ := (q2.after B9).three
            obtain ⟨d0, d1, d2, df, dz⟩ := (q3.after B9).three
            obtain ⟨BB, hBB⟩ : ∃ B, M.liesB p d lo hi ((L0 - P0)) (D0) = B := ⟨_, rfl⟩
            have HBB : Hid (M.liesB p d lo hi ((L0 - P0)) (D0) = BB) := hBB
            clear hBB
            go_wp2_with fail
            refine (rwithin_is p d lo hi _ _ _ BB HBB hp hd hlo hhi (by omega) (by omega) (by omega) (by omega)).mono ?_
            rintro rr w4 ⟨rfl, h1⟩
            have B10 : Below W0.heap.size W0 w4 := bl B9 h1
            clear h1 B9 a0 a1 a2 af al b0 b1 b2 bf bz c0 c1 c2 cf cz d0 d1 d2 df dz
            have B9 := B10
            clear B10
            cases BB
            · have HX2 : Hid (M.CI p d lo hi (j + 1) f n e) := hE.out.skip (fun _ li => by rw [EA.out, EB.out] at li; have := (M.liesB_iff p d lo hi _ _).2 li; rw [HBB.out] at this; cases this)
              go_wp2
              go_roundg (gk - 1)
              case measure => omega
              case rel => exact ⟨j + 1, f, n, e, rfl, rfl, rfl, by go_num, by omega, by omega, HX2, B9⟩
            have HLi : Hid (M.lies p d lo hi ((L0 - P0)) (D0)) := (M.liesB_iff p d lo hi _ _).1 HBB.out
            cases f
            · have HX2 : Hid (M.CI p d lo hi (j + 1) true ((L0 - P0)) (D0)) := hE.out.new EA.out EB.out (by omega) (by omega) (by omega) (by omega) HLi.out
              go_wp2
              go_roundg (gk - 1)
              case measure => omega
              case rel => exact ⟨j + 1, true, (L0 - P0), D0, rfl, rfl, rfl, by go_num, by omega, by omega, HX2, B9⟩
            · obtain ⟨v1, v2, v3, v4, _⟩ := hE.out.yes rfl
              have m1 : wrap64 ((L0 - P0) * e) = (L0 - P0) * e := wrap_mul (by omega) (by omega) (by omega) (by omega)
              have m2 : wrap64 (n * D0) = n * D0 := wrap_mul (by omega) (by omega) (by omega) (by omega)
              by_cases w9 : (L0 - P0) * e < n * D0
              · have HX2 : Hid (M.CI p d lo hi (j + 1) true ((L0 - P0)) (D0)) := hE.out.less EA.out EB.out (by omega) (by omega) (by omega) (by omega) HLi.out w9
                have w8 : decide ((L0 - P0) * e < n * D0) = true := by simpa using w9
                go_wp2
                go_roundg (gk - 1)
                case measure => omega
                case rel => exact ⟨j + 1, true, (L0 - P0), D0, rfl, rfl, rfl, by go_num, by omega, by omega, HX2, B9⟩
              · have HX2 : Hid (M.CI p d lo hi (j + 1) true n e) := hE.out.more EA.out EB.out w9
                have w8 : decide ((L0 - P0) * e < n * D0) = false := by simpa using w9
                go_wp2
                go_roundg (gk - 1)
                case measure => omega
                case rel => exact ⟨j + 1, true, n, e, rfl, rfl, rfl, by go_num, by omega, by omega, HX2, B9⟩
      · obtain rfl : j = 6 := by omega
        have hF := hE.out.fin hp hd hlo hhi H0.out
        have B9 : Below w.heap.size w wr := bl B0 hb
        clear q0 q1 q2 q3
        cases f
        · have HF : Hid (M.Ent p d lo hi false 0 0) := by
            rcases hF with ⟨_, x⟩ | ⟨x, _⟩
            · exact x
            · cases x
          clear hF
          go_wp2
          go_ret3
          exact ⟨false, 0, 0, rfl, HF.out, B9⟩
        · have HF : Hid (M.Ent p d lo hi true (n / Int.gcd n e) (e / Int.gcd n e)) := by
            rcases hF with ⟨x, _⟩ | ⟨_, x⟩
            · cases x
            · exact x
          obtain ⟨v1, v2, v3, v4, _⟩ := hE.out.yes rfl
          clear hF
          go_wp2_with fail
          refine (rlowest_any n e _ v1 (by omega) v2 (by omega)).mono ?_
          rintro rr w5 ⟨rfl, h1⟩
          have B10 : Below w.heap.size w w5 := bl B9 h1
          clear h1 B9 hE
          generalize n / Int.gcd n e = n9 at *
          generalize e / Int.gcd n e = e9 at *
          go_wp2
          go_ret3
          exact ⟨true, n9, e9, rfl, HF.out, B10⟩
  · have HE : Hid (M.Ent p d lo hi true 0 1) := by
      refine ⟨fun _ => ⟨by omega, by omega, by omega, by omega, by decide, (M.liesB_iff p d lo hi 0 1).1 HBs.out⟩, fun _ m k _ _ _ _ => by omega, fun x => by cases x⟩
    clear HBs q0 q1 q2 q3
    go_wp2
    go_ret3
    exact ⟨true, 0, 1, rfl, HE.out, B0⟩

end Go.Proofs.YtonmihojfcjmjaaGreat
