import Derived.Test.YtonmihojfcjmjabRwd
/- Rewound. -/
namespace Go.Proofs.Ytonmihojfcjmjab
open Go.RowKit
set_option linter.unusedVariables false
attribute [local go_sem] cell_set_off cell_set_blk

/-- The first slot's own row comes first. -/
theorem rows_own (g : M.PGame) (ls : List M.Lf) (ps : Nat → Bool) : ∃ R, g.rows ls ps 0 8 0 = (g.seat 0).row 0 ++ R := by
  refine ⟨g.rows ls ps 0 7 1, ?_⟩
  show (if g.toldB ls ps 0 0 = true then (g.seat 0).row 0 else []) ++ g.rows ls ps 0 7 1 = _
  rw [if_pos (by unfold M.PGame.toldB; simp)]

set_option maxRecDepth 100000 in
set_option maxHeartbeats 4000000 in
theorem rewound_any (v n aside high t a : Int) (w : World) (v1 : -9223372036854775808 ≤ v) (v2 : v ≤ 9223372036854775807) (n1 : -9223372036854775808 ≤ n) (n2 : n ≤ 9223372036854775807) (s1 : -9223372036854775808 ≤ aside) (s2 : aside ≤ 9223372036854775807) (h1 : -9223372036854775808 ≤ high) (h2 : high ≤ 9223372036854775807) (t1 : -9223372036854775808 ≤ t) (t2 : t ≤ 9223372036854775807) (a1 : -9223372036854775808 ≤ a) (a2 : a ≤ 9223372036854775807) :
    Calls Try.prog 5 #[.int .i64 v, .int .i64 n, .int .i64 aside, .int .i64 high, .int .i64 t, .int .i64 a] w fun e w' => e = .returned (.bool true) ∧ Below w.heap.size w w' := by
  go_enter Try.func5, Try.ntmps5
  go_wp2_with fail
  refine (kpick_any v 65 _ v1 v2 (by omega) (by omega)).mono ?_
  rintro e w1 ⟨⟨rv, rfl, rv1, rv2⟩, rfl⟩
  go_wp2_with fail
  refine (kpick_any n 40 _ n1 n2 (by omega) (by omega)).mono ?_
  rintro e w1 ⟨⟨rn, rfl, rn1, rn2⟩, rfl⟩
  go_wp2_with fail
  refine (kpick_any a 120 _ a1 a2 (by omega) (by omega)).mono ?_
  rintro e w1 ⟨⟨ra, rfl, ra1, ra2⟩, rfl⟩
  go_wp2_with fail
  refine (kpick_any aside 2601 _ s1 s2 (by omega) (by omega)).mono ?_
  rintro e w1 ⟨⟨rs, rfl, rs1, rs2⟩, rfl⟩
  go_wp2_with fail
  refine (kpick_any high 61 _ h1 h2 (by omega) (by omega)).mono ?_
  rintro e w1 ⟨⟨rh, rfl, rh1, rh2⟩, rfl⟩
  go_wp2_with fail
  refine (kpick_any t 16777216 _ t1 t2 (by omega) (by omega)).mono ?_
  rintro e w1 ⟨⟨T, rfl, T1, T2⟩, rfl⟩
  clear v1 v2 n1 n2 s1 s2 h1 h2 t1 t2 a1 a2
  obtain ⟨pace, hpace⟩ : ∃ x, rv - 32 = x := ⟨_, rfl⟩
  obtain ⟨y, hy⟩ : ∃ x, rs - 1300 = x := ⟨_, rfl⟩
  obtain ⟨z, hz⟩ : ∃ x, rh - 30 = x := ⟨_, rfl⟩
  obtain ⟨L, hL⟩ : ∃ L : Nat, 1 + rn = (L : Int) := ⟨(1 + rn).toNat, by omega⟩
  obtain ⟨A, hA⟩ : ∃ x, 1 + ra = x := ⟨_, rfl⟩
  have p1 : -32 ≤ pace := by omega
  have p2 : pace ≤ 32 := by omega
  have y1 : -1300 ≤ y := by omega
  have y2 : y ≤ 1300 := by omega
  have z1 : -30 ≤ z := by omega
  have z2 : z ≤ 30 := by omega
  have L1 : 1 ≤ L := by omega
  have L2 : L ≤ 40 := by omega
  have A1 : 1 ≤ A := by omega
  have A2 : A ≤ 120 := by omega
  obtain ⟨B, hBd⟩ : ∃ B : M.V3, B = ⟨2048 - 8 * A, 2048 + y, 2048 + z⟩ := ⟨_, rfl⟩
  have iB := hid (show M.InB M.cubeLo M.cubeHi ⟨2048 - 8 * A, 2048 + y, 2048 + z⟩ from ⟨by show 0 ≤ 2048 - 8 * A; omega, by show 2048 - 8 * A ≤ 4096; omega, by show 0 ≤ 2048 + y; omega, by show 2048 + y ≤ 4096; omega, by show 0 ≤ 2048 + z; omega, by show 2048 + z ≤ 4096; omega⟩)
  have H := hid (fun W => pairOf_sv M.z0S ⟨2048, 2048, 2048⟩ ⟨2048 - 8 * A, 2048 + y, 2048 + z⟩ W (by decide) M.z0_err M.z0L M.z0_top (by decide) M.z0_cub (M.z0_can ⟨by decide, by decide, by decide, by decide, by decide, by decide⟩) (M.z0_can iB.out))
  go_wp2_with fail
  refine (H.out _).mono ?_
  rintro e w2 ⟨hb, b, V, rfl, hB, hS, hv⟩
  have B2 := hid hb
  have HS := hid hS
  have zB : w1.heap.size ≤ b := hB
  clear hb hB hS hv H
  have HF := hid (fun W (hs : Sv W b V M.z0L (M.prs M.z0S) (M.duel ⟨2048, 2048, 2048⟩ ⟨2048 - 8 * A, 2048 + y, 2048 + z⟩)) => fought_any b L V (M.prs M.z0S) _ pace A T ⟨2048 - 8 * A, 2048 + y, 2048 + z⟩ W hs (M.Rw.start pace _) iB.out p1 p2 L1 L2 A1 A2 T1 (by omega))
  go_wp2_with fail
  refine (HF.out _ HS.out).mono ?_
  rintro e w3 ⟨rfl, ⟨G, hs, fin⟩, ho⟩
  have B3 := hid (On.toBelow B2.out B2.out.size ho zB)
  have S3 := hid hs
  have FIN := hid fin
  clear hs ho fin B2 HS HF
  obtain ⟨R, hR⟩ : ∃ R, (M.wat pace (if M.timeP (L : Int) T < 256 then 256 else M.timeP (L : Int) T)).y = R := ⟨_, rfl⟩
  have HR := hid hR
  have wq : M.wat pace (if M.timeP (L : Int) T < 256 then 256 else M.timeP (L : Int) T) = ⟨2048, R, 2048⟩ := by rw [← hR]; rfl
  have Rb : 0 ≤ R ∧ R ≤ 4096 := by
    rw [← hR]
    have hT : 0 ≤ (if M.timeP (L : Int) T < 256 then 256 else M.timeP (L : Int) T) ∧ (if M.timeP (L : Int) T < 256 then 256 else M.timeP (L : Int) T) ≤ 10240 := by
      unfold M.timeP
      split
      · omega
      · split
        · omega
        · split <;> omega
    generalize (if M.timeP (L : Int) T < 256 then 256 else M.timeP (L : Int) T) = X at hT
    show 0 ≤ 2048 + X / 256 * pace + X % 256 * pace / 256 ∧ 2048 + X / 256 * pace + X % 256 * pace / 256 ≤ 4096
    have b1 := M.mul_bound (a := X / 256) (b := pace) (A := 40) (B := 32) (by omega) (by omega) p1 p2
    have b2 := M.mul_bound (a := X % 256) (b := pace) (A := 255) (B := 32) (by omega) (by omega) p1 p2
    omega
  have hC := M.rew_cost (w := A) (y := y) (z := z) (Y := R) A1 A2 y1 y2 z1 z2 Rb.1 Rb.2
  have hH : (G.seat 0).health = 100 - (if (-16 ≤ z ∧ z ≤ 8) ∧ (R - (2048 + y) ≤ 8 ∧ 2048 + y - R ≤ 8) then 25 else if (8 < z ∧ z ≤ 16) ∧ (R - (2048 + y) ≤ 4 ∧ 2048 + y - R ≤ 4) then 60 else 0) := by
    have := FIN.out.h
    rw [wq, hC] at this
    exact this
  obtain ⟨r1, r2⟩ := Rb
  have HH := hid hH
  clear hC wq hR hH
  go_wp2_with fail
  refine (walked_any pace (L : Int) T _ p1 p2 (by omega) (by omega) T1 (by omega) R HR).mono ?_
  rintro e w4 ⟨rfl, rfl⟩
  obtain ⟨O, hO⟩ : ∃ O : Int, (if R < 2048 + y then 2048 + y - R else R - (2048 + y)) = O := ⟨_, rfl⟩
  have HO := hid hO
  clear hO
  go_wp2_with fail
  refine (koff_any R (2048 + y) _ (by omega) (by omega) (by omega) (by omega) O HO).mono ?_
  rintro e w5 ⟨rfl, rfl⟩
  obtain ⟨H, hH⟩ : ∃ H : Int, (G.seat 0).health = H := ⟨_, rfl⟩
  have HH2 : Hid (H = 100 - (if (-16 ≤ z ∧ z ≤ 8) ∧ O ≤ 8 then 25 else if (8 < z ∧ z ≤ 16) ∧ O ≤ 4 then 60 else 0)) := by
    unfold Hid
    have h5 := HH.out
    have h6 := HO.out
    rw [hH] at h5
    rw [h5]
    split at h6 <;> (split <;> split <;> try (first | rfl | omega)) <;> (split <;> split <;> first | rfl | omega)
  have hx : H = 100 ∨ H = 75 ∨ H = 40 := by
    have := HH2.out
    rw [this]
    split
    · exact .inr (.inl rfl)
    · split
      · exact .inr (.inr rfl)
      · exact .inl rfl
  have HX := hid hx
  have fin := FIN.out
  have tB0 : G.takenB 0 = true := by unfold M.PGame.takenB; rw [show (0 : Int).toNat = 0 from rfl, fin.a0]; rfl
  have tB1 : G.takenB 1 = true := by unfold M.PGame.takenB; rw [show (1 : Int).toNat = 1 from rfl, fin.b0]; rfl
  obtain ⟨n0, e0⟩ := snap_head G M.z0L (M.prs M.z0S) 0
  obtain ⟨R0, er0⟩ := rows_own G M.z0L (M.prs M.z0S)
  obtain ⟨n1, e1⟩ := snap_head G M.z0L (M.prs M.z0S) 1
  have l1 := rows_len G M.z0L (M.prs M.z0S) 1 8 0 (by omega) (by omega)
  have ck : (G.seat 1).cooling G.tick = 3 := by
    unfold M.PSeat.cooling
    rw [fin.b3, fin.tk, if_neg (by omega)]; omega
  have X0 : Hid (G.snapS M.z0L (M.prs M.z0S) 0 = (⟨([83, M.b8 G.tick, M.b8 (G.tick / 256), M.b8 ((0 : Nat) : Int), M.b8 (G.seat 0).liveN, M.b8 H, M.b8 6, M.b8 ((G.seat 0).cooling G.tick), n0, M.b8 ((0 : Nat) : Int), M.b8 (G.seat 0).gen, M.b8 H, M.b8 2048, M.b8 (2048 / 256), M.b8 (2048 + (L : Int) * pace), M.b8 ((2048 + (L : Int) * pace) / 256), M.b8 2048, M.b8 (2048 / 256)] ++ R0).toArray⟩, 0)) := by
    unfold Hid M.PGame.snapS
    rw [if_pos tB0, show (0 : Int).toNat = 0 from rfl, e0, er0, hH, fin.a1]
    unfold M.PSeat.row M.twoP
    rw [hH, fin.a2]; rfl
  have X1 : Hid (G.snapS M.z0L (M.prs M.z0S) 1 = (⟨([83, M.b8 G.tick, M.b8 (G.tick / 256), M.b8 ((1 : Nat) : Int), M.b8 (G.seat 1).liveN, M.b8 100, M.b8 5, M.b8 3, n1] ++ G.rows M.z0L (M.prs M.z0S) 1 8 0).toArray⟩, 0)) := by
    unfold Hid M.PGame.snapS
    rw [if_pos tB1, show (1 : Int).toNat = 1 from rfl, e1, fin.b1, fin.b2, ck]
  generalize G.rows M.z0L (M.prs M.z0S) 1 8 0 = R1 at *
  have jv := M.mul_bound (a := (L : Int)) (b := pace) (A := 40) (B := 32) (by omega) (by omega) p1 p2
  obtain ⟨jv1, jv2⟩ := jv
  obtain ⟨Y, hYd⟩ : ∃ Y, 2048 + (L : Int) * pace = Y := ⟨_, rfl⟩
  have Y1 : 0 ≤ Y := by omega
  have Y2 : Y ≤ 4096 := by omega
  rw [hYd] at X0
  have e5 : ((M.b8 H).toNat : Int) = H := M.b8_lt H (by omega) (by omega)
  have e14 : ((M.b8 Y).toNat : Int) = Y % 256 := M.b8_nat Y
  have e15 : ((M.b8 (Y / 256)).toNat : Int) = Y / 256 := M.b8_lt _ (by omega) (by omega)
  obtain ⟨S0, hS0⟩ : ∃ S0 : ByteArray, (⟨([83, M.b8 G.tick, M.b8 (G.tick / 256), M.b8 ((0 : Nat) : Int), M.b8 (G.seat 0).liveN, M.b8 H, M.b8 6, M.b8 ((G.seat 0).cooling G.tick), n0, M.b8 ((0 : Nat) : Int), M.b8 (G.seat 0).gen, M.b8 H, M.b8 2048, M.b8 (2048 / 256), M.b8 Y, M.b8 (Y / 256), M.b8 2048, M.b8 (2048 / 256)] ++ R0).toArray⟩ : ByteArray) = S0 := ⟨_, rfl⟩
  obtain ⟨S1, hS1⟩ : ∃ S1 : ByteArray, (⟨([83, M.b8 G.tick, M.b8 (G.tick / 256), M.b8 ((1 : Nat) : Int), M.b8 (G.seat 1).liveN, M.b8 100, M.b8 5, M.b8 3, n1] ++ R1).toArray⟩ : ByteArray) = S1 := ⟨_, rfl⟩
  rw [hS0] at X0
  rw [hS1] at X1
  have z0 : 18 ≤ S0.size := by rw [← hS0]; show 18 ≤ (_ ++ R0).toArray.size; simp
  have z1' : 18 ≤ S1.size := by rw [← hS1]; show 18 ≤ (_ ++ R1).toArray.size; simp; omega
  have b5 := hid (show ∀ h : 5 < S0.size, (S0[5]'h) = M.b8 H from fun h => by subst hS0; rfl)
  have b6 := hid (show ∀ h : 6 < S0.size, (S0[6]'h) = 6 from fun h => by subst hS0; rfl)
  have b14 := hid (show ∀ h : 14 < S0.size, ((S0[14]'h).toNat : Int) = Y % 256 from fun h => by subst hS0; exact e14)
  have b15 := hid (show ∀ h : 15 < S0.size, ((S0[15]'h).toNat : Int) = Y / 256 from fun h => by subst hS0; exact e15)
  have c5 := hid (show ∀ h : 5 < S1.size, (S1[5]'h) = 100 from fun h => by subst hS1; rfl)
  have c6 := hid (show ∀ h : 6 < S1.size, (S1[6]'h) = 5 from fun h => by subst hS1; rfl)
  have c7 := hid (show ∀ h : 7 < S1.size, (S1[7]'h) = 3 from fun h => by subst hS1; rfl)
  have i18 : (18 : Int) ≤ (S0.size : Int) := by omega
  have k18 : (18 : Int) ≤ (S1.size : Int) := by omega
  have i5 : (5 : Int) < (S0.size : Int) := by omega
  have i6 : (6 : Int) < (S0.size : Int) := by omega
  have i14 : (14 : Int) < (S0.size : Int) := by omega
  have i15 : (15 : Int) < (S0.size : Int) := by omega
  have k5 : (5 : Int) < (S1.size : Int) := by omega
  have k6 : (6 : Int) < (S1.size : Int) := by omega
  have k7 : (7 : Int) < (S1.size : Int) := by omega
  clear e0 er0 e1 tB0 tB1 fin FIN HH hH hx e5 e14 e15 ck iB hS0 hS1 l1
  go_upto_region 16 with fail
  go_cut [85] (fun c wx => ∃ B1 : Bool, c = .bool B1 ∧ Hid (B1 = decide ((-16 ≤ z ∧ z ≤ 8) ∧ O ≤ 8)) ∧ wx = w5)
  case first =>
    go_wp2_with fail
    all_goals
      go_meet
      first
        | exact ⟨decide (O ≤ 8), rfl, decide_eq_decide.2 ⟨fun h => ⟨⟨by omega, by omega⟩, h⟩, fun h => h.2⟩, rfl⟩
        | exact ⟨false, rfl, by unfold Hid; rw [decide_eq_false (by omega)], rfl⟩
  case rest =>
    obtain ⟨B1, rfl, H1, rfl⟩ := hcut
    cases B1
    · have h1 : ¬ ((-16 ≤ z ∧ z ≤ 8) ∧ O ≤ 8) := fun k => by have := H1.out; rw [decide_eq_true k] at this; cases this
      have HN := hid h1
      clear h1 H1
      go_upto_region 18 with fail
      go_cut [95] (fun c wx => ∃ B2 : Bool, c = .bool B2 ∧ Hid (B2 = decide ((8 < z ∧ z ≤ 16) ∧ O ≤ 4)) ∧ wx = wc)
      case first =>
        go_wp2_with fail
        all_goals
          go_meet
          first
            | exact ⟨decide (O ≤ 4), rfl, decide_eq_decide.2 ⟨fun h => ⟨⟨by omega, by omega⟩, h⟩, fun h => h.2⟩, rfl⟩
            | exact ⟨false, rfl, by unfold Hid; rw [decide_eq_false (by omega)], rfl⟩
      case rest =>
        obtain ⟨B2, rfl, H2, rfl⟩ := hcut
        cases B2
        · have hHv : H = 100 := by
            have h5 := HH2.out
            have h6 : ¬ ((8 < z ∧ z ≤ 16) ∧ O ≤ 4) := fun k => by have := H2.out; rw [decide_eq_true k] at this; cases this
            rw [h5, if_neg HN.out, if_neg h6]; rfl
          subst hHv
          clear H2 HN HH2 HX
          have P5 : ∀ h : 5 < S0.size, (S0[5]'h) = 100 := fun h => (b5.out h).trans (by decide)
          go_wp2_with fail
          refine (sv_snap S3.out 0 _ X0).mono ?_
          rintro e w6 ⟨rfl, hb6⟩
          have S6 := hid (S3.out.after hb6)
          have B6 := hid (bl B3.out hb6)
          clear hb6
          go_wp2_with fail
          refine (sv_snap S6.out 1 _ X1).mono ?_
          rintro e w7 ⟨rfl, hb7⟩
          have B7 := hid (bl B6.out hb7)
          clear hb7 S6 B6 S3 B3 X0 X1
          go_wp2_with fail
          go_quiet (fail)
          have e27 : ∀ (h : 14 < S0.size) (h' : 15 < S0.size), wrap64 (wrap64 ((S0[14]'h).toNat : Int) + wrap64 ((256 : Int) * wrap64 ((S0[15]'h').toNat : Int))) = Y := fun h h' => by
            rw [b14.out h, b15.out h', IntWalk.wrap64_in (Y / 256) ⟨by omega, by omega⟩, IntWalk.wrap64_in ((256 : Int) * (Y / 256)) ⟨by omega, by omega⟩, IntWalk.wrap64_in (Y % 256) ⟨by omega, by omega⟩, IntWalk.wrap64_in _ ⟨by omega, by omega⟩]
            omega
          rw [e27]
          have P6 := b6.out
          have Q5 := c5.out
          have Q6 := c6.out
          have Q7 := c7.out
          clear e27 b5 b14 b15
          go_wp2
          go_ret
          exact ⟨rfl, below_drewN B7.out _⟩
        · have hHv : H = 40 := by
            have h5 := HH2.out
            have h6 : ((8 < z ∧ z ≤ 16) ∧ O ≤ 4) := of_decide_eq_true H2.out.symm
            rw [h5, if_neg HN.out, if_pos h6]; rfl
          subst hHv
          clear H2 HN HH2 HX
          have P5 : ∀ h : 5 < S0.size, (S0[5]'h) = 40 := fun h => (b5.out h).trans (by decide)
          go_wp2_with fail
          refine (sv_snap S3.out 0 _ X0).mono ?_
          rintro e w6 ⟨rfl, hb6⟩
          have S6 := hid (S3.out.after hb6)
          have B6 := hid (bl B3.out hb6)
          clear hb6
          go_wp2_with fail
          refine (sv_snap S6.out 1 _ X1).mono ?_
          rintro e w7 ⟨rfl, hb7⟩
          have B7 := hid (bl B6.out hb7)
          clear hb7 S6 B6 S3 B3 X0 X1
          go_wp2_with fail
          go_quiet (fail)
          have e27 : ∀ (h : 14 < S0.size) (h' : 15 < S0.size), wrap64 (wrap64 ((S0[14]'h).toNat : Int) + wrap64 ((256 : Int) * wrap64 ((S0[15]'h').toNat : Int))) = Y := fun h h' => by
            rw [b14.out h, b15.out h', IntWalk.wrap64_in (Y / 256) ⟨by omega, by omega⟩, IntWalk.wrap64_in ((256 : Int) * (Y / 256)) ⟨by omega, by omega⟩, IntWalk.wrap64_in (Y % 256) ⟨by omega, by omega⟩, IntWalk.wrap64_in _ ⟨by omega, by omega⟩]
            omega
          rw [e27]
          have P6 := b6.out
          have Q5 := c5.out
          have Q6 := c6.out
          have Q7 := c7.out
          clear e27 b5 b14 b15
          go_wp2
          go_ret
          exact ⟨rfl, below_drewN B7.out _⟩
    · have h1 : ((-16 ≤ z ∧ z ≤ 8) ∧ O ≤ 8) := of_decide_eq_true H1.out.symm
      have hHv : H = 75 := by rw [HH2.out, if_pos h1]; rfl
      subst hHv
      have zz : z ≤ 8 := h1.1.2
      clear h1 H1 HH2 HX
      have P5 : ∀ h : 5 < S0.size, (S0[5]'h) = 75 := fun h => (b5.out h).trans (by decide)
      go_wp2_with fail
      refine (sv_snap S3.out 0 _ X0).mono ?_
      rintro e w6 ⟨rfl, hb6⟩
      have S6 := hid (S3.out.after hb6)
      have B6 := hid (bl B3.out hb6)
      clear hb6
      go_wp2_with fail
      refine (sv_snap S6.out 1 _ X1).mono ?_
      rintro e w7 ⟨rfl, hb7⟩
      have B7 := hid (bl B6.out hb7)
      clear hb7 S6 B6 S3 B3 X0 X1
      go_wp2_with fail
      go_quiet (fail)
      have e27 : ∀ (h : 14 < S0.size) (h' : 15 < S0.size), wrap64 (wrap64 ((S0[14]'h).toNat : Int) + wrap64 ((256 : Int) * wrap64 ((S0[15]'h').toNat : Int))) = Y := fun h h' => by
        rw [b14.out h, b15.out h', IntWalk.wrap64_in (Y / 256) ⟨by omega, by omega⟩, IntWalk.wrap64_in ((256 : Int) * (Y / 256)) ⟨by omega, by omega⟩, IntWalk.wrap64_in (Y % 256) ⟨by omega, by omega⟩, IntWalk.wrap64_in _ ⟨by omega, by omega⟩]
        omega
      rw [e27]
      have P6 := b6.out
      have Q5 := c5.out
      have Q6 := c6.out
      have Q7 := c7.out
      clear e27 b5 b14 b15
      go_wp2
      go_ret
      exact ⟨rfl, below_drewN B7.out _⟩

end Go.Proofs.Ytonmihojfcjmjab
