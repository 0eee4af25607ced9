import Derived.Test.YtonmihojfcjmjabBKp
import Derived.Test.YtonmihojfcjmjabShdM
/- Shielded. -/
namespace Go.Proofs.Ytonmihojfcjmjab
open Go.RowKit
set_option linter.unusedVariables false
attribute [local go_sem] cell_set_off cell_set_blk

set_option maxRecDepth 100000 in
set_option maxHeartbeats 4000000 in
theorem shielded_any (a b c d k : Int) (w : World) (a1 : -9223372036854775808 ≤ a) (a2 : a ≤ 9223372036854775807) (b1 : -9223372036854775808 ≤ b) (b2 : b ≤ 9223372036854775807) (c1 : -9223372036854775808 ≤ c) (c2 : c ≤ 9223372036854775807) (d1 : -9223372036854775808 ≤ d) (d2 : d ≤ 9223372036854775807) (k1 : -9223372036854775808 ≤ k) (k2 : k ≤ 9223372036854775807) :
    Calls Try.prog 6 #[.int .i64 a, .int .i64 b, .int .i64 c, .int .i64 d, .int .i64 k] w fun e w' => e = .returned (.bool true) ∧ Below w.heap.size w w' := by
  go_enter Try.func6, Try.ntmps6
  go_wp2_with fail
  refine (kpick_any a 300 _ a1 a2 (by omega) (by omega)).mono ?_
  rintro e w1 ⟨⟨ra, rfl, ra1, ra2⟩, rfl⟩
  go_wp2_with fail
  refine (kpick_any b 33 _ b1 b2 (by omega) (by omega)).mono ?_
  rintro e w1 ⟨⟨rb, rfl, rb1, rb2⟩, rfl⟩
  go_wp2_with fail
  refine (kpick_any c 400 _ c1 c2 (by omega) (by omega)).mono ?_
  rintro e w1 ⟨⟨rc, rfl, rc1, rc2⟩, rfl⟩
  go_wp2_with fail
  refine (kpick_any d 24 _ d1 d2 (by omega) (by omega)).mono ?_
  rintro e w1 ⟨⟨rd, rfl, rd1, rd2⟩, rfl⟩
  go_wp2_with fail
  refine (kpick_any k 127 _ k1 k2 (by omega) (by omega)).mono ?_
  rintro e w1 ⟨⟨rk, rfl, rk1, rk2⟩, rfl⟩
  clear a1 a2 b1 b2 c1 c2 d1 d2 k1 k2
  obtain ⟨P, hP⟩ : ∃ P : M.V3, P = ⟨1023 - ra, 1008 + rb, 1000⟩ := ⟨_, rfl⟩
  obtain ⟨Q, hQ⟩ : ∃ Q : M.V3, Q = ⟨924 + rc, 1025 + rd, 1000⟩ := ⟨_, rfl⟩
  have pz := hid (show (M.inCube P && decide (0 ≤ M.zP P M.shL (-1))) = true from by subst hP; exact M.sh_zoneP (by dsimp only; omega) (by dsimp only; omega) (by dsimp only; omega) (by dsimp only; omega) rfl)
  have qz := hid (show (M.inCube Q && decide (0 ≤ M.zP Q M.shL (-1))) = true from by subst hQ; exact M.sh_zoneQ (by dsimp only; omega) (by dsimp only; omega) (by dsimp only; omega) (by dsimp only; omega) rfl)
  have H := hid (fun W => pairOf_sv M.shS P Q W (by decide) M.sh_err M.shL M.sh_top (by decide) M.sh_cub pz.out qz.out)
  have hP' := hid hP
  have hQ' := hid hQ
  subst hP hQ
  go_wp2_with fail
  refine (H.out _).mono ?_
  rintro e w2 ⟨hb, B, v, rfl, hB, hS, hv⟩
  have QP := hid ((show Blk _ w1.heap.size #[.int .i64 (1023 - ra), .int .i64 (1008 + rb), .int .i64 1000] 33 from (by repeat' (first | (with_reducible assumption) | (refine Blk.new ?_; (first | (simp; done) | rfl); done) | (with_reducible refine Blk.alloc ?_) | (with_reducible refine Blk.drew ?_) | (with_reducible refine Blk.drewN ?_)))).after hb)
  have QQ := hid ((show Blk _ (w1.heap.size + 1) #[.int .i64 (924 + rc), .int .i64 (1025 + rd), .int .i64 1000] 33 from (by repeat' (first | (with_reducible assumption) | (refine Blk.new ?_; (first | (simp; done) | rfl); done) | (with_reducible refine Blk.alloc ?_) | (with_reducible refine Blk.drew ?_) | (with_reducible refine Blk.drewN ?_)))).after hb)
  have B2 := hid (show Below w1.heap.size w1 w2 from bl (by go_grown) hb)
  have zB : w1.heap.size + 2 ≤ B := by simpa using hB
  have HS := hid hS
  clear hb hB hS hv H pz qz
  have W1 := hid (fun W => written_any (M.shC (1 + rk)) W (M.shC_fits (by omega) (by omega)))
  obtain ⟨g1, G, hg1, hG, hGt, hGh⟩ := M.shield (p := ⟨1023 - ra, 1008 + rb, 1000⟩) (q := ⟨924 + rc, 1025 + rd, 1000⟩) (aim := 1 + rk) ⟨by show 0 ≤ 1023 - ra; omega, by show 1023 - ra ≤ 4096; omega, by show 0 ≤ 1008 + rb; omega, by show 1008 + rb ≤ 4096; omega, by show (0 : Int) ≤ 1000; decide, by show (1000 : Int) ≤ 4096; decide⟩ ⟨by show 0 ≤ 924 + rc; omega, by show 924 + rc ≤ 4096; omega, by show 0 ≤ 1025 + rd; omega, by show 1025 + rd ≤ 4096; omega, by show (0 : Int) ≤ 1000; decide, by show (1000 : Int) ≤ 4096; decide⟩
  have HG1 : Hid ((M.duel ⟨1023 - ra, 1008 + rb, 1000⟩ ⟨924 + rc, 1025 + rd, 1000⟩).packet 0 (M.decR (M.shC (1 + rk)).pack) (M.decE (M.shC (1 + rk)).pack) = (0, g1)) := by
    unfold Hid
    have := M.dec_pack (M.shC_fits (aim := 1 + rk) (by omega) (by omega))
    rw [this.1, this.2]; exact hg1
  have HG2 := hid hG
  have HT := hid hGt
  have HH := hid hGh
  clear hg1 hG hGt hGh
  go_wp2_with fail
  refine (W1.out _).mono ?_
  rintro e w3 ⟨rfl, hb⟩
  have B3 := hid (bl B2.out hb)
  have S3 := hid (HS.out.after hb)
  have P3 := hid (QP.out.after hb)
  have Q3 := hid (QQ.out.after hb)
  clear hb B2 HS QP QQ W1
  have ps := M.pack_size (M.shC (1 + rk))
  generalize (M.shC (1 + rk)).pack = pk at *
  go_wp2_with fail
  refine (sv_packet S3.out 0 pk (by rw [ps]; unfold maxLen; omega) _ HG1).mono ?_
  rintro e w4 ⟨rfl, hs, ho⟩
  have B4 := hid (On.toBelow B3.out B3.out.size ho (by omega))
  have S4 := hid hs
  have P4 := hid (P3.out.on ho (by omega))
  have Q4 := hid (Q3.out.on ho (by omega))
  clear hs ho B3 S3 P3 Q3 HG1
  go_wp2_with fail
  refine (sv_tick S4.out _ HG2).mono ?_
  rintro e w5 ⟨rfl, hs, ho⟩
  have B5 := hid (On.toBelow B4.out B4.out.size ho (by omega))
  have S5 := hid hs
  have P5 := hid (P4.out.on ho (by omega))
  have Q5 := hid (Q4.out.on ho (by omega))
  clear hs ho B4 S4 P4 Q4 HG2
  obtain ⟨S, hS⟩ : ∃ S, G.snapS M.shL (M.prs M.shS) 1 = S := ⟨_, rfl⟩
  have HSn := hid hS
  have HSf : Hid (S = (⟨(G.snap M.shL (M.prs M.shS) 1).toArray⟩, 0)) := by unfold Hid; rw [← hS]; unfold M.PGame.snapS; rw [if_pos HT.out]; rfl
  clear hS
  go_wp2_with fail
  refine (sv_snap S5.out 1 S HSn).mono ?_
  rintro e w6 ⟨rfl, hb⟩
  have B6 := hid (bl B5.out hb)
  have P6 := hid (P5.out.after hb)
  have Q6 := hid (Q5.out.after hb)
  clear hb B5 S5 P5 Q5 HSn
  obtain ⟨n9, hsn⟩ := snap_head G M.shL (M.prs M.shS) 1
  have hrl := rows_len G M.shL (M.prs M.shS) 1 8 0 (by omega) (by omega)
  obtain rfl := HSf.out
  rw [hsn]
  generalize G.rows M.shL (M.prs M.shS) 1 8 0 = R at *
  clear hsn HSf
  obtain ⟨p0, p1, p2, pf, pl⟩ := P6.out.three
  obtain ⟨q0, q1, q2, qf, ql⟩ := Q6.out.three
  obtain ⟨Wy, hWy⟩ : ∃ Wy : Int, Wy = if 924 + rc - 8 - (1023 - ra) < 0 then 0 else 924 + rc - 8 - (1023 - ra) := ⟨_, rfl⟩
  have hC := M.shield_cost (p := ⟨1023 - ra, 1008 + rb, 1000⟩) (q := ⟨924 + rc, 1025 + rd, 1000⟩) (aim := 1 + rk) (by omega) (by omega) (by show 724 ≤ 1023 - ra; omega) (by show 1023 - ra ≤ 1023; omega) (by show 1008 ≤ 1008 + rb; omega) (by show 1008 + rb ≤ 1040; omega) rfl (by show 924 ≤ 924 + rc; omega) (by show 924 + rc ≤ 1323; omega) (by show 1025 ≤ 1025 + rd; omega) (by show 1025 + rd ≤ 1048; omega) rfl Wy hWy
  have hH : (G.seat 1).health = 100 - (if ((1008 + rb) ≤ 1024 ∧ 1024 - (1023 - ra) < Wy) ∨ ¬ ((1008 + rb) - (1025 + rd) ≤ 8 ∧ (1025 + rd) - (1008 + rb) ≤ 8 ∧ (1023 - ra) ≤ (924 + rc) + 8 ∧ Wy ≤ 16 * (1 + rk)) then 0 else 25) := by rw [HH.out]; exact congrArg (fun x => 100 - x) hC
  clear hC HH
  generalize (G.seat 1).health = H at *
  have hH2 : H = 100 ∨ H = 75 := by rw [hH]; split <;> omega
  have hx : ((M.b8 H).toNat : Int) = H := M.b8_lt H (by omega) (by omega)
  have HHid := hid hH
  have HW := hid hWy
  clear hH hWy
  obtain ⟨R1, hR1⟩ : ∃ R1 : Int, (if 1008 + rb < 1025 + rd then 1025 + rd - (1008 + rb) else 1008 + rb - (1025 + rd)) = R1 := ⟨_, rfl⟩
  have HR1 := hid hR1
  have hR2 : R1 = 1025 + rd - (1008 + rb) ∨ R1 = 1008 + rb - (1025 + rd) := by rw [← hR1]; split; exact .inl rfl; exact .inr rfl
  have hR3 := hid hR2
  clear hR1 hR2
  by_cases hw0 : 924 + rc - 8 - (1023 - ra) < 0
  · go_wp2_with fail
    refine (koff_any (1008 + rb) (1025 + rd) _ (by omega) (by omega) (by omega) (by omega) R1 HR1).mono ?_
    rintro e w7 ⟨rfl, rfl⟩
    go_wp2
    all_goals
      go_ret
      have h5 := HHid.out
      have h6 := HW.out
      have h8 := HR1.out
      first
        | refine ⟨ret_bool (show (wrap64 ((M.b8 H).toNat : Int) == 75) = true from ?_), B6.out⟩
          rw [hx, IntWalk.wrap64_in _ ⟨by omega, by omega⟩, beq_iff_eq]
          split at h8 <;> split at h6 <;> split at h5 <;> omega
        | refine ⟨ret_bool (show (wrap64 ((M.b8 H).toNat : Int) == 100) = true from ?_), B6.out⟩
          rw [hx, IntWalk.wrap64_in _ ⟨by omega, by omega⟩, beq_iff_eq]
          split at h8 <;> split at h6 <;> split at h5 <;> omega
  · go_wp2_with fail
    refine (koff_any (1008 + rb) (1025 + rd) _ (by omega) (by omega) (by omega) (by omega) R1 HR1).mono ?_
    rintro e w7 ⟨rfl, rfl⟩
    go_wp2
    all_goals
      go_ret
      have h5 := HHid.out
      have h6 := HW.out
      have h8 := HR1.out
      first
        | refine ⟨ret_bool (show (wrap64 ((M.b8 H).toNat : Int) == 75) = true from ?_), B6.out⟩
          rw [hx, IntWalk.wrap64_in _ ⟨by omega, by omega⟩, beq_iff_eq]
          split at h8 <;> split at h6 <;> split at h5 <;> omega
        | refine ⟨ret_bool (show (wrap64 ((M.b8 H).toNat : Int) == 100) = true from ?_), B6.out⟩
          rw [hx, IntWalk.wrap64_in _ ⟨by omega, by omega⟩, beq_iff_eq]
          split at h8 <;> split at h6 <;> split at h5 <;> omega

end Go.Proofs.Ytonmihojfcjmjab
