import Derived.Test.YtonmihojfcjmjabBKp
import Derived.Test.YtonmihojfcjmjabRwN
/- Rewound: contracts of its helpers. -/
namespace Go.Proofs.Ytonmihojfcjmjab
open Go.RowKit
set_option linter.unusedVariables false
attribute [local go_sem] cell_set_off cell_set_blk

set_option maxHeartbeats 1000000 in
theorem kbetween_any (n lo hi : Int) (w : World) (R : Int) (hR : Hid ((if n < lo then lo else if hi < n then hi else n) = R)) :
    Calls Try.prog 37 #[.int .i64 n, .int .i64 lo, .int .i64 hi] w fun e w' => e = .returned (.int .i64 R) ∧ w' = w := by
  by_cases h1 : n < lo
  · obtain rfl : lo = R := by rw [← hR.out, if_pos h1]
    clear hR
    go_enter Try.func37, Try.ntmps37
    go_wp2
    go_ret
    exact ⟨rfl, rfl⟩
  · by_cases h2 : hi < n
    · obtain rfl : hi = R := by rw [← hR.out, if_neg h1, if_pos h2]
      clear hR
      go_enter Try.func37, Try.ntmps37
      go_wp2
      go_ret
      exact ⟨rfl, rfl⟩
    · obtain rfl : n = R := by rw [← hR.out, if_neg h1, if_neg h2]
      clear hR
      go_enter Try.func37, Try.ntmps37
      go_wp2
      go_ret
      exact ⟨rfl, rfl⟩

theorem wat_num (v T : Int) (h1 : -32 ≤ v) (h2 : v ≤ 32) : (T % 256 * v + 8192) / 256 - 32 = T % 256 * v / 256 := by
  generalize T % 256 * v = x
  omega

set_option maxHeartbeats 1000000 in
theorem walked_any (v last t : Int) (w : World) (v1 : -32 ≤ v) (v2 : v ≤ 32) (l1 : 1 ≤ last) (l2 : last ≤ 40) (t1 : 0 ≤ t) (t2 : t ≤ 16777215) (R : Int) (hR : Hid ((M.wat v (if M.timeP last t < 256 then 256 else M.timeP last t)).y = R)) :
    Calls Try.prog 21 #[.int .i64 v, .int .i64 last, .int .i64 t] w fun e w' => e = .returned (.int .i64 R) ∧ w' = w := by
  obtain ⟨T, hT⟩ : ∃ T, M.timeP last t = T := ⟨_, rfl⟩
  rw [hT] at hR
  have T0 : 0 ≤ T ∧ T ≤ 10240 := by rw [← hT]; unfold M.timeP; split; omega; split <;> omega
  obtain ⟨T1, T2⟩ := T0
  have K := hid (fun W => kbetween_any t (256 * (last - 16)) (256 * last) W T (hid hT))
  clear hT
  by_cases h : T < 256
  · rw [if_pos h] at hR
    have HR : Hid (2048 + 1 * v + 0 = R) := by
      unfold Hid; rw [← hR.out]; unfold M.wat
      show _ = 2048 + 256 / 256 * v + 256 % 256 * v / 256
      rw [show (256 : Int) / 256 = 1 by decide, show (256 : Int) % 256 = 0 by decide, Int.zero_mul]; rfl
    clear hR
    go_enter Try.func21, Try.ntmps21
    go_wp2_with fail
    refine (K.out _).mono ?_
    rintro e w1 ⟨rfl, rfl⟩
    clear K
    go_wp2
    go_ret
    exact ⟨congrArg (fun z => Ending.returned (.int .i64 z)) (by have := HR.out; omega), rfl⟩
  · rw [if_neg h] at hR
    obtain ⟨q, hq⟩ : ∃ q, T / 256 = q := ⟨_, rfl⟩
    obtain ⟨r, hr⟩ : ∃ r, T % 256 = r := ⟨_, rfl⟩
    have b1 := M.mul_bound (a := q) (b := v) (A := 40) (B := 32) (by omega) (by omega) v1 v2
    have b2 := M.mul_bound (a := r) (b := v) (A := 255) (B := 32) (by omega) (by omega) v1 v2
    have q0 : 0 ≤ q := by omega
    have q9 : q ≤ 40 := by omega
    have r0 : 0 ≤ r := by omega
    have r9 : r ≤ 255 := by omega
    obtain ⟨b11, b12⟩ := b1
    obtain ⟨b21, b22⟩ := b2
    have HR : Hid (2048 + q * v + (r * v + 8192) / 256 - 32 = R) := by
      unfold Hid; rw [← hR.out]; unfold M.wat
      show _ = 2048 + T / 256 * v + T % 256 * v / 256
      rw [hq, hr]
      have : (r * v + 8192) / 256 - 32 = r * v / 256 := by generalize r * v = x; omega
      omega
    have tq : T.tdiv 256 = q := by rw [Int.tdiv_eq_ediv_of_nonneg T1]; exact hq
    have tr : T.tmod 256 = r := by rw [Int.tmod_eq_emod_of_nonneg T1]; exact hr
    clear hR hq hr
    go_enter Try.func21, Try.ntmps21
    go_wp2_with fail
    refine (K.out _).mono ?_
    rintro e w1 ⟨rfl, rfl⟩
    clear K
    go_wp2
    go_ret
    exact ⟨congrArg (fun z => Ending.returned (.int .i64 z)) (by have := HR.out; omega), rfl⟩

/-- What the shot leaves. -/
structure M.RwFin (v : Int) (B : M.V3) (last : Nat) (aim t : Int) (G : M.PGame) : Prop where
  tk : G.tick = (last : Int)
  a0 : (G.seat 0).taken = true
  a1 : (G.seat 0).ammo = 6
  a2 : (G.seat 0).place = ⟨2048, 2048 + (last : Int) * v, 2048⟩
  b0 : (G.seat 1).taken = true
  b1 : (G.seat 1).health = 100
  b2 : (G.seat 1).ammo = 5
  b3 : (G.seat 1).ready = (last : Int) + 3
  h : (G.seat 0).health = 100 - M.cost M.z0L B ⟨16 * aim, 0, 0⟩ (M.wat v (if M.timeP (last : Int) t < 256 then 256 else M.timeP (last : Int) t))

theorem wcmd_fits {v : Int} {j : Nat} (h1 : -32 ≤ v) (h2 : v ≤ 32) (hj : j < 40) : M.Fits (M.wcmd v j) :=
  ⟨by show (1 : Int) ≤ (j : Int) + 1; omega, by show (j : Int) + 1 ≤ 65535; omega, by show (0 : Int) ≤ 0; decide, by show (0 : Int) ≤ 16777215; decide, ⟨by show (-128 : Int) ≤ 0; decide, by show (0 : Int) ≤ 127; decide, by show -128 ≤ v; omega, by show v ≤ 127; omega, by show (-128 : Int) ≤ 0; decide, by show (0 : Int) ≤ 127; decide⟩, ⟨by show (-128 : Int) ≤ 0; decide, by show (0 : Int) ≤ 127; decide, by show (-128 : Int) ≤ 0; decide, by show (0 : Int) ≤ 127; decide, by show (-128 : Int) ≤ 0; decide, by show (0 : Int) ≤ 127; decide⟩⟩
theorem scmd_fits {aim t : Int} (h1 : 1 ≤ aim) (h2 : aim ≤ 120) (t1 : 0 ≤ t) (t2 : t ≤ 16777215) : M.Fits (M.scmd aim t) :=
  ⟨by show (1 : Int) ≤ 1; decide, by show (1 : Int) ≤ 65535; decide, t1, t2, ⟨by show (-128 : Int) ≤ 0; decide, by show (0 : Int) ≤ 127; decide, by show (-128 : Int) ≤ 0; decide, by show (0 : Int) ≤ 127; decide, by show (-128 : Int) ≤ 0; decide, by show (0 : Int) ≤ 127; decide⟩, ⟨by show -128 ≤ aim; omega, by show aim ≤ 127; omega, by show (-128 : Int) ≤ 0; decide, by show (0 : Int) ≤ 127; decide, by show (-128 : Int) ≤ 0; decide, by show (0 : Int) ≤ 127; decide⟩⟩

set_option maxRecDepth 100000 in
set_option maxHeartbeats 2000000 in
theorem fought_any (b last : Nat) (V : Value) (ps : Nat → Bool) (g : M.PGame) (v aim t : Int) (B : M.V3) (w : World) (hS : Sv w b V M.z0L ps g) (hR : M.Rw v B 0 g) (hB : M.InB M.cubeLo M.cubeHi B) (v1 : -32 ≤ v) (v2 : v ≤ 32) (l1 : 1 ≤ last) (l2 : last ≤ 40) (a1 : 1 ≤ aim) (a2 : aim ≤ 120) (t1 : 0 ≤ t) (t2 : t ≤ 16777215) :
    Calls Try.prog 20 #[.pointer (some ⟨b, 0, none⟩), .int .i64 v, .int .i64 last, .int .i64 aim, .int .i64 t] w fun e w' => e = .returned (.bool true) ∧ (∃ G, Sv w' b V M.z0L ps G ∧ M.RwFin v B last aim t G) ∧ On b w w' := by
  have HS := hid hS
  have HR := hid hR
  have HB := hid hB
  clear hS hR hB
  go_enter Try.func20, Try.ntmps20
  go_wp2_with fail
  go_loopg [11, 12, 13, 14] (last + 1) (fun k u11 u12 u13 u14 wr => ∃ (j : Nat) (g : M.PGame), u11 = .int .i64 ((j : Int) + 1) ∧ j ≤ last ∧ k + j = last + 1 ∧ Hid (Sv wr b V M.z0L ps g) ∧ Hid (j < last → M.Rw v B j g) ∧ Hid (j = last → M.RwFin v B last aim t g) ∧ Hid (On b w wr))
  case atStart => exact ⟨0, g, rfl, by omega, by omega, HS, hid (fun _ => HR.out), hid (fun e => by omega), hid (On.refl _ _)⟩
  case round =>
    clear HS HR
    obtain ⟨j, g, rfl, hj, hk, SJ, RJ, FJ, OJ⟩ := hrel
    by_cases hlt : j < last
    · have R := RJ.out hlt
      have j1 : (j : Int) + 1 ≤ (last : Int) := by omega
      have j40 : j < 40 := by omega
      have W1 := hid (fun W => written_any (M.wcmd v j) W (wcmd_fits v1 v2 j40))
      have E1 : Hid (g.packet 0 (M.decR (M.wcmd v j).pack) (M.decE (M.wcmd v j).pack) = (0, g.put 0 ((g.seat 0).put (M.wcmd v j)))) := by
        unfold Hid
        have := M.dec_pack (wcmd_fits (j := j) v1 v2 j40)
        rw [this.1, this.2]; exact R.packet0
      have HRj := hid R
      clear R RJ FJ
      go_wp2_with fail
      refine (W1.out _).mono ?_
      rintro e w1 ⟨rfl, hb⟩
      have S1 := hid (SJ.out.after hb)
      have O1 := hid (OJ.out.trans (On.below hb))
      clear hb SJ OJ W1
      have pz := M.pack_size (M.wcmd v j)
      generalize (M.wcmd v j).pack = pk at *
      go_wp2_with fail
      refine (sv_packet S1.out 0 pk (by rw [pz]; unfold maxLen; omega) _ E1).mono ?_
      rintro e w2 ⟨rfl, hs, ho⟩
      have S2 := hid hs
      have O2 := hid (O1.out.trans ho)
      clear hs ho S1 O1 E1 pz
      by_cases hl : j + 1 = last
      · have z : ((j : Int) + 1 == (last : Int)) = true := by simp; omega
        have W2 := hid (fun W => written_any (M.scmd aim t) W (scmd_fits a1 a2 t1 t2))
        have E2 : Hid ((g.put 0 ((g.seat 0).put (M.wcmd v j))).packet 1 (M.decR (M.scmd aim t).pack) (M.decE (M.scmd aim t).pack) = (0, (g.put 0 ((g.seat 0).put (M.wcmd v j))).put 1 ((g.seat 1).put (M.scmd aim t)))) := by
          unfold Hid
          have := M.dec_pack (scmd_fits a1 a2 t1 t2)
          rw [this.1, this.2]; exact HRj.out.packet1 _ aim t
        obtain ⟨G, hG, f1, f2, f3, f4, f5, f6, f7, f8, f9⟩ := HRj.out.last v1 v2 j40 HB.out aim t t1
        rw [hl] at f1 f4 f8 f9
        have HF := hid (show M.RwFin v B last aim t G from ⟨f1, f2, f3, f4, f5, f6, f7, f8, f9⟩)
        have HG := hid hG
        clear f1 f2 f3 f4 f5 f6 f7 f8 f9 hG
        go_wp2_with fail
        refine (W2.out _).mono ?_
        rintro e w3 ⟨rfl, hb⟩
        have S3 := hid (S2.out.after hb)
        have O3 := hid (O2.out.trans (On.below hb))
        clear hb S2 O2 W2
        have pz := M.pack_size (M.scmd aim t)
        generalize (M.scmd aim t).pack = pk2 at *
        go_wp2_with fail
        refine (sv_packet S3.out 1 pk2 (by rw [pz]; unfold maxLen; omega) _ E2).mono ?_
        rintro e w4 ⟨rfl, hs, ho⟩
        have S4 := hid hs
        have O4 := hid (O3.out.trans ho)
        clear hs ho S3 O3 E2 pz
        go_wp2_with fail
        refine (sv_tick S4.out _ HG).mono ?_
        rintro e w5 ⟨rfl, hs, ho⟩
        have S5 := hid hs
        have O5 := hid (O4.out.trans ho)
        clear hs ho S4 O4 HG
        go_wp2
        go_roundg (gk - 1)
        case measure => omega
        case rel => exact ⟨j + 1, G, by go_num, by omega, by omega, S5, hid (fun e => by omega), hid (fun _ => HF.out), O5⟩
      · have z : ((j : Int) + 1 == (last : Int)) = false := by simp; omega
        obtain ⟨G, hG, hR2⟩ := HRj.out.next v1 v2 j40
        have HG := hid hG
        have HR2 := hid hR2
        clear hG hR2
        go_wp2_with fail
        refine (sv_tick S2.out _ HG).mono ?_
        rintro e w5 ⟨rfl, hs, ho⟩
        have S5 := hid hs
        have O5 := hid (O2.out.trans ho)
        clear hs ho S2 O2 HG
        go_wp2
        go_roundg (gk - 1)
        case measure => omega
        case rel => exact ⟨j + 1, G, by go_num, by omega, by omega, S5, hid (fun _ => HR2.out), hid (fun e => by omega), O5⟩
    · obtain rfl : j = last := by omega
      have j1 : ¬ (j : Int) + 1 ≤ (j : Int) := by omega
      have F := hid (FJ.out rfl)
      clear RJ FJ
      go_wp2
      go_ret
      exact ⟨rfl, ⟨g, SJ.out, F.out⟩, OJ.out⟩

end Go.Proofs.Ytonmihojfcjmjab
