import Derived.Test.YtonmihojfcjmjabSh5
import Derived.Test.YtonmihojfcjmjabSh6
import Derived.Test.YtonmihojfcjmjabBM
/- Contracts of the program's shots: shoot. -/
namespace Go.Proofs.Ytonmihojfcjmjab
open Go.RowKit
set_option linter.unusedVariables false
attribute [local go_sem] cell_set_off cell_set_blk
attribute [local go_sem ↓] big65 big65'

theorem cooling_is (b o : Nat) (w : World) (r t : Int) (hc : w.cell? ⟨b, o + 8, none⟩ = some (.int .i64 r)) (r1 : -10000 ≤ r) (r2 : r ≤ 10000) (t1 : 0 ≤ t) (t2 : t ≤ 3000) (C : Int) (hC : Hid ((if r ≤ t then 0 else r - t) = C)) : Calls Try.prog 70 #[.pointer (some ⟨b, o, none⟩), .int .i64 t] w fun e w' => e = .returned (.int .i64 C) ∧ w' = w := by
  rw [← hC.out]
  exact cooling_any b o w r t hc r1 r2 t1 t2
theorem shoot_no {g : M.PGame} {ls : List M.Lf} {i : Nat} {c : M.Cmd} (h : g.canShoot i = false) : g.shoot ls i c = g := by unfold M.PGame.shoot; rw [if_neg (by simp [h])]

set_option maxRecDepth 100000 in
set_option maxHeartbeats 4000000 in
theorem pShoot_no (b : Nat) (mv : Value) (ps : Nat → Bool) (g : M.PGame) (i : Nat) (c : M.Cmd) (w : World) (h : Pg w b mv ps g) (hi : i < 8) (hk : g.Ok) (hn : g.canShoot i = false) :
    Calls Try.prog 51 #[.pointer (some ⟨b, 0, none⟩), .int .i64 i, .agg #[.int .i64 c.seq, .bool c.fire, .int .i64 c.mv.x, .int .i64 c.mv.y, .int .i64 c.mv.z, .int .i64 c.aim.x, .int .i64 c.aim.y, .int .i64 c.aim.z, .int .i64 c.time]] w fun e w' => e = .returned (.tuple #[]) ∧ Pg w' b mv ps g ∧ On b w w' := by
  have HP := hid h
  have hlt := h.lt
  have j0 : (0 : Int) ≤ (i : Int) := by omega
  have j1 : (i : Int) < 8 := by omega
  have r0 := (hk.s i).r0
  have r1 := (hk.s i).r1
  have t0 := hk.t0
  have t1 := hk.t1
  have c46 := (h.se hi).c46
  have c47 := (h.se hi).c47
  have c48 := (h.se hi).c48
  have c65 := h.ct
  have HP2 := hid (HP.out.alloc (.cells #[.int .i64 c.seq, .bool c.fire, .int .i64 c.mv.x, .int .i64 c.mv.y, .int .i64 c.mv.z, .int .i64 c.aim.x, .int .i64 c.aim.y, .int .i64 c.aim.z, .int .i64 c.time] 74))
  have HO2 := hid (show On b w (w.alloc (.cells #[.int .i64 c.seq, .bool c.fire, .int .i64 c.mv.x, .int .i64 c.mv.y, .int .i64 c.mv.z, .int .i64 c.aim.x, .int .i64 c.aim.y, .int .i64 c.aim.z, .int .i64 c.time] 74)) from On.below (by go_grown))
  have d46 := (HP2.out.se hi).c46
  have d48 := (HP2.out.se hi).c48
  obtain ⟨C, hC⟩ : ∃ C, (if (g.seat i).ready ≤ g.tick then 0 else (g.seat i).ready - g.tick) = C := ⟨_, rfl⟩
  have HC := hid hC
  clear h
  by_cases hl : 0 < (g.seat i).health
  · have HL : Hid (decide (0 < (g.seat i).health) = true) := decide_eq_true hl
    by_cases ha : (g.seat i).ammo = 0
    · have z : ((g.seat i).ammo == 0) = true := by simp [ha]
      clear hn hl ha hk hC
      go_enter Try.func51, Try.ntmps51
      go_wp2_with fail
      refine (cooling_is b (66 + i * 119 + 40) _ (g.seat i).ready g.tick d48 (by omega) (by omega) t0 t1 C HC).mono ?_
      rintro e w1 ⟨rfl, rfl⟩
      go_wp2_with fail
      refine (live_any b (66 + i * 119 + 40) _ (g.seat i).health d46 true HL).mono ?_
      rintro e w1 ⟨rfl, rfl⟩
      go_wp2
      exact bodyPost_ret (v := .tuple #[]) (by simp [results, Try.results51, go_sem]) rfl ⟨rfl, HP2.out, HO2.out⟩
    · have z : ((g.seat i).ammo == 0) = false := by simp [ha]
      have hr : ¬ (g.seat i).ready ≤ g.tick := by
        intro h
        unfold M.PGame.canShoot at hn
        simp [hl, ha, h] at hn
      have z2 : (0 : Int) < C := by rw [← hC, if_neg hr]; omega
      clear hr
      clear hn hl ha hk hC
      go_enter Try.func51, Try.ntmps51
      go_wp2_with fail
      refine (cooling_is b (66 + i * 119 + 40) _ (g.seat i).ready g.tick d48 (by omega) (by omega) t0 t1 C HC).mono ?_
      rintro e w1 ⟨rfl, rfl⟩
      go_wp2_with fail
      refine (live_any b (66 + i * 119 + 40) _ (g.seat i).health d46 true HL).mono ?_
      rintro e w1 ⟨rfl, rfl⟩
      go_wp2
      exact bodyPost_ret (v := .tuple #[]) (by simp [results, Try.results51, go_sem]) rfl ⟨rfl, HP2.out, HO2.out⟩
  · have HL : Hid (decide (0 < (g.seat i).health) = false) := decide_eq_false hl
    clear hn hl hk hC
    go_enter Try.func51, Try.ntmps51
    go_wp2_with fail
    refine (cooling_is b (66 + i * 119 + 40) _ (g.seat i).ready g.tick d48 (by omega) (by omega) t0 t1 C HC).mono ?_
    rintro e w1 ⟨rfl, rfl⟩
    go_wp2_with fail
    refine (live_any b (66 + i * 119 + 40) _ (g.seat i).health d46 false HL).mono ?_
    rintro e w1 ⟨rfl, rfl⟩
    go_wp2
    exact bodyPost_ret (v := .tuple #[]) (by simp [results, Try.results51, go_sem]) rfl ⟨rfl, HP2.out, HO2.out⟩

end Go.Proofs.Ytonmihojfcjmjab
