import Derived.Test.YtonmihojfcjmjaaGreatBSi
import Derived.Test.YtonmihojfcjmjaaGreatBQb
import Derived.Deep.MidRow
import Derived.Test.YtonmihojfcjmjaaGreatBM
import Derived.Test.YtonmihojfcjmjaaGreatBPl
/- Contracts of the program's shots: nothing solid is ahead. -/
namespace Go.Proofs.YtonmihojfcjmjaaGreat
open Go.RowKit
set_option linter.unusedVariables false
attribute [local go_sem] cell_set_off cell_set_blk
attribute [local go_sem ↓] big65 big65'

set_option maxRecDepth 100000 in
set_option maxHeartbeats 4000000 in
theorem pReaches_any (b : Nat) (x : Option Addr) (n cap : Nat) (ps : Nat → Bool) (ls : List M.Lf) (g : M.PGame) (p d : M.V3) (t a k : Int) (w : World) (h : Pg w b (.slice x n cap) ps g) (hown : w.ownsRow 0 137 7 (.slice x n cap) ls.length (flat ls)) (hl : ls.length ≤ 512) (hc : ∀ l ∈ ls, l.lo.Cub ∧ l.hi.Cub) (hp : p.Near) (hd : d.Near) (a0 : 0 ≤ a) (a1 : a ≤ k) (k0 : 1 ≤ k) (k1 : k ≤ 1048576) (B : Bool) (hB : Hid (M.reachB (M.entO (M.US p d ls)) a k = B)) :
    Calls Tryz.prog 101 #[.pointer (some ⟨b, 0, none⟩), .agg #[.int .i64 p.x, .int .i64 p.y, .int .i64 p.z, .int .i64 d.x, .int .i64 d.y, .int .i64 d.z, .int .i64 t], .agg #[.int .i64 a, .int .i64 k]] w fun e w' => e = .returned (.bool B) ∧ Below w.heap.size w w' := by
  have HP := hid h
  have HO := hid hown
  have HC := hid hc
  have hlt := h.lt
  have HN := hid (And.intro hp hd)
  clear h hown hc hp hd
  go_enter Tryz.func101, Tryz.ntmps101
  go_upto_region 1 with fail
  obtain ⟨X, hX⟩ : ∃ X, (w.alloc (.cells #[.int .i64 p.x, .int .i64 p.y, .int .i64 p.z, .int .i64 d.x, .int .i64 d.y, .int .i64 d.z, .int .i64 t] 164)).alloc (.cells #[.int .i64 a, .int .i64 k] 166) = X := ⟨_, rfl⟩
  have QS := hid (show Blk X w.heap.size #[.int .i64 p.x, .int .i64 p.y, .int .i64 p.z, .int .i64 d.x, .int .i64 d.y, .int .i64 d.z, .int .i64 t] 164 from by rw [← hX]; exact (by repeat' (first | (with_reducible assumption) | (refine Blk.new ?_; (first | (simp; done) | rfl); done) | (with_reducible refine Blk.alloc ?_) | (with_reducible refine Blk.drew ?_) | (with_reducible refine Blk.drewN ?_))))
  have QF := hid (show Blk X (w.heap.size + 1) #[.int .i64 a, .int .i64 k] 166 from by rw [← hX]; exact (by repeat' (first | (with_reducible assumption) | (refine Blk.new ?_; (first | (simp; done) | rfl); done) | (with_reducible refine Blk.alloc ?_) | (with_reducible refine Blk.drew ?_) | (with_reducible refine Blk.drewN ?_))))
  have BX := hid (show Below w.heap.size w X from by rw [← hX]; go_grown)
  have PX := hid (HP.out.after BX.out)
  have OX := hid (own_of HO.out (fun k hk => BX.out.block k (own_lt HO.out hk)))
  have zX : w.heap.size + 2 ≤ X.heap.size := by rw [← hX]; simp
  rw [hX]
  clear hX HP HO
  obtain ⟨c0, c1, c2, c3, c4, c5, c6, cf, cl⟩ := QS.out.seven7
  obtain ⟨L, hL⟩ : ∃ L, (cellsOf 65 (mapC (.slice x n cap) ps)).toList = L := ⟨_, rfl⟩
  have hLn : L.length = 65 := by rw [← hL]; simp [cellsOf]
  have HL0 := hid (show L.toArray[0]? = some (.slice x n cap) from by rw [← hL]; simp [cellsOf, mapC])
  have hrg := hid (show ∀ W' : World, Below X.heap.size X W' → W'.rangeAt b 0 L from fun W' hB j v hv => by
    rw [← hL, Array.getElem?_toList] at hv
    have hj : j < 65 := by
      have := (Array.getElem?_eq_some_iff.1 hv).1
      simpa [cellsOf] using this
    rw [cellsOf_get _ hj] at hv
    rw [(PX.out.after hB).cm j hj]
    exact hv)
  have hbig : ∀ W' : World, W'.rangeAt b 0 L → (big 65 ⟨b, 0, none⟩).run Tryz.prog W' = .ok L.toArray W' := fun W' h => by
    have := run_loadCells_list (P := Tryz.prog) W' ⟨b, 0, none⟩ L (fun j v hv => by rw [Addr.add_mid]; exact h j v hv)
    rw [hLn] at this
    exact this
  have rg0 := hrg.out X (Below.refl _ _)
  have ka : ∀ (W' : World) (o : Obj), W'.rangeAt b 0 L → (W'.alloc o).rangeAt b 0 L := fun W' o h => World.rangeAt_alloc h o
  have ks : ∀ (W' : World) (q k : Nat) (v : Value), q ≠ b → W'.rangeAt b 0 L → (W'.setCell ⟨q, k, none⟩ v).rangeAt b 0 L := fun W' q k v hq h j u hu => by rw [cell_set_blk _ _ _ _ _ _ hq]; exact h j u hu
  have hun : Tryz.prog.underlying 46 = some _ := Tryz.underlying46
  have hin : (Tryz.prog.info? 46).map (·.size) = some L.length := by rw [hLn]; kernel_rfl
  have hltX := PX.out.lt
  have e3 : X.heap.size ≠ b := by omega
  have e4 : X.heap.size ≠ w.heap.size := by omega
  clear hL hLn
  go_cut [7, 8] (fun c c2 wx => ∃ (f : Bool) (n1 k1 : Int) (fB : Nat), c = .bool f ∧ c2 = .pointer (some ⟨fB, 0, none⟩) ∧ Blk wx fB #[.int .i64 n1, .int .i64 k1] 166 ∧ M.EntG (M.US p d ls) f n1 k1 ∧ Below X.heap.size X wx)
  case first =>
    go_region_held3 (fun w' => (w'.rangeAt b 0 L) ∧ w'.cell? ⟨w.heap.size, 0, none⟩ = some (.int .i64 p.x) ∧ w'.cell? ⟨w.heap.size, 1, none⟩ = some (.int .i64 p.y) ∧ w'.cell? ⟨w.heap.size, 2, none⟩ = some (.int .i64 p.z) ∧ w'.cell? ⟨w.heap.size, 3, none⟩ = some (.int .i64 d.x) ∧ w'.cell? ⟨w.heap.size, 4, none⟩ = some (.int .i64 d.y) ∧ w'.cell? ⟨w.heap.size, 5, none⟩ = some (.int .i64 d.z)) (go_keep)
      (first | (go_at_call 110; refine (mapTrace_any L.toArray x n cap 0 ls p d (X.alloc (.cells #[.int .i64 0, .int .i64 0] 166)).drew HL0.out (own_of OX.out (fun k hk => Below.heap_alloc X _ k (own_lt OX.out hk))) hl HN.out.1 HN.out.2 HC.out).mono ?_; rintro e w2 ⟨f, n1, k1, rfl, hG2, hb2⟩; have B2 : Below X.heap.size X w2 := bl (by go_grown) hb2; obtain ⟨c0, c1, c2, c3, c4, c5, c6, cf, cl⟩ := (QS.out.after B2).seven7; have rg2 := hrg.out w2 B2; have e1 : w2.heap.size ≠ b := (by have := B2.size; omega); have e2 : w2.heap.size ≠ w.heap.size := (by have := B2.size; omega); have HG2 := hid hG2; clear hG2; have qg := (show Blk (X.alloc (.cells #[.int .i64 0, .int .i64 0] 166)).drew X.heap.size #[.int .i64 0, .int .i64 0] 166 from Blk.drew (Blk.new rfl)).after hb2; obtain ⟨h0, h1, hf, hl'⟩ := qg.two) | (go_at_call 110; refine (mapTrace_any L.toArray x n cap 0 ls p d X.drew HL0.out (own_of OX.out (fun k hk => rfl)) hl HN.out.1 HN.out.2 HC.out).mono ?_; rintro e w2 ⟨f, n1, k1, rfl, hG2, hb2⟩; have B2 : Below X.heap.size X w2 := bl (by go_grown) hb2; obtain ⟨c0, c1, c2, c3, c4, c5, c6, cf, cl⟩ := (QS.out.after B2).seven7; have rg2 := hrg.out w2 B2; have e1 : w2.heap.size ≠ b := (by have := B2.size; omega); have e2 : w2.heap.size ≠ w.heap.size := (by have := B2.size; omega); have HG2 := hid hG2; clear hG2))
    all_goals
      go_wp2_with fail
      go_meet
      first | exact ⟨f, n1, k1, w2.heap.size, rfl, rfl, Blk.new rfl, HG2.out, by have := B2.size; go_grown⟩ | exact ⟨f, n1, k1, X.heap.size, rfl, rfl, (qg.set 0 _).set 1 _, HG2.out, by have := B2.size; go_grown⟩
  case rest =>
    obtain ⟨f, n1, k1, fB, rfl, rfl, QG, hG, BY⟩ := hcut
    generalize wc = Y at *
    have QFY := hid (QF.out.after BY)
    have BYw := hid (bl BX.out BY)
    have HQ := hid QG
    have eO := M.entO_is hG
    have yes := hG.yes
    clear QF QS PX OX BX BY QG hG c0 c1 c2 c3 c4 c5 c6 cf cl rg0 ka ks hun hin hrg hbig e3 e4 hltX HL0
    rw [eO] at hB
    clear eO
    obtain ⟨f0, f1, ff, fl⟩ := QFY.out.two
    obtain ⟨g0, g1, gf, gl⟩ := HQ.out.two
    cases f
    · obtain rfl : true = B := hB.out
      clear hB yes
      go_wp2
      go_ret
      exact ⟨rfl, BYw.out⟩
    · obtain ⟨y1, y2, y3, y4, _⟩ := yes rfl
      have HB : Hid ((!decide (n1 * k < a * k1)) = B) := hB
      clear hB yes
      obtain ⟨C, hC⟩ : ∃ C, decide (n1 * k < a * k1) = C := ⟨_, rfl⟩
      have HC2 := hid hC
      rw [hC] at HB
      clear hC
      go_wp2_with fail
      refine (above_is a k n1 k1 _ C HC2 (by omega) (by omega) (by omega) (by omega) (by omega) (by omega) (by omega) (by omega)).mono ?_
      rintro e w3 ⟨rfl, hb3⟩
      have B3 := hid (bl BYw.out hb3)
      clear hb3
      go_wp2
      go_ret
      exact ⟨ret_bool HB.out, B3.out⟩

end Go.Proofs.YtonmihojfcjmjaaGreat

/- Contracts of the program's shots: shoot. -/
namespace Go.Proofs.YtonmihojfcjmjaaGreat
open Go.RowKit
set_option linter.unusedVariables false
attribute [local go_sem] cell_set_off cell_set_blk
attribute [local go_sem ↓] big65 big65'

theorem cooling_is (b o : Nat) (w : World) (r t : Int) (hc : w.cell? ⟨b, o + 8, none⟩ = some (.int .i64 r)) (r1 : -10000 ≤ r) (r2 : r ≤ 10000) (t1 : 0 ≤ t) (t2 : t ≤ 3000) (C : Int) (hC : Hid ((if r ≤ t then 0 else r - t) = C)) : Calls Tryz.prog 88 #[.pointer (some ⟨b, o, none⟩), .int .i64 t] w fun e w' => e = .returned (.int .i64 C) ∧ w' = w := by
  rw [← hC.out]
  exact cooling_any b o w r t hc r1 r2 t1 t2
theorem shoot_no {g : M.PGame} {ls : List M.Lf} {i : Nat} {c : M.Cmd} (h : g.canShoot i = false) : g.shoot ls i c = g := by unfold M.PGame.shoot; rw [if_neg (by simp [h])]

set_option maxRecDepth 100000 in
set_option maxHeartbeats 4000000 in
theorem pShoot_no (b : Nat) (mv : Value) (ps : Nat → Bool) (g : M.PGame) (i : Nat) (c : M.Cmd) (w : World) (h : Pg w b mv ps g) (hi : i < 8) (hk : g.Ok) (hn : g.canShoot i = false) :
    Calls Tryz.prog 81 #[.pointer (some ⟨b, 0, none⟩), .int .i64 i, .agg #[.int .i64 c.seq, .bool c.fire, .int .i64 c.mv.x, .int .i64 c.mv.y, .int .i64 c.mv.z, .int .i64 c.aim.x, .int .i64 c.aim.y, .int .i64 c.aim.z, .int .i64 c.time]] w fun e w' => e = .returned (.tuple #[]) ∧ Pg w' b mv ps g ∧ On b w w' := by
  have HP := hid h
  have hlt := h.lt
  have j0 : (0 : Int) ≤ (i : Int) := by omega
  have j1 : (i : Int) < 8 := by omega
  have r0 := (hk.s i).r0
  have r1 := (hk.s i).r1
  have t0 := hk.t0
  have t1 := hk.t1
  have c46 := (h.se hi).c46
  have c47 := (h.se hi).c47
  have c48 := (h.se hi).c48
  have c65 := h.ct
  have HP2 := hid (HP.out.alloc (.cells #[.int .i64 c.seq, .bool c.fire, .int .i64 c.mv.x, .int .i64 c.mv.y, .int .i64 c.mv.z, .int .i64 c.aim.x, .int .i64 c.aim.y, .int .i64 c.aim.z, .int .i64 c.time] 50))
  have HO2 := hid (show On b w (w.alloc (.cells #[.int .i64 c.seq, .bool c.fire, .int .i64 c.mv.x, .int .i64 c.mv.y, .int .i64 c.mv.z, .int .i64 c.aim.x, .int .i64 c.aim.y, .int .i64 c.aim.z, .int .i64 c.time] 50)) from On.below (by go_grown))
  have d46 := (HP2.out.se hi).c46
  have d48 := (HP2.out.se hi).c48
  obtain ⟨C, hC⟩ : ∃ C, (if (g.seat i).ready ≤ g.tick then 0 else (g.seat i).ready - g.tick) = C := ⟨_, rfl⟩
  have HC := hid hC
  clear h
  by_cases hl : 0 < (g.seat i).health
  · have HL : Hid (decide (0 < (g.seat i).health) = true) := decide_eq_true hl
    by_cases ha : (g.seat i).ammo = 0
    · have z : ((g.seat i).ammo == 0) = true := by simp [ha]
      clear hn hl ha hk hC
      go_enter Tryz.func81, Tryz.ntmps81
      go_wp2_with fail
      refine (cooling_is b (66 + i * 119 + 40) _ (g.seat i).ready g.tick d48 (by omega) (by omega) t0 t1 C HC).mono ?_
      rintro e w1 ⟨rfl, rfl⟩
      go_wp2_with fail
      refine (live_any b (66 + i * 119 + 40) _ (g.seat i).health d46 true HL).mono ?_
      rintro e w1 ⟨rfl, rfl⟩
      go_wp2
      exact bodyPost_ret (v := .tuple #[]) (by simp [results, Tryz.results81, go_sem]) rfl ⟨rfl, HP2.out, HO2.out⟩
    · have z : ((g.seat i).ammo == 0) = false := by simp [ha]
      have hr : ¬ (g.seat i).ready ≤ g.tick := by
        intro h
        unfold M.PGame.canShoot at hn
        simp [hl, ha, h] at hn
      have z2 : (0 : Int) < C := by rw [← hC, if_neg hr]; omega
      clear hr
      clear hn hl ha hk hC
      go_enter Tryz.func81, Tryz.ntmps81
      go_wp2_with fail
      refine (cooling_is b (66 + i * 119 + 40) _ (g.seat i).ready g.tick d48 (by omega) (by omega) t0 t1 C HC).mono ?_
      rintro e w1 ⟨rfl, rfl⟩
      go_wp2_with fail
      refine (live_any b (66 + i * 119 + 40) _ (g.seat i).health d46 true HL).mono ?_
      rintro e w1 ⟨rfl, rfl⟩
      go_wp2
      exact bodyPost_ret (v := .tuple #[]) (by simp [results, Tryz.results81, go_sem]) rfl ⟨rfl, HP2.out, HO2.out⟩
  · have HL : Hid (decide (0 < (g.seat i).health) = false) := decide_eq_false hl
    clear hn hl hk hC
    go_enter Tryz.func81, Tryz.ntmps81
    go_wp2_with fail
    refine (cooling_is b (66 + i * 119 + 40) _ (g.seat i).ready g.tick d48 (by omega) (by omega) t0 t1 C HC).mono ?_
    rintro e w1 ⟨rfl, rfl⟩
    go_wp2_with fail
    refine (live_any b (66 + i * 119 + 40) _ (g.seat i).health d46 false HL).mono ?_
    rintro e w1 ⟨rfl, rfl⟩
    go_wp2
    exact bodyPost_ret (v := .tuple #[]) (by simp [results, Tryz.results81, go_sem]) rfl ⟨rfl, HP2.out, HO2.out⟩

end Go.Proofs.YtonmihojfcjmjaaGreat

/- Contracts of the program's shots: shoot, where it happens. -/
namespace Go.Proofs.YtonmihojfcjmjaaGreat
open Go.RowKit
set_option linter.unusedVariables false
attribute [local go_sem] cell_set_off cell_set_blk
attribute [local go_sem ↓] big65 big65'

theorem spent_cell (s : M.PSeat) (a t : Int) {r : Int} (j : Nat) (ha : s.ammo - 1 = a) (ht : t + 3 = r) : (if j = 48 then Value.int .i64 r else if j = 47 then .int .i64 a else pseatC s j) = pseatC (s.spent t) j := by
  subst ha ht
  refine Eq.trans ?_ (ready_cell { s with ammo := s.ammo - 1 } (t + 3) j)
  by_cases e : j = 48
  · rw [if_pos e, if_pos e]
  · rw [if_neg e, if_neg e]; exact ammo_cell s (s.ammo - 1) j

set_option maxRecDepth 100000 in
set_option maxHeartbeats 4000000 in
theorem pShoot_yes (b : Nat) (x : Option Addr) (n cap : Nat) (ps : Nat → Bool) (ls : List M.Lf) (g : M.PGame) (i : Nat) (c : M.Cmd) (w : World) (h : Pg w b (.slice x n cap) ps g) (hown : w.ownsRow 0 137 7 (.slice x n cap) ls.length (flat ls)) (hne : ∀ k, (Value.slice x n cap).ownBlock = some k → k ≠ b) (hl : ls.length ≤ 512) (hc : ∀ l ∈ ls, l.lo.Cub ∧ l.hi.Cub) (hi : i < 8) (hk : g.Ok) (hs : ∀ j, j < 8 → (g.seat j).Shown) (hcm : M.CmdOk c) (hy : g.canShoot i = true) :
    Calls Tryz.prog 81 #[.pointer (some ⟨b, 0, none⟩), .int .i64 i, .agg #[.int .i64 c.seq, .bool c.fire, .int .i64 c.mv.x, .int .i64 c.mv.y, .int .i64 c.mv.z, .int .i64 c.aim.x, .int .i64 c.aim.y, .int .i64 c.aim.z, .int .i64 c.time]] w fun e w' => e = .returned (.tuple #[]) ∧ Pg w' b (.slice x n cap) ps (g.shoot ls i c) ∧ On b w w' := by
  have hy' := hy
  unfold M.PGame.canShoot at hy'
  simp only [Bool.and_eq_true, Bool.not_eq_true', decide_eq_false_iff_not, decide_eq_true_eq] at hy'
  obtain ⟨⟨hlive, hammo⟩, hready⟩ := hy'
  obtain ⟨G1, hG1⟩ : ∃ G1, g.put i ((g.seat i).spent g.tick) = G1 := ⟨_, rfl⟩
  obtain ⟨P, hP⟩ : ∃ P, (g.seat i).place = P := ⟨_, rfl⟩
  obtain ⟨D, hD⟩ : ∃ D, M.wayP c.aim = D := ⟨_, rfl⟩
  obtain ⟨T, hT⟩ : ∃ T, M.timeP g.tick c.time = T := ⟨_, rfl⟩
  obtain ⟨F, hF⟩ : ∃ F, G1.firstTo i P D T 8 = F := ⟨_, rfl⟩
  have E : Hid (g.shoot ls i c = G1.strike ls P D F) := by unfold Hid M.PGame.shoot; rw [if_pos hy, hG1, hP, hD, hT, hF]
  have t0 := hk.t0
  have t1 := hk.t1
  have T01 : 0 ≤ T ∧ T ≤ 16777215 := by
    have := hcm.t0
    have := hcm.t1
    rw [← hT]; unfold M.timeP
    split
    · omega
    · split <;> omega
  obtain ⟨T0, T1⟩ := T01
  have NP : P.Near := by rw [← hP]; obtain ⟨a1, a2, a3, a4, a5, a6⟩ := (hk.s i).place; simp only [M.cubeLo, M.cubeHi] at a1 a2 a3 a4 a5 a6; exact ⟨by omega, by omega, by omega, by omega, by omega, by omega⟩
  have ND : D.Near := by rw [← hD]; obtain ⟨a1, a2, a3, a4, a5, a6⟩ := hcm.aim; exact ⟨by show -1048576 ≤ 16 * c.aim.x; omega, by show 16 * c.aim.x ≤ 1048576; omega, by show -1048576 ≤ 16 * c.aim.y; omega, by show 16 * c.aim.y ≤ 1048576; omega, by show -1048576 ≤ 16 * c.aim.z; omega, by show 16 * c.aim.z ≤ 1048576; omega⟩
  have S1 : ∀ j, j < 8 → (G1.seat j).Shown := fun j hj => by
    rw [← hG1]
    by_cases e : j = i
    · subst e; rw [M.PGame.put_at]; exact ⟨(hs j hj).n1, (hs j hj).n2, (hs j hj).tr⟩
    · rw [M.PGame.put_ne _ _ e]; exact hs j hj
  have K1 := hid (fun (W : World) (hp : Pg W b (.slice x n cap) ps G1) => pFirst_any b i (.slice x n cap) ps G1 P D T W hp hi NP ND T0 T1 S1)
  have K2 := hid (fun (W : World) => wayOf_any c.aim W hcm.aim)
  have K3 := hid (fun (W : World) (hp : Pg W b (.slice x n cap) ps G1) => pTimeOf_any b g.tick c W (by have := hp.ct; rw [← hG1] at this; exact this) t0 t1 hcm.t0 hcm.t1)
  rw [hF] at K1
  rw [hT] at K3
  have HV := hid (show ∀ a k d, F.2 = some (a, k, d) → (0 ≤ a ∧ a ≤ k ∧ 1 ≤ k ∧ k ≤ 1048576) ∧ (d = 25 ∨ d = 60) ∧ F.1 < 8 ∧ 0 ≤ (G1.seat F.1).health ∧ (G1.seat F.1).health ≤ 100 from fun a k d hd => by
    rw [← hF] at hd ⊢
    refine ⟨first_ok G1 i P D T 8 a k d hd, M.firstTo_dmg hd, ?_⟩
    rcases M.firstTo_is G1 i P D T 8 with e | ⟨v, e1, e2, e3, e4, e5⟩
    · rw [e] at hd; cases hd
    · rw [e1]
      refine ⟨e2, by omega, ?_⟩
      rw [← hG1, M.PGame.put_ne _ _ e3]; exact (hk.s v).h1)
  have K4 := hid (fun (W : World) (hp : Pg W b (.slice x n cap) ps G1) (ho : W.ownsRow 0 137 7 (.slice x n cap) ls.length (flat ls)) (a k : Int) (a0 : 0 ≤ a) (a1 : a ≤ k) (k0 : 1 ≤ k) (k1 : k ≤ 1048576) (B : Bool) (hB : Hid (M.reachB (M.entO (M.US P D ls)) a k = B)) => pReaches_any b x n cap ps ls G1 P D T a k W hp ho hl hc NP ND a0 a1 k0 k1 B hB)
  have tG : Hid (G1.tick = g.tick) := by rw [← hG1]; rfl
  have pG : Hid ((G1.seat i).place = P) := by unfold Hid; rw [← hG1, M.PGame.put_at]; exact hP
  have HP := hid h
  have HO := hid hown
  have HN := hid hne
  have hlt := h.lt
  have j0 : (0 : Int) ≤ (i : Int) := by omega
  have j1 : (i : Int) < 8 := by omega
  have r0 := (hk.s i).r0
  have r1 := (hk.s i).r1
  have a0 := (hk.s i).a0
  have a1 := (hk.s i).a1
  have HL : Hid (decide (0 < (g.seat i).health) = true) := decide_eq_true hlive
  have za : ((g.seat i).ammo == 0) = false := by simp [hammo]
  have HC0 : Hid ((if (g.seat i).ready ≤ g.tick then 0 else (g.seat i).ready - g.tick) = 0) := if_pos hready
  have eD : D.x = 16 * c.aim.x ∧ D.y = 16 * c.aim.y ∧ D.z = 16 * c.aim.z := by rw [← hD]; exact ⟨rfl, rfl, rfl⟩
  obtain ⟨V, hV⟩ : ∃ V, w.alloc (.cells #[.int .i64 c.seq, .bool c.fire, .int .i64 c.mv.x, .int .i64 c.mv.y, .int .i64 c.mv.z, .int .i64 c.aim.x, .int .i64 c.aim.y, .int .i64 c.aim.z, .int .i64 c.time] 50) = V := ⟨_, rfl⟩
  have QC := hid (show Blk V w.heap.size #[.int .i64 c.seq, .bool c.fire, .int .i64 c.mv.x, .int .i64 c.mv.y, .int .i64 c.mv.z, .int .i64 c.aim.x, .int .i64 c.aim.y, .int .i64 c.aim.z, .int .i64 c.time] 50 from by rw [← hV]; exact Blk.new rfl)
  have BV := hid (show Below w.heap.size w V from by rw [← hV]; go_grown)
  have PV := hid (HP.out.after BV.out)
  have RV := hid (own_of HO.out (fun k hk => BV.out.block k (own_lt HO.out hk)))
  have R1 := hid ((((show Range V b (66 + i * 119) 119 (pseatC (g.seat i)) from fun k hk => PV.out.cs i k hi hk).set1 47 (.int .i64 ((g.seat i).ammo - 1))).set1 48 (.int .i64 (g.tick + 3))).congr (c' := pseatC ((g.seat i).spent g.tick)) (fun j hj => spent_cell (g.seat i) _ g.tick j rfl rfl))
  have O1 := hid ((OnR.set (b := b) (o := 66 + i * 119) (n := 119) V 47 (by omega) (.int .i64 ((g.seat i).ammo - 1))).trans (OnR.set _ 48 (by omega) (.int .i64 (g.tick + 3))))
  have P1 := hid (PV.out.put hi R1.out O1.out)
  rw [hG1] at P1
  have c46 := (PV.out.se hi).c46
  have c47 := (PV.out.se hi).c47
  have c48 := (PV.out.se hi).c48
  have c65 := PV.out.ct
  have f0 := PV.out.free
  have lv := QC.out.lt
  have lb := PV.out.lt
  clear h hown hne hk hs hcm hy hG1 hP hD hT hF T0 T1 NP ND S1 hlive hammo hready hc
  go_enter Tryz.func81, Tryz.ntmps81
  go_wp2_with fail
  try rw [hV]
  clear hV
  refine (cooling_is b (66 + i * 119 + 40) V (g.seat i).ready g.tick c48 (by omega) (by omega) t0 t1 0 HC0).mono ?_
  rintro e u ⟨rfl, rfl⟩
  go_wp2_with fail
  refine (live_any b (66 + i * 119 + 40) _ (g.seat i).health c46 true HL).mono ?_
  rintro e u' ⟨rfl, rfl⟩
  obtain ⟨q0, q1, q2, q3, q4, q5, q6, q7, q8, qf, ql⟩ := QC.out.nine
  go_wp2_with fail
  refine (K2.out _).mono ?_
  rintro e w2 ⟨rfl, hb⟩
  have P2 := hid (P1.out.after hb)
  have O2 := hid (((show On b w u' from On.below BV.out).trans O1.out.on).trans (On.below hb))
  have QC2 := hid ((QC.out.on O1.out.on (by omega)).after hb)
  have RW2 := hid (own_of RV.out (fun k hk => (O1.out.on.trans (On.below hb)).block k (own_lt RV.out hk) (HN.out k hk)))
  clear hb P1 O1 R1 QC RV PV BV HO HP q0 q1 q2 q3 q4 q5 q6 q7 q8 qf ql c46 c47 c48 c65 f0 lv lb K2
  have lc := QC2.out.lt
  obtain ⟨q0, q1, q2, q3, q4, q5, q6, q7, q8, qf, ql⟩ := QC2.out.nine
  go_wp2_with fail
  refine (K3.out _ (P2.out.alloc _)).mono ?_
  rintro e w3 ⟨rfl, hb⟩
  have QW := hid ((show Blk _ w2.heap.size #[.int .i64 (16 * c.aim.x), .int .i64 (16 * c.aim.y), .int .i64 (16 * c.aim.z)] 27 from Blk.new rfl).after hb)
  have B3 : Below w2.heap.size w2 w3 := bl (by go_grown) hb
  have P3 := hid (P2.out.after B3)
  have O3 := hid (O2.out.trans (On.below B3))
  have R3 := hid (own_of RW2.out (fun k hk => B3.block k (own_lt RW2.out hk)))
  have s3 := B3.size
  have s2 := O2.out.size
  clear hb B3 P2 O2 QC2 RW2 q0 q1 q2 q3 q4 q5 q6 q7 q8 qf ql K3
  have c43 := (P3.out.se hi).c43
  have c44 := (P3.out.se hi).c44
  have c45 := (P3.out.se hi).c45
  rw [pG.out] at c43 c44 c45
  obtain ⟨y0, y1, y2, yf, yl⟩ := QW.out.three
  have lb := P3.out.lt
  have e3 : w3.heap.size ≠ b := by omega
  have e4 : w3.heap.size ≠ w2.heap.size := by omega
  go_upto_region 8 with fail
  go_cut [10] (fun c' wx => ∃ gB : Nat, c' = .pointer (some ⟨gB, 0, none⟩) ∧ Blk wx gB #[.int .i64 P.x, .int .i64 P.y, .int .i64 P.z, .int .i64 (16 * c.aim.x), .int .i64 (16 * c.aim.y), .int .i64 (16 * c.aim.z), .int .i64 T] 164 ∧ Below w3.heap.size w3 wx)
  case first =>
    go_region_held3 (fun w' => (w'.cell? ⟨b, 66 + i * 119 + 43, none⟩ = some (.int .i64 P.x) ∧ w'.cell? ⟨b, 66 + i * 119 + 44, none⟩ = some (.int .i64 P.y) ∧ w'.cell? ⟨b, 66 + i * 119 + 45, none⟩ = some (.int .i64 P.z)) ∧ w'.cell? ⟨w2.heap.size, 0, none⟩ = some (.int .i64 (16 * c.aim.x)) ∧ w'.cell? ⟨w2.heap.size, 1, none⟩ = some (.int .i64 (16 * c.aim.y)) ∧ w'.cell? ⟨w2.heap.size, 2, none⟩ = some (.int .i64 (16 * c.aim.z))) (go_keep) (fail)
    all_goals
      go_wp2_with fail
      go_meet
      exact ⟨w3.heap.size, rfl, by first | exact Blk.new rfl | exact Blk.drew (Blk.new rfl), by go_grown⟩
  case rest =>
    obtain ⟨gB, rfl, QG, BX⟩ := hcut
    generalize wc = X at *
    have PX := hid (P3.out.after BX)
    have OX := hid (O3.out.trans (On.below BX))
    have RX := hid (own_of R3.out (fun k hk => BX.block k (own_lt R3.out hk)))
    have HG := hid QG
    have sX := BX.size
    clear P3 O3 R3 QW BX QG c43 c44 c45 y0 y1 y2 yf yl e3 e4
    obtain ⟨g0, g1, g2, g3, g4, g5, g6, gf, gl⟩ := HG.out.seven7
    have K1' := K1.out X PX.out
    rw [eD.1, eD.2.1, eD.2.2] at K1'
    have HK := hid K1'
    clear K1' K1
    match hF2 : F.2 with
    | none =>
      have E2 : Hid (g.shoot ls i c = G1) := by unfold Hid; rw [E.out]; unfold M.PGame.strike; rw [hF2]
      rw [hF2] at HK
      simp only [hitV] at HK
      clear E hF2 K4 HV
      go_wp2_with fail
      refine HK.out.mono ?_
      rintro e w4 ⟨rfl, hb⟩
      have P4 := hid (PX.out.after hb)
      have O4 := hid (OX.out.trans (On.below hb))
      clear hb HK PX OX
      go_wp2
      go_end0
      exact ⟨rfl, by rw [E2.out]; exact P4.out.alloc _, O4.out.trans (On.below (by go_grown))⟩
    | some (a, k, d) =>
      obtain ⟨⟨v0, v1, v2, v3⟩, v4, v5, v6, v7⟩ := HV.out a k d hF2
      obtain ⟨B, hB⟩ : ∃ B, M.reachB (M.entO (M.US P D ls)) a k = B := ⟨_, rfl⟩
      have E2 : Hid (g.shoot ls i c = if B = true then G1.put F.1 ((G1.seat F.1).hurt d G1.tick) else G1) := by unfold Hid; rw [E.out]; unfold M.PGame.strike; rw [hF2]; simp only [hB]
      rw [hF2] at HK
      simp only [hitV] at HK
      have K5 := hid (fun W hp ho => K4.out W hp ho a k v0 v1 v2 v3 B hB)
      clear E hF2 K4 HV hB
      go_wp2_with fail
      refine HK.out.mono ?_
      rintro e w4 ⟨rfl, hb⟩
      have P4 := hid (PX.out.after hb)
      have O4 := hid (OX.out.trans (On.below hb))
      have R4 := hid (own_of RX.out (fun k hk => hb.block k (own_lt RX.out hk)))
      have Q4 := hid (HG.out.after hb)
      have s4 := hb.size
      clear hb HK PX OX RX HG g0 g1 g2 g3 g4 g5 g6 gf gl
      obtain ⟨g0, g1, g2, g3, g4, g5, g6, gf, gl⟩ := Q4.out.seven7
      have HQn := hid (fun o => K5.out (w4.alloc o) (P4.out.alloc o) (own_of R4.out (fun k hk => by rw [Below.heap_alloc _ _ _ (own_lt R4.out hk)])))
      rw [eD.1, eD.2.1, eD.2.2] at HQn
      go_wp2_with fail
      refine (HQn.out _).mono ?_
      rintro e w5 ⟨rfl, hb⟩
      have P5 := hid ((P4.out.alloc _).after hb)
      have O5 := hid (O4.out.trans (On.below (bl (by go_grown) hb)))
      have Q5 := hid ((show Blk _ w4.heap.size #[.bool true, .int .i64 a, .int .i64 k, .int .i64 d] 168 from Blk.new rfl).after hb)
      have s5 := hb.size
      clear hb P4 O4 R4 Q4 HQn K5 g0 g1 g2 g3 g4 g5 g6 gf gl
      cases B
      · go_wp2
        go_end0
        exact ⟨rfl, by rw [E2.out]; exact P5.out, O5.out⟩
      · obtain ⟨h0, h1, h2, h3, hf, hl'⟩ := Q5.out.four
        have c65 := P5.out.ct
        rw [tG.out] at c65
        have j2 : (0 : Int) ≤ (F.1 : Int) := by omega
        have j3 : (F.1 : Int) < 8 := by omega
        go_wp2_with fail
        refine still_tail5 12 (by kernel_rfl) (by kernel_rfl) ?_
        simp only [List.take_succ_cons, List.take_zero, List.drop_succ_cons, List.drop_zero]
        repeat still_step
        refine wpStill_nil ?_
        go_wp2_with fail
        refine (hurt_any b (66 + F.1 * 119) (G1.seat F.1) d g.tick w5.drew (fun k hk => by exact P5.out.cs F.1 k v5 hk) (by exact P5.out.free) v6 v7 (by omega) (by omega) t0 t1).mono ?_
        rintro e w6 ⟨rfl, hr, ho⟩
        have P6 := hid (P5.out.put v5 hr ⟨ho.on.undrew, ho.out, ho.fz⟩)
        have O6 := hid (O5.out.trans ho.on.undrew)
        clear hr ho P5 O5 Q5 h0 h1 h2 h3 hf hl' c65
        go_wp2
        go_end0
        exact ⟨rfl, by rw [E2.out, tG.out]; exact P6.out, O6.out⟩

theorem pShoot_any (b : Nat) (x : Option Addr) (n cap : Nat) (ps : Nat → Bool) (ls : List M.Lf) (g : M.PGame) (i : Nat) (c : M.Cmd) (w : World) (h : Pg w b (.slice x n cap) ps g) (hown : w.ownsRow 0 137 7 (.slice x n cap) ls.length (flat ls)) (hne : ∀ k, (Value.slice x n cap).ownBlock = some k → k ≠ b) (hl : ls.length ≤ 512) (hc : ∀ l ∈ ls, l.lo.Cub ∧ l.hi.Cub) (hi : i < 8) (hk : g.Ok) (hs : ∀ j, j < 8 → (g.seat j).Shown) (hcm : M.CmdOk c) :
    Calls Tryz.prog 81 #[.pointer (some ⟨b, 0, none⟩), .int .i64 i, .agg #[.int .i64 c.seq, .bool c.fire, .int .i64 c.mv.x, .int .i64 c.mv.y, .int .i64 c.mv.z, .int .i64 c.aim.x, .int .i64 c.aim.y, .int .i64 c.aim.z, .int .i64 c.time]] w fun e w' => e = .returned (.tuple #[]) ∧ Pg w' b (.slice x n cap) ps (g.shoot ls i c) ∧ On b w w' := by
  cases hy : g.canShoot i
  · rw [shoot_no hy]
    exact pShoot_no b _ ps g i c w h hi hk hy
  · exact pShoot_yes b x n cap ps ls g i c w h hown hne hl hc hi hk hs hcm hy

end Go.Proofs.YtonmihojfcjmjaaGreat
