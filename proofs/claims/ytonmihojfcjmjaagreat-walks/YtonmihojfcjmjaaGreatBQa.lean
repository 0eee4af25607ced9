import Derived.Test.YtonmihojfcjmjaaGreatBPh
import Derived.Test.YtonmihojfcjmjaaGreatBPl
/- Contracts of the program's game: free, put, take. -/
namespace Go.Proofs.YtonmihojfcjmjaaGreat
open Go.RowKit
set_option linter.unusedVariables false
attribute [local go_sem] cell_set_off cell_set_blk
attribute [local go_sem ↓] big65 big65'

theorem zeroSeat : Tryz.zeroCells60 = cellsOf 119 (pseatC (M.PSeat.empty 0)) := by kernel_rfl
theorem seat_cells (n : Int) : Tryz.zeroCells60.toList.set 1 (.int .i64 n) = (cellsOf 119 (pseatC (M.PSeat.empty n))).toList := by
  rw [zeroSeat, cellsOf_toList_set]
  refine congrArg Array.toList (cellsOf_congr (fun j _ => ?_))
  by_cases e : j = 1
  · subst e; rfl
  · rw [if_neg e]
    unfold pseatC
    exact ite_c (fun _ => rfl) (fun _ => ite_c (fun x => absurd x e) (fun _ => rfl))

set_option maxRecDepth 100000 in
set_option maxHeartbeats 2000000 in
theorem sfree_any (b o : Nat) (s : M.PSeat) (w : World) (hR : Range w b o 119 (pseatC s)) (hf : ∀ i, w.frozen? ⟨b, i, none⟩ = false) (hlt : b < w.heap.size) :
    Calls Tryz.prog 56 #[.pointer (some ⟨b, o, none⟩)] w fun e w' => e = .returned (.tuple #[]) ∧ Range w' b o 119 (pseatC (M.PSeat.empty s.gen)) ∧ OnR b o 119 w w' := by
  have c1 : w.cell? ⟨b, o + 1, none⟩ = some (.int .i64 s.gen) := hR 1 (by omega)
  have hst := store_range (P := Tryz.prog) (W := w) (b := b) (o := o) (Tryz.zeroCells60.toList.set 1 (.int .i64 s.gen))
    (fun j hj => by
      rw [seat_cells] at hj
      have := hR j (by simp [cellsOf] at hj; omega)
      rw [this]; rfl)
    hf (by rw [seat_cells]; exact cellsOf_one (fun i _ => pseatC_one _ _))
  have R2 := hR.setN 0 119 (by omega) (pseatC (M.PSeat.empty s.gen))
  have O2 := OnR.setN (b := b) (o := o) (n := 119) w 0 (cellsOf 119 (pseatC (M.PSeat.empty s.gen))).toList (by simp [cellsOf])
  rw [← seat_cells, Nat.add_zero] at R2 O2
  have HR := hid (R2.congr (c' := pseatC (M.PSeat.empty s.gen)) (fun j hj => by rw [if_pos (by omega), Nat.sub_zero]))
  have HO := hid O2
  clear R2 O2 hR
  go_enter Tryz.func56, Tryz.ntmps56
  go_wp2
  go_end0
  exact ⟨rfl, HR.out, HO.out⟩

theorem big9 (a : Addr) : loadCellsFrom a 0 9 #[] = big 9 a := rfl
theorem big9' (a : Addr) : loadCells a 9 = big 9 a := rfl
/-- A command waits. -/
def M.PSeat.put (s : M.PSeat) (c : M.Cmd) : M.PSeat := { s with q := fun j => if (j : Int) = s.waiting then c else s.q j, waiting := s.waiting + 1, last := c.seq }

theorem put_cell (s : M.PSeat) (c : M.Cmd) (m : Nat) (hm : s.waiting = (m : Int)) (hm4 : m < 4) (j : Nat) :
    (if j = 2 then Value.int .i64 c.seq else if j = 39 then .int .i64 ((m : Int) + 1) else if 3 + m * 9 ≤ j ∧ j < 3 + m * 9 + 9 then cmdC c (j - (3 + m * 9)) else pseatC s j) = pseatC (s.put c) j := by
  by_cases e2 : j = 2
  · subst e2; rfl
  rw [if_neg e2]
  by_cases e39 : j = 39
  · subst e39
    show Value.int .i64 ((m : Int) + 1) = .int .i64 (s.waiting + 1)
    rw [hm]
  rw [if_neg e39]
  by_cases e : 3 + m * 9 ≤ j ∧ j < 3 + m * 9 + 9
  · rw [if_pos e]
    by_cases h39 : j < 39
    · unfold pseatC
      rw [if_neg (by omega), if_neg (by omega), if_neg e2, if_pos h39, show (j - 3) / 9 = m by omega, show (j - 3) % 9 = j - (3 + m * 9) by omega]
      show _ = cmdC (if (m : Int) = s.waiting then c else s.q m) _
      rw [if_pos hm.symm]
    · omega
  · rw [if_neg e]
    unfold pseatC
    exact ite_c (fun _ => rfl) (fun _ => ite_c (fun _ => rfl) (fun _ => ite_c (fun x => absurd x e2) (fun _ => ite_c (fun h39 => by
      show cmdC (s.q ((j - 3) / 9)) _ = cmdC (if (((j - 3) / 9 : Nat) : Int) = s.waiting then c else s.q ((j - 3) / 9)) _
      rw [if_neg (by rw [hm]; omega)]) (fun _ => ite_c (fun x => absurd x e39) (fun _ => rfl)))))

/-- What put leaves. -/
def PutPost (b o : Nat) (s : M.PSeat) (c : M.Cmd) (w : World) (e : Ending) (w' : World) : Prop :=
  (c.seq ≤ s.last ∧ e = .returned (.int .i64 9) ∧ Below w.heap.size w w') ∨ (¬ c.seq ≤ s.last ∧ 4 ≤ s.waiting ∧ e = .returned (.int .i64 10) ∧ Below w.heap.size w w') ∨
  (¬ c.seq ≤ s.last ∧ ¬ 4 ≤ s.waiting ∧ e = .returned (.int .i64 0) ∧ Range w' b o 119 (pseatC (s.put c)) ∧ OnR b o 119 w w')

set_option maxRecDepth 100000 in
set_option maxHeartbeats 2000000 in
theorem sput_any (b o : Nat) (s : M.PSeat) (c : M.Cmd) (w : World) (hR : Range w b o 119 (pseatC s)) (hf : ∀ i, w.frozen? ⟨b, i, none⟩ = false) (hlt : b < w.heap.size) (w1 : 0 ≤ s.waiting) (w2 : s.waiting ≤ 4) :
    Calls Tryz.prog 58 #[.pointer (some ⟨b, o, none⟩), .agg #[.int .i64 c.seq, .bool c.fire, .int .i64 c.mv.x, .int .i64 c.mv.y, .int .i64 c.mv.z, .int .i64 c.aim.x, .int .i64 c.aim.y, .int .i64 c.aim.z, .int .i64 c.time]] w (PutPost b o s c w) := by
  have c2 : w.cell? ⟨b, o + 2, none⟩ = some (.int .i64 s.last) := hR 2 (by omega)
  have c39 : w.cell? ⟨b, o + 39, none⟩ = some (.int .i64 s.waiting) := hR 39 (by omega)
  by_cases h1 : c.seq ≤ s.last
  · have H1 := hid h1
    go_enter Tryz.func58, Tryz.ntmps58
    go_wp2_with fail
    go_quiet (fail)
    go_wp2
    go_ret
    exact .inl ⟨H1.out, rfl, below_drewN (by go_grown) _⟩
  · by_cases h2 : 4 ≤ s.waiting
    · have H1 := hid h1
      have H2 := hid h2
      go_enter Tryz.func58, Tryz.ntmps58
      go_wp2_with fail
      go_quiet (fail)
      go_wp2
      go_ret
      exact .inr (.inl ⟨by have := H1.out; omega, H2.out, rfl, below_drewN (by go_grown) _⟩)
    · obtain ⟨m, hm⟩ : ∃ m : Nat, s.waiting = (m : Int) := ⟨s.waiting.toNat, by omega⟩
      have hm4 : m < 4 := by omega
      have H1 := hid h1
      have H2 := hid h2
      go_enter Tryz.func58, Tryz.ntmps58
      go_wp2_with fail
      go_quiet (fail)
      obtain ⟨V, hV⟩ : ∃ V, (w.alloc (.cells #[.int .i64 c.seq, .bool c.fire, .int .i64 c.mv.x, .int .i64 c.mv.y, .int .i64 c.mv.z, .int .i64 c.aim.x, .int .i64 c.aim.y, .int .i64 c.aim.z, .int .i64 c.time] 50)).drewN nq = V := ⟨_, rfl⟩
      have qc : Blk V w.heap.size #[.int .i64 c.seq, .bool c.fire, .int .i64 c.mv.x, .int .i64 c.mv.y, .int .i64 c.mv.z, .int .i64 c.aim.x, .int .i64 c.aim.y, .int .i64 c.aim.z, .int .i64 c.time] 50 := by rw [← hV]; exact (Blk.new rfl).drewN
      have BV : Below w.heap.size w V := by rw [← hV]; exact below_drewN (by go_grown) _
      have RV : Range V b o 119 (pseatC s) := hR.block (BV.block b hlt)
      have OV : OnR b o 119 w V := OnR.below BV hlt
      have fV : ∀ i, V.frozen? ⟨b, i, none⟩ = false := fun i => (OV.fz i).trans (hf i)
      rw [hV]
      clear hV hR c2 c39 hf
      have c2 : V.cell? ⟨b, o + 2, none⟩ = some (.int .i64 s.last) := RV 2 (by omega)
      have c39 : V.cell? ⟨b, o + 39, none⟩ = some (.int .i64 s.waiting) := RV 39 (by omega)
      have hq : ∀ k, k < 9 → V.cell? ⟨b, o + 3 + m * 9 + k, none⟩ = some (pseatC s (3 + m * 9 + k)) := fun k hk => by rw [← RV (3 + m * 9 + k) (by omega)]; congr 2; omega
      have k0 := hq 0 (by omega)
      have k1 := hq 1 (by omega)
      have k2 := hq 2 (by omega)
      have k3 := hq 3 (by omega)
      have k4 := hq 4 (by omega)
      have k5 := hq 5 (by omega)
      have k6 := hq 6 (by omega)
      have k7 := hq 7 (by omega)
      have k8 := hq 8 (by omega)
      rw [Nat.add_zero] at k0
      have HRV := hid RV
      have HOV := hid OV
      obtain ⟨v0, v1, v2, v3, v4, v5, v6, v7, v8, vf, vl⟩ := qc.nine
      have hbne : b ≠ w.heap.size := by omega
      clear RV OV hq BV qc
      go_wp2_with fail
      refine still_tail5 9 (by kernel_rfl) (by kernel_rfl) ?_
      simp only [List.take_succ_cons, List.take_zero, List.drop_succ_cons, List.drop_zero]
      repeat still_step
      refine wpStill_nil ?_
      go_wp2
      go_ret
      have HM := hid hm
      refine .inr (.inr ⟨by have := H1.out; omega, by have := H2.out; omega, rfl, ?_, ?_⟩)
      · have R := ((((HRV.out.setNa (o + 3 + m * 9) (3 + m * 9) 9 (by omega) (by omega) (cmdC c)).set1 39 (.int .i64 ((m : Int) + 1))).set1 2 (.int .i64 c.seq)).drew)
        exact R.congr (fun j hj => put_cell s c m hm hm4 j)
      · exact ((((HOV.out.trans (OnR.setNa V (o + 3 + m * 9) (3 + m * 9) (by omega) (cellsOf 9 (cmdC c)).toList (by simp [cellsOf]; omega))).trans (OnR.set _ 39 (by omega) (.int .i64 ((m : Int) + 1)))).trans (OnR.set _ 2 (by omega) (.int .i64 c.seq))).drew)

/-- The queue goes up by one. -/
def M.PSeat.up (s : M.PSeat) : M.PSeat := { s with q := fun j => if j < 3 then s.q (j + 1) else s.q j, waiting := s.waiting - 1 }

theorem q_range {w : World} {b o : Nat} {s : M.PSeat} (hR : Range w b o 119 (pseatC s)) (i : Nat) (hi : i < 4) : Range w b (o + (3 + 9 * i)) 9 (cmdC (s.q i)) := fun j hj => by
  rw [Nat.add_assoc, hR (3 + 9 * i + j) (by omega)]
  unfold pseatC
  rw [if_neg (by omega), if_neg (by omega), if_neg (by omega), if_pos (by omega), show (3 + 9 * i + j - 3) / 9 = i by omega, show (3 + 9 * i + j - 3) % 9 = j by omega]

/-- The queue, its first j - 1 gone up. -/
def M.PSeat.shift (s : M.PSeat) (j : Nat) : M.PSeat := { s with q := fun i => if i + 1 < j then s.q (i + 1) else s.q i }
theorem shift_1 (s : M.PSeat) : s.shift 1 = s := by
  unfold M.PSeat.shift
  have : (fun i => if i + 1 < 1 then s.q (i + 1) else s.q i) = s.q := by funext i; rw [if_neg (by omega)]
  rw [this]

theorem shift_cell (s : M.PSeat) (n k : Nat) (hk : k < 9) (hn : n < 4) : pseatC (s.shift n) (3 + 9 * n + k) = cmdC (s.q n) k := by
  unfold pseatC
  rw [if_neg (by omega), if_neg (by omega), if_neg (by omega), if_pos (by omega), show (3 + 9 * n + k - 3) / 9 = n by omega, show (3 + 9 * n + k - 3) % 9 = k by omega]
  show cmdC (if n + 1 < n then s.q (n + 1) else s.q n) k = _
  rw [if_neg (by omega)]
theorem shift_next (s : M.PSeat) (n : Nat) (h1 : 1 ≤ n) (h4 : n < 4) (j : Nat) : (if 3 + 9 * (n - 1) ≤ j ∧ j < 3 + 9 * (n - 1) + 9 then cmdC (s.q n) (j - (3 + 9 * (n - 1))) else pseatC (s.shift n) j) = pseatC (s.shift (n + 1)) j := by
  by_cases e : 3 + 9 * (n - 1) ≤ j ∧ j < 3 + 9 * (n - 1) + 9
  · rw [if_pos e]
    unfold pseatC
    rw [if_neg (by omega), if_neg (by omega), if_neg (by omega), if_pos (by omega), show (j - 3) / 9 = n - 1 by omega, show (j - 3) % 9 = j - (3 + 9 * (n - 1)) by omega]
    show _ = cmdC (if n - 1 + 1 < n + 1 then s.q (n - 1 + 1) else s.q (n - 1)) _
    rw [if_pos (by omega), show n - 1 + 1 = n by omega]
  · rw [if_neg e]
    unfold pseatC
    exact ite_c (fun _ => rfl) (fun _ => ite_c (fun _ => rfl) (fun _ => ite_c (fun _ => rfl) (fun _ => ite_c (fun h39 => by
      show cmdC (if (j - 3) / 9 + 1 < n then s.q ((j - 3) / 9 + 1) else s.q ((j - 3) / 9)) _ = cmdC (if (j - 3) / 9 + 1 < n + 1 then s.q ((j - 3) / 9 + 1) else s.q ((j - 3) / 9)) _
      by_cases h : (j - 3) / 9 + 1 < n
      · rw [if_pos h, if_pos (by omega)]
      · rw [if_neg h, if_neg (by omega)]) (fun _ => rfl))))

theorem up_cell (s : M.PSeat) (j : Nat) : (if j = 39 then Value.int .i64 (s.waiting - 1) else pseatC (s.shift 4) j) = pseatC s.up j := by
  by_cases e : j = 39
  · subst e; rfl
  · rw [if_neg e]
    unfold pseatC
    exact ite_c (fun _ => rfl) (fun _ => ite_c (fun _ => rfl) (fun _ => ite_c (fun _ => rfl) (fun _ => ite_c (fun h39 => by
      show cmdC (if (j - 3) / 9 + 1 < 4 then s.q ((j - 3) / 9 + 1) else s.q ((j - 3) / 9)) _ = cmdC (if (j - 3) / 9 < 3 then s.q ((j - 3) / 9 + 1) else s.q ((j - 3) / 9)) _
      by_cases h : (j - 3) / 9 + 1 < 4
      · rw [if_pos h, if_pos (by omega)]
      · rw [if_neg h, if_neg (by omega)]) (fun _ => ite_c (fun x => absurd x e) (fun _ => rfl)))))
/-- A result that is a command, and one more. -/
theorem results_cmd {fn : Func} {p u : Tmp} (h : fn.results = #[.cell p 50, .tmp u]) (tmps : Array Value) (w : World) (g : Nat) (cs : Array Value)
    (hp : tmps.getD p undef = .pointer (some ⟨g, 0, none⟩)) (q : Blk w g cs 50) (hc : cs.size = 9) : (results fn tmps).run Tryz.prog w = .ok (.tuple #[.agg cs, tmps.getD u undef]) w := by
  have hp' : tmps[p]?.getD undef = .pointer (some ⟨g, 0, none⟩) := by simpa using hp
  have hl := run_loadVar_row (P := Tryz.prog) w g 50 50 cs (0, 0) _ q.at_ Tryz.underlying50 rfl (by rw [hc]; kernel_rfl)
  simp [results, h, hp', asAddr, hl]

/-- What take leaves. -/
def TakePost (b o : Nat) (s : M.PSeat) (w : World) (e : Ending) (w' : World) : Prop :=
  (s.waiting = 0 ∧ e = .returned (.tuple #[.agg #[.int .i64 0, .bool false, .int .i64 0, .int .i64 0, .int .i64 0, .int .i64 0, .int .i64 0, .int .i64 0, .int .i64 0], .bool false]) ∧ Below w.heap.size w w') ∨
  (0 < s.waiting ∧ e = .returned (.tuple #[.agg (cellsOf 9 (cmdC (s.q 0))), .bool true]) ∧ Range w' b o 119 (pseatC s.up) ∧ OnR b o 119 w w')

attribute [local go_sem ↓] big9 big9' in
set_option maxRecDepth 100000 in
set_option maxHeartbeats 4000000 in
theorem stake_any (b o : Nat) (s : M.PSeat) (w : World) (hR : Range w b o 119 (pseatC s)) (hf : ∀ i, w.frozen? ⟨b, i, none⟩ = false) (hlt : b < w.heap.size) (w1 : 0 ≤ s.waiting) (w2 : s.waiting ≤ 4) :
    Calls Tryz.prog 95 #[.pointer (some ⟨b, o, none⟩)] w (TakePost b o s w) := by
  have c39 : w.cell? ⟨b, o + 39, none⟩ = some (.int .i64 s.waiting) := hR 39 (by omega)
  by_cases h0 : s.waiting = 0
  · have e0 : (s.waiting == 0) = true := by simp [h0]
    go_enter Tryz.func95, Tryz.ntmps95
    have H0 := hid h0
    have zl := hid (big_blk (P := Tryz.prog) (n := 9) (show Blk (w.alloc (.cells #[.int .i64 0, .bool false, .int .i64 0, .int .i64 0, .int .i64 0, .int .i64 0, .int .i64 0, .int .i64 0, .int .i64 0] 50)) w.heap.size _ _ from Blk.new rfl) rfl)
    go_wp2
    exact bodyPost_ret (v := .tuple #[.agg #[.int .i64 0, .bool false, .int .i64 0, .int .i64 0, .int .i64 0, .int .i64 0, .int .i64 0, .int .i64 0, .int .i64 0], .bool false]) (by simp [results, Tryz.results95, go_sem, zl.out]) rfl (.inl ⟨H0.out, rfl, by go_grown⟩)
  · have e0 : (s.waiting == 0) = false := by simp [h0]
    have H0 := hid h0
    obtain ⟨V, hV⟩ : ∃ V, w.alloc (.cells #[.int .i64 0, .bool false, .int .i64 0, .int .i64 0, .int .i64 0, .int .i64 0, .int .i64 0, .int .i64 0, .int .i64 0] 50) = V := ⟨_, rfl⟩
    have BV : Below w.heap.size w V := by rw [← hV]; go_grown
    have RV : Range V b o 119 (pseatC s) := hR.block (BV.block b hlt)
    have OV : OnR b o 119 w V := OnR.below BV hlt
    have fV : ∀ i, V.frozen? ⟨b, i, none⟩ = false := fun i => (OV.fz i).trans (hf i)
    have c39 : V.cell? ⟨b, o + 39, none⟩ = some (.int .i64 s.waiting) := RV 39 (by omega)
    have HRV := hid RV
    have HOV := hid OV
    have l0 : (big 9 ⟨b, o + 3, none⟩).run Tryz.prog V = .ok (cellsOf 9 (cmdC (s.q 0))) V := big_range (q_range RV 0 (by omega))
    obtain ⟨V2, hst, q2, ho2⟩ := store_new (P := Tryz.prog) (show Blk (V.alloc (.cells #[.int .i64 0, .bool false, .int .i64 0, .int .i64 0, .int .i64 0, .int .i64 0, .int .i64 0, .int .i64 0, .int .i64 0] 50)) (w.heap.size + 1) _ 50 from Blk.new (by rw [← hV]; simp)) (cellsOf 9 (cmdC (s.q 0))).toList (by simp [cellsOf]) (cellsOf_one (fun i _ => cmdC_one _ _))
    have q2' : Blk V2 (w.heap.size + 1) (cellsOf 9 (cmdC (s.q 0))) 50 := by simpa using q2
    have zV : V.heap.size = w.heap.size + 1 := by rw [← hV]; simp
    have B2 : Below V.heap.size V V2 := On.toBelow (by go_grown) (by simp) ho2 (by rw [zV]; omega)
    have hlV : b < V.heap.size := by omega
    have R2 := hid (RV.block (B2.block b hlV))
    have O2 := hid (OV.trans (OnR.below B2 hlV))
    have f2 := hid (fun i => ((OnR.below (o := o) (n := 119) B2 hlV).fz i).trans (fV i))
    have Q2 := hid q2'
    have Q0 := hid (show Blk V2 w.heap.size #[.int .i64 0, .bool false, .int .i64 0, .int .i64 0, .int .i64 0, .int .i64 0, .int .i64 0, .int .i64 0, .int .i64 0] 50 from (show Blk V w.heap.size _ _ from by rw [← hV]; exact Blk.new rfl).after B2)
    have hs9 : (cellsOf 9 (cmdC (s.q 0))).size = 9 := cellsOf_size _ _
    clear RV OV hR hf BV q2 q2' ho2 B2 fV HRV HOV
    subst hV
    go_enter Tryz.func95, Tryz.ntmps95
    go_wp2_with fail
    clear l0 c39 hst
    go_loopg [5] 4 (fun k u5 wr => ∃ j : Nat, u5 = .int .i64 j ∧ 1 ≤ j ∧ j ≤ 4 ∧ k + j = 5 ∧ Hid (Range wr b o 119 (pseatC (s.shift j))) ∧ Hid (OnR b o 119 V2 wr))
    case atStart => exact ⟨1, rfl, by omega, by omega, by omega, R2.out.congr (fun j hj => by rw [shift_1]), OnR.refl _ _ _ _⟩
    case round =>
      obtain ⟨j, rfl, j1, j4, hk, HR, HO⟩ := hrel
      by_cases hlt4 : j < 4
      · have j5 : (j : Int) < 4 := by omega
        have j6 : (1 : Int) ≤ (j : Int) := by omega
        have fw : ∀ n, wr.frozen? ⟨b, n, none⟩ = false := fun n => (HO.out.fz n).trans (f2.out n)
        have hj3 : j = 1 ∨ j = 2 ∨ j = 3 := by omega
        clear j5 j6
        rcases hj3 with rfl | rfl | rfl
        · have lda : (big 9 ⟨b, o + 12, none⟩).run Tryz.prog wr.drew = .ok (cellsOf 9 (cmdC (s.q 1))) wr.drew := big_range (fun k hk => by
            have := HR.out (12 + k) (by omega)
            rw [Nat.add_assoc]
            show wr.cell? _ = _
            rw [this]
            exact congrArg some (shift_cell s 1 k hk (by omega)))
          have hstb := store_range (P := Tryz.prog) (W := wr.drew) (b := b) (o := o + 3) (cellsOf 9 (cmdC (s.q 1))).toList (fun k hk => by
            have h9 : k < 9 := by simpa [cellsOf] using hk
            have := HR.out (3 + k) (by omega)
            rw [Nat.add_assoc]
            show (wr.cell? _).isSome = true
            rw [this]; rfl) (fun n => fw n) (cellsOf_one (fun i _ => cmdC_one _ _))
          have wz : IntKind.i64.wrap 0 = 0 := by decide
          have hs9 : (cellsOf 9 (cmdC (s.q 1))).size = 9 := cellsOf_size _ _
          have HR2 : Hid (Range (wr.drew.setCells b (o + 3) (cellsOf 9 (cmdC (s.q 1))).toList) b o 119 (pseatC (s.shift (1 + 1)))) := (HR.out.drew.setN 3 9 (by omega) (cmdC (s.q 1))).congr (fun j hj => shift_next s 1 (by omega) (by omega) j)
          have HO2 : Hid (OnR b o 119 V2 (wr.drew.setCells b (o + 3) (cellsOf 9 (cmdC (s.q 1))).toList)) := HO.out.drew.trans (OnR.setN _ 3 _ (by simp [cellsOf]))
          go_wp2_with fail
          refine still_tail5 12 (by kernel_rfl) (by kernel_rfl) ?_
          simp only [List.take_succ_cons, List.take_zero, List.drop_succ_cons, List.drop_zero]
          repeat still_step
          refine wpStill_nil ?_
          go_wp2
          go_roundg (gk - 1)
          case measure => omega
          case rel => exact ⟨1 + 1, rfl, by omega, by omega, by omega, HR2, HO2⟩
        · have lda : (big 9 ⟨b, o + 21, none⟩).run Tryz.prog wr.drew = .ok (cellsOf 9 (cmdC (s.q 2))) wr.drew := big_range (fun k hk => by
            have := HR.out (21 + k) (by omega)
            rw [Nat.add_assoc]
            show wr.cell? _ = _
            rw [this]
            exact congrArg some (shift_cell s 2 k hk (by omega)))
          have hstb := store_range (P := Tryz.prog) (W := wr.drew) (b := b) (o := o + 12) (cellsOf 9 (cmdC (s.q 2))).toList (fun k hk => by
            have h9 : k < 9 := by simpa [cellsOf] using hk
            have := HR.out (12 + k) (by omega)
            rw [Nat.add_assoc]
            show (wr.cell? _).isSome = true
            rw [this]; rfl) (fun n => fw n) (cellsOf_one (fun i _ => cmdC_one _ _))
          have wz : IntKind.i64.wrap 1 = 1 := by decide
          have hs9 : (cellsOf 9 (cmdC (s.q 2))).size = 9 := cellsOf_size _ _
          have HR2 : Hid (Range (wr.drew.setCells b (o + 12) (cellsOf 9 (cmdC (s.q 2))).toList) b o 119 (pseatC (s.shift (2 + 1)))) := (HR.out.drew.setN 12 9 (by omega) (cmdC (s.q 2))).congr (fun j hj => shift_next s 2 (by omega) (by omega) j)
          have HO2 : Hid (OnR b o 119 V2 (wr.drew.setCells b (o + 12) (cellsOf 9 (cmdC (s.q 2))).toList)) := HO.out.drew.trans (OnR.setN _ 12 _ (by simp [cellsOf]))
          go_wp2_with fail
          refine still_tail5 12 (by kernel_rfl) (by kernel_rfl) ?_
          simp only [List.take_succ_cons, List.take_zero, List.drop_succ_cons, List.drop_zero]
          repeat still_step
          refine wpStill_nil ?_
          go_wp2
          go_roundg (gk - 1)
          case measure => omega
          case rel => exact ⟨2 + 1, rfl, by omega, by omega, by omega, HR2, HO2⟩
        · have lda : (big 9 ⟨b, o + 30, none⟩).run Tryz.prog wr.drew = .ok (cellsOf 9 (cmdC (s.q 3))) wr.drew := big_range (fun k hk => by
            have := HR.out (30 + k) (by omega)
            rw [Nat.add_assoc]
            show wr.cell? _ = _
            rw [this]
            exact congrArg some (shift_cell s 3 k hk (by omega)))
          have hstb := store_range (P := Tryz.prog) (W := wr.drew) (b := b) (o := o + 21) (cellsOf 9 (cmdC (s.q 3))).toList (fun k hk => by
            have h9 : k < 9 := by simpa [cellsOf] using hk
            have := HR.out (21 + k) (by omega)
            rw [Nat.add_assoc]
            show (wr.cell? _).isSome = true
            rw [this]; rfl) (fun n => fw n) (cellsOf_one (fun i _ => cmdC_one _ _))
          have wz : IntKind.i64.wrap 2 = 2 := by decide
          have hs9 : (cellsOf 9 (cmdC (s.q 3))).size = 9 := cellsOf_size _ _
          have HR2 : Hid (Range (wr.drew.setCells b (o + 21) (cellsOf 9 (cmdC (s.q 3))).toList) b o 119 (pseatC (s.shift (3 + 1)))) := (HR.out.drew.setN 21 9 (by omega) (cmdC (s.q 3))).congr (fun j hj => shift_next s 3 (by omega) (by omega) j)
          have HO2 : Hid (OnR b o 119 V2 (wr.drew.setCells b (o + 21) (cellsOf 9 (cmdC (s.q 3))).toList)) := HO.out.drew.trans (OnR.setN _ 21 _ (by simp [cellsOf]))
          go_wp2_with fail
          refine still_tail5 12 (by kernel_rfl) (by kernel_rfl) ?_
          simp only [List.take_succ_cons, List.take_zero, List.drop_succ_cons, List.drop_zero]
          repeat still_step
          refine wpStill_nil ?_
          go_wp2
          go_roundg (gk - 1)
          case measure => omega
          case rel => exact ⟨3 + 1, rfl, by omega, by omega, by omega, HR2, HO2⟩
      · obtain rfl : j = 4 := by omega
        have c39 : wr.cell? ⟨b, o + 39, none⟩ = some (.int .i64 s.waiting) := HR.out 39 (by omega)
        have fw : ∀ n, wr.frozen? ⟨b, n, none⟩ = false := fun n => (HO.out.fz n).trans (f2.out n)
        have hbn1 : w.heap.size + 1 ≠ b := by omega
        have hbn0 : w.heap.size ≠ b := by omega
        have Qo : Blk (wr.setCell ⟨b, o + 39, none⟩ (.int .i64 (s.waiting - 1))) (w.heap.size + 1) (cellsOf 9 (cmdC (s.q 0))) 50 := (Q2.out.on HO.out.on hbn1).other _ _ hbn1
        have Qz := (Q0.out.on HO.out.on hbn0).other (c := b) (o + 39) (.int .i64 (s.waiting - 1)) hbn0
        have ldo := big_blk (P := Tryz.prog) Qo hs9
        obtain ⟨W3, hst3, q3, ho3⟩ := store_new (P := Tryz.prog) Qz (cellsOf 9 (cmdC (s.q 0))).toList (by simp [cellsOf]) (cellsOf_one (fun i _ => cmdC_one _ _))
        have q3' := hid (show Blk W3 w.heap.size (cellsOf 9 (cmdC (s.q 0))) 50 from by simpa using q3)
        have hbW : b < (wr.setCell ⟨b, o + 39, none⟩ (.int .i64 (s.waiting - 1))).heap.size := by have := O2.out.on.size; have := HO.out.on.size; simp; omega
        have RU : Hid (Range W3 b o 119 (pseatC s.up)) := ((HR.out.set1 39 (.int .i64 (s.waiting - 1))).congr (fun j hj => up_cell s j)).block (ho3.block b hbW (fun x => hbn0 x.symm))
        have OU : Hid (OnR b o 119 w W3) := by
          have h1 : OnR b o 119 w (wr.setCell ⟨b, o + 39, none⟩ (.int .i64 (s.waiting - 1))) := (O2.out.trans HO.out).trans (OnR.set wr 39 (by omega) _)
          have hs1 := h1.on.size
          exact ⟨⟨ho3.os.trans h1.on.os, ho3.tape.trans h1.on.tape, ho3.output.trans h1.on.output, Nat.le_trans h1.on.size ho3.size, fun k hk hb => (ho3.block k (by omega) (by omega)).trans (h1.on.block k hk hb)⟩,
            fun k hk => (World.cell?_of_block (a := ⟨b, k, none⟩) (ho3.block b hbW (fun x => hbn0 x.symm))).trans (h1.out k hk), fun i => (World.frozen?_of_block (a := ⟨b, i, none⟩) (ho3.block b hbW (fun x => hbn0 x.symm))).trans (h1.fz i)⟩
        clear Qo Qz q3 ho3 HR HO Q2 Q0 R2 O2
        go_wp2
        exact bodyPost_ret (v := .tuple #[.agg (cellsOf 9 (cmdC (s.q 0))), .bool true]) (results_cmd Tryz.results95 _ _ _ _ rfl q3'.out hs9) rfl (.inr ⟨by have := H0.out; omega, rfl, RU.out, OU.out⟩)

end Go.Proofs.YtonmihojfcjmjaaGreat

/- Contracts of the program's game: Disconnect, Packet, Snapshot of a slot without a client. -/
namespace Go.Proofs.YtonmihojfcjmjaaGreat
open Go.RowKit
set_option linter.unusedVariables false
attribute [local go_sem] cell_set_off cell_set_blk
attribute [local go_sem ↓] big65 big65'

/-- Disconnect. -/
def M.PGame.leave (g : M.PGame) (slot : Int) : Int × M.PGame := if g.takenB slot then (0, g.put slot.toNat (M.PSeat.empty (g.seat slot.toNat).gen)) else (7, g)
/-- Packet, of what Decode tells. -/
def M.PGame.packet (g : M.PGame) (slot : Int) (c : M.Cmd) (e : Int) : Int × M.PGame :=
  if g.takenB slot = false then (7, g) else if e ≠ 0 then (e, g) else if c.seq ≤ (g.seat slot.toNat).last then (9, g) else if 4 ≤ (g.seat slot.toNat).waiting then (10, g) else (0, g.put slot.toNat ((g.seat slot.toNat).put c))

theorem taken_nat {g : M.PGame} {slot : Int} (h : g.takenB slot = true) : ∃ i : Nat, slot = (i : Int) ∧ i < 8 ∧ (g.seat i).taken = true := by
  unfold M.PGame.takenB at h
  simp at h
  exact ⟨slot.toNat, by omega, by omega, h.2⟩

/-- What a call on the game leaves: an error number, and the game. -/
def ErrPost (b : Nat) (mv : Value) (ps : Nat → Bool) (w : World) (F : Int × M.PGame) (e : Ending) (w' : World) : Prop := e = .returned (.int .i64 F.1) ∧ Pg w' b mv ps F.2 ∧ On b w w'

set_option maxRecDepth 100000 in
set_option maxHeartbeats 2000000 in
theorem pLeave_any (b : Nat) (mv : Value) (ps : Nat → Bool) (g : M.PGame) (slot : Int) (w : World) (h : Pg w b mv ps g) (F : Int × M.PGame) (hF : Hid (g.leave slot = F)) :
    Calls Tryz.prog 36 #[.pointer (some ⟨b, 0, none⟩), .int .i64 slot] w (ErrPost b mv ps w F) := by
  have HP := hid h
  obtain ⟨T, hT⟩ : ∃ T, g.takenB slot = T := ⟨_, rfl⟩
  have HT := hid hT
  clear hT h
  go_enter Tryz.func36, Tryz.ntmps36
  go_wp2_with fail
  refine (pTaken_any b mv ps g slot _ HP.out T HT).mono ?_
  rintro e w1 ⟨rfl, rfl⟩
  cases T
  · obtain rfl : (7, g) = F := by rw [← hF.out]; unfold M.PGame.leave; rw [HT.out]; rfl
    go_wp2
    go_ret
    exact ⟨rfl, HP.out, On.refl _ _⟩
  · obtain ⟨i, rfl, hi, _⟩ := taken_nat HT.out
    obtain rfl : (0, g.put i (M.PSeat.empty (g.seat i).gen)) = F := by rw [← hF.out]; unfold M.PGame.leave; rw [HT.out]; rfl
    have i0 : (0 : Int) ≤ (i : Int) := by omega
    have i1 : (i : Int) < 8 := by omega
    clear hF HT
    go_wp2_with fail
    refine (sfree_any b (66 + i * 119) (g.seat i) _ (fun k hk => HP.out.cs i k hi hk) HP.out.free HP.out.lt).mono ?_
    rintro e w2 ⟨rfl, hr, ho⟩
    have P2 := hid (HP.out.put hi hr ho)
    have O2 := ho.on
    clear hr ho HP
    go_wp2
    go_ret
    exact ⟨rfl, P2.out, O2⟩

set_option maxRecDepth 100000 in
set_option maxHeartbeats 2000000 in
theorem pPacket_any (b : Nat) (mv : Value) (ps : Nat → Bool) (g : M.PGame) (slot : Int) (p : ByteArray) (w : World) (h : Pg w b mv ps g) (hs : p.size ≤ maxLen) (hw : ∀ j, j < 8 → 0 ≤ (g.seat j).waiting ∧ (g.seat j).waiting ≤ 4) (F : Int × M.PGame) (hF : Hid (g.packet slot (M.decR p) (M.decE p) = F)) :
    Calls Tryz.prog 38 #[.pointer (some ⟨b, 0, none⟩), .int .i64 slot, .string p] w (ErrPost b mv ps w F) := by
  have HP := hid h
  have HW := hid hw
  obtain ⟨T, hT⟩ : ∃ T, g.takenB slot = T := ⟨_, rfl⟩
  have HT := hid hT
  obtain ⟨c, hc⟩ : ∃ c, M.decR p = c := ⟨_, rfl⟩
  obtain ⟨e, he⟩ : ∃ e, M.decE p = e := ⟨_, rfl⟩
  have HC := hid hc
  have HE := hid he
  rw [hc, he] at hF
  have HS := hid hs
  clear hT h hw hc he hs
  go_enter Tryz.func38, Tryz.ntmps38
  go_wp2_with fail
  refine (pTaken_any b mv ps g slot _ HP.out T HT).mono ?_
  rintro rr w1 ⟨rfl, rfl⟩
  cases T
  · obtain rfl : (7, g) = F := by rw [← hF.out]; unfold M.PGame.packet; rw [HT.out]; rfl
    go_wp2
    go_ret
    exact ⟨rfl, HP.out, On.refl _ _⟩
  · obtain ⟨i, rfl, hi, _⟩ := taken_nat HT.out
    have i0 : (0 : Int) ≤ (i : Int) := by omega
    have i1 : (i : Int) < 8 := by omega
    have HF2 : Hid ((if e ≠ 0 then (e, g) else if c.seq ≤ (g.seat i).last then (9, g) else if 4 ≤ (g.seat i).waiting then (10, g) else (0, g.put i ((g.seat i).put c))) = F) := by
      unfold Hid; rw [← hF.out]; unfold M.PGame.packet; rw [HT.out]; rfl
    clear hF HT
    go_wp2_with fail
    refine (pDecode_any p _ c e HS.out HC HE).mono ?_
    rintro rr w2 ⟨rfl, hb⟩
    have P2 := hid (HP.out.after hb)
    have B2 := hid hb
    have hsz := hb.size
    clear hb HP
    by_cases h0 : e = 0
    · subst h0
      have HF3 : Hid ((if c.seq ≤ (g.seat i).last then (9, g) else if 4 ≤ (g.seat i).waiting then (10, g) else (0, g.put i ((g.seat i).put c))) = F) := HF2.out
      clear HF2
      go_wp2_with fail
      obtain ⟨V, hV⟩ : ∃ V, w2.alloc (.cells #[.int .i64 c.seq, .bool c.fire, .int .i64 c.mv.x, .int .i64 c.mv.y, .int .i64 c.mv.z, .int .i64 c.aim.x, .int .i64 c.aim.y, .int .i64 c.aim.z, .int .i64 c.time] 50) = V := ⟨_, rfl⟩
      have qc : Blk V w2.heap.size #[.int .i64 c.seq, .bool c.fire, .int .i64 c.mv.x, .int .i64 c.mv.y, .int .i64 c.mv.z, .int .i64 c.aim.x, .int .i64 c.aim.y, .int .i64 c.aim.z, .int .i64 c.time] 50 := by rw [← hV]; exact Blk.new rfl
      have PV := hid (show Pg V b mv ps g from by rw [← hV]; exact P2.out.alloc _)
      have BV := hid (show Below w1.heap.size w1 V from by rw [← hV]; have := B2.out; go_grown)
      obtain ⟨v0, v1, v2, v3, v4, v5, v6, v7, v8, vf, vl⟩ := qc.nine
      rw [hV]
      clear hV qc P2 B2
      refine still_tail5 6 (by kernel_rfl) (by kernel_rfl) ?_
      simp only [List.take_succ_cons, List.take_zero, List.drop_succ_cons, List.drop_zero]
      repeat still_step
      refine wpStill_nil ?_
      go_wp2_with fail
      refine (sput_any b (66 + i * 119) (g.seat i) c V.drew (fun k hk => by exact PV.out.cs i k hi hk) (by exact PV.out.free) (by exact PV.out.lt) (HW.out i hi).1 (HW.out i hi).2).mono ?_
      rintro rr w3 (⟨h1, rfl, hb⟩ | ⟨h1, h2, rfl, hb⟩ | ⟨h1, h2, rfl, hr, ho⟩)
      · obtain rfl : (9, g) = F := by rw [← HF3.out, if_pos h1]
        have P3 := hid (PV.out.of (hb.block b PV.out.lt) (by have := hb.size; have := PV.out.lt; simp at *; omega))
        have B3 := hid (show Below w1.heap.size w1 w3 from bl BV.out.drew hb)
        clear hb HF3 h1 v0 v1 v2 v3 v4 v5 v6 v7 v8 vf vl
        go_wp2
        go_ret
        exact ⟨rfl, P3.out, On.below B3.out⟩
      · obtain rfl : (10, g) = F := by rw [← HF3.out, if_neg h1, if_pos h2]
        have P3 := hid (PV.out.of (hb.block b PV.out.lt) (by have := hb.size; have := PV.out.lt; simp at *; omega))
        have B3 := hid (show Below w1.heap.size w1 w3 from bl BV.out.drew hb)
        clear hb HF3 h1 h2 v0 v1 v2 v3 v4 v5 v6 v7 v8 vf vl
        go_wp2
        go_ret
        exact ⟨rfl, P3.out, On.below B3.out⟩
      · obtain rfl : (0, g.put i ((g.seat i).put c)) = F := by rw [← HF3.out, if_neg h1, if_neg h2]
        have P3 := hid (PV.out.put hi hr ⟨ho.on.undrew, ho.out, ho.fz⟩)
        have O3 := hid ((On.below (b := b) BV.out).trans ho.on.undrew)
        clear hr ho HF3 h1 h2 v0 v1 v2 v3 v4 v5 v6 v7 v8 vf vl
        go_wp2
        go_ret
        exact ⟨rfl, P3.out, O3.out⟩
    · obtain rfl : (e, g) = F := by rw [← HF2.out, if_pos h0]
      have h1 : (e != 0) = true := by simp [h0]
      clear HF2 h0
      go_wp2
      go_ret
      exact ⟨rfl, P2.out.alloc _, On.below (by have := B2.out; go_grown)⟩

set_option maxHeartbeats 1000000 in
theorem pSnap_no (b : Nat) (mv : Value) (ps : Nat → Bool) (g : M.PGame) (slot : Int) (w : World) (h : Pg w b mv ps g) (ht : Hid (g.takenB slot = false)) :
    Calls Tryz.prog 42 #[.pointer (some ⟨b, 0, none⟩), .int .i64 slot] w fun e w' => e = .returned (.tuple #[.string ⟨#[]⟩, .int .i64 7]) ∧ Below w.heap.size w w' := by
  go_enter Tryz.func42, Tryz.ntmps42
  go_wp2_with fail
  refine (pTaken_any b mv ps g slot _ h false ht).mono ?_
  rintro e w1 ⟨rfl, rfl⟩
  go_wp2
  go_ret2
  exact ⟨rfl, by go_grown⟩

end Go.Proofs.YtonmihojfcjmjaaGreat
