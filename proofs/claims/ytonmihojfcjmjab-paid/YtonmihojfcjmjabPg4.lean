import Derived.Test.YtonmihojfcjmjabPg3
import Derived.Test.YtonmihojfcjmjabBK
/- Contracts of the program's game: enter, give, Connect, New. -/
namespace Go.Proofs.Ytonmihojfcjmjab
open Go.RowKit
set_option linter.unusedVariables false
attribute [local go_sem] cell_set_off cell_set_blk
attribute [local go_sem ↓] big65 big65'

theorem ite_c {p : Prop} [Decidable p] {a b a' b' : Value} (ha : p → a = a') (hb : ¬ p → b = b') : (if p then a else b) = (if p then a' else b') := by
  by_cases h : p
  · rw [if_pos h, if_pos h]; exact ha h
  · rw [if_neg h, if_neg h]; exact hb h
theorem ite_one {p : Prop} [Decidable p] {a b : Value} (ha : a.oneCell' = true) (hb : b.oneCell' = true) : (if p then a else b).oneCell' = true := by
  by_cases h : p
  · rw [if_pos h]; exact ha
  · rw [if_neg h]; exact hb
theorem pseatC_lo {s s' : M.PSeat} {k : Nat} (h : k < 40) (h0 : s.taken = s'.taken) (h1 : s.gen = s'.gen) (h2 : s.last = s'.last) (h3 : s.q = s'.q) (h4 : s.waiting = s'.waiting) : pseatC s k = pseatC s' k := by
  unfold pseatC
  exact ite_c (fun _ => by rw [h0]) (fun _ => ite_c (fun _ => by rw [h1]) (fun _ => ite_c (fun _ => by rw [h2]) (fun _ => ite_c (fun _ => by rw [h3]) (fun _ => ite_c (fun _ => by rw [h4]) (fun _ => absurd h (by omega))))))
theorem pseatC_hi {s s' : M.PSeat} {k : Nat} (h : 48 ≤ k) (h0 : s.ready = s'.ready) (hb : s.back = s'.back) (h1 : s.track = s'.track) (h2 : s.count = s'.count) : pseatC s k = pseatC s' k := by
  unfold pseatC
  exact ite_c (fun e => absurd e (by omega)) (fun _ => ite_c (fun e => absurd e (by omega)) (fun _ => ite_c (fun e => absurd e (by omega)) (fun _ => ite_c (fun e => absurd e (by omega)) (fun _ => ite_c (fun e => absurd e (by omega)) (fun _ => ite_c (fun e => absurd e (by omega)) (fun _ => ite_c (fun e => absurd e (by omega)) (fun _ => ite_c (fun e => absurd e (by omega)) (fun _ => ite_c (fun e => absurd e (by omega)) (fun _ => ite_c (fun e => absurd e (by omega)) (fun _ => ite_c (fun e => absurd e (by omega)) (fun _ => ite_c (fun e => absurd e (by omega)) (fun _ => ite_c (fun e => absurd e (by omega)) (fun _ => ite_c (fun _ => by rw [h0]) (fun _ => ite_c (fun _ => by rw [hb]) (fun _ => ite_c (fun _ => by rw [h1]) (fun _ => by rw [h2]))))))))))))))))
theorem cmdC_one (c : M.Cmd) (k : Nat) : (cmdC c k).oneCell' = true := by unfold cmdC; split <;> rfl
theorem recC_one (c : M.Rec) (k : Nat) : (recC c k).oneCell' = true := by unfold recC; split <;> rfl
theorem pseatC_one (s : M.PSeat) (k : Nat) : (pseatC s k).oneCell' = true := by
  unfold pseatC
  exact ite_one rfl (ite_one rfl (ite_one rfl (ite_one (cmdC_one _ _) (ite_one rfl (ite_one rfl (ite_one rfl (ite_one rfl (ite_one rfl (ite_one rfl (ite_one rfl (ite_one rfl (ite_one rfl (ite_one rfl (ite_one rfl (ite_one (recC_one _ _) rfl)))))))))))))))

theorem zeroPlayer : Try.zeroCells82 = cellsOf 79 (fun k => pseatC (M.PSeat.empty 0) (40 + k)) := by kernel_rfl
theorem player_cells (s : M.PSeat) (p : M.V3) : (((((((Try.zeroCells82.toList.set 0 (.int .i64 p.x)).set 1 (.int .i64 p.y)).set 2 (.int .i64 p.z)).set 3 (.int .i64 p.x)).set 4 (.int .i64 p.y)).set 5 (.int .i64 p.z)).set 6 (.int .i64 100)).set 7 (.int .i64 6) = (cellsOf 79 (fun k => pseatC (s.enter p) (40 + k))).toList := by
  rw [zeroPlayer]
  repeat rw [cellsOf_toList_set]
  refine congrArg Array.toList (cellsOf_congr (fun j _ => ?_))
  match j with
  | 0 => rfl
  | 1 => rfl
  | 2 => rfl
  | 3 => rfl
  | 4 => rfl
  | 5 => rfl
  | 6 => rfl
  | 7 => rfl
  | j + 8 =>
    iterate 8 rw [if_neg (by omega)]
    exact pseatC_hi (by omega) rfl rfl rfl rfl

set_option maxRecDepth 100000 in
set_option maxHeartbeats 2000000 in
theorem senter_any (b o : Nat) (s : M.PSeat) (p : M.V3) (w : World) (hR : Range w b o 119 (pseatC s)) (hf : ∀ i, w.frozen? ⟨b, i, none⟩ = false) (hlt : b < w.heap.size) (g1 : 0 ≤ s.gen) (g2 : s.gen ≤ 255) :
    Calls Try.prog 63 #[.pointer (some ⟨b, o, none⟩), .agg #[.int .i64 p.x, .int .i64 p.y, .int .i64 p.z]] w fun e w' => e = .returned (.tuple #[]) ∧ Range w' b o 119 (pseatC (s.enter p)) ∧ OnR b o 119 w w' := by
  have c1 : w.cell? ⟨b, o + 1, none⟩ = some (.int .i64 s.gen) := hR 1 (by omega)
  have hst := store_range (P := Try.prog) (W := (w.setCell ⟨b, o + 1, none⟩ (.int .i64 ((s.gen + 1) % 256))).alloc (.cells #[.int .i64 p.x, .int .i64 p.y, .int .i64 p.z] 33)) (b := b) (o := o + 40) ((((((((Try.zeroCells82.toList.set 0 (.int .i64 p.x)).set 1 (.int .i64 p.y)).set 2 (.int .i64 p.z)).set 3 (.int .i64 p.x)).set 4 (.int .i64 p.y)).set 5 (.int .i64 p.z)).set 6 (.int .i64 100)).set 7 (.int .i64 6))
    (fun j hj => by
      rw [player_cells s p] at hj
      have := ((hR.set1 1 (.int .i64 ((s.gen + 1) % 256))).block (W' := (w.setCell ⟨b, o + 1, none⟩ (.int .i64 ((s.gen + 1) % 256))).alloc (.cells #[.int .i64 p.x, .int .i64 p.y, .int .i64 p.z] 33)) (Below.heap_alloc _ _ _ (by simpa using hlt))) (40 + j) (by simp [cellsOf] at hj; omega)
      rw [Nat.add_assoc, this]; rfl)
    (fun i => by rw [World.frozen?_alloc_past _ _ _ (by simpa using hlt), World.frozen?_setCell]; exact hf i)
    (by rw [player_cells s p]; exact cellsOf_one (fun i _ => pseatC_one _ _))
  have R2 := ((hR.set1 1 (.int .i64 ((s.gen + 1) % 256))).block (W' := (w.setCell ⟨b, o + 1, none⟩ (.int .i64 ((s.gen + 1) % 256))).alloc (.cells #[.int .i64 p.x, .int .i64 p.y, .int .i64 p.z] 33)) (Below.heap_alloc _ _ _ (by simpa using hlt))).setN 40 79 (by omega) (fun k => pseatC (s.enter p) (40 + k))
  have O2 := (((OnR.set (b := b) (o := o) (n := 119) w 1 (by omega) (.int .i64 ((s.gen + 1) % 256))).trans (OnR.below ((Below.refl _ _).alloc (Nat.le_refl _) (.cells #[.int .i64 p.x, .int .i64 p.y, .int .i64 p.z] 33)) (by simpa using hlt))).trans (OnR.setN _ 40 (cellsOf 79 (fun k => pseatC (s.enter p) (40 + k))).toList (by simp [cellsOf])))
  rw [← player_cells s p] at R2 O2
  have R3 : Range _ b o 119 (pseatC (s.enter p)) := R2.congr (fun j hj => by
    by_cases e : 40 ≤ j ∧ j < 40 + 79
    · rw [if_pos e, show 40 + (j - 40) = j by omega]
    · rw [if_neg e]
      by_cases e1 : j = 1
      · subst e1; rfl
      · rw [if_neg e1]
        have hj40 : j < 40 := by omega
        unfold pseatC
        exact ite_c (fun _ => rfl) (fun _ => ite_c (fun e => absurd e e1) (fun _ => ite_c (fun _ => rfl) (fun _ => ite_c (fun _ => rfl) (fun _ => ite_c (fun _ => rfl) (fun _ => absurd hj40 (by omega)))))))
  have HR := hid R3
  have HO := hid O2
  clear R2 R3 O2 hR
  go_enter Try.func63, Try.ntmps63
  go_wp2
  go_end0
  exact ⟨rfl, HR.out, HO.out⟩

set_option maxHeartbeats 2000000 in
theorem give_any (b o : Nat) (s : M.PSeat) (p : M.V3) (w : World) (hR : Range w b o 119 (pseatC s)) (hf : ∀ i, w.frozen? ⟨b, i, none⟩ = false) (hlt : b < w.heap.size) (g1 : 0 ≤ s.gen) (g2 : s.gen ≤ 255) :
    Calls Try.prog 44 #[.pointer (some ⟨b, o, none⟩), .agg #[.int .i64 p.x, .int .i64 p.y, .int .i64 p.z]] w fun e w' => e = .returned (.tuple #[]) ∧ Range w' b o 119 (pseatC (s.give p)) ∧ OnR b o 119 w w' := by
  have c0 : w.cell? ⟨b, o, none⟩ = some (.bool s.taken) := hR 0 (by omega)
  have R1 : Range (w.setCell ⟨b, o, none⟩ (.bool true)) b o 119 (pseatC { s with taken := true }) := (hR.set1 0 (.bool true)).congr (fun j hj => by
    by_cases e : j = 0
    · subst e; rfl
    · rw [if_neg e]; unfold pseatC; rw [if_neg e, if_neg e])
  have HR := hid R1
  have HF := hid hf
  have f0 := hf o
  clear R1 hR hf
  go_enter Try.func44, Try.ntmps44
  go_wp2_with fail
  refine (senter_any b o { s with taken := true } p _ (HR.out.block (Below.heap_alloc _ _ _ (by simpa using hlt))) (fun i => by rw [World.frozen?_alloc_past _ _ _ (by simpa using hlt), World.frozen?_setCell]; exact HF.out i) (by simp; omega) g1 g2).mono ?_
  rintro e w2 ⟨rfl, hr, ho⟩
  have O2 : OnR b o 119 w w2 := ((OnR.set (b := b) (o := o) (n := 119) w 0 (by omega) (.bool true)).trans (OnR.below ((Below.refl _ _).alloc (Nat.le_refl _) (.cells #[.int .i64 p.x, .int .i64 p.y, .int .i64 p.z] 33)) (by simpa using hlt))).trans ho
  have HR2 := hid hr
  clear hr ho HR
  go_wp2
  go_end0
  exact ⟨rfl, HR2.out, O2⟩

theorem On.undrew {b : Nat} {w w' : World} (h : On b w.drew w') : On b w w' := ⟨h.os, h.tape, h.output, h.size, h.block⟩
/-- One slot of the game has changed. -/
theorem Pg.put {W W' : World} {b : Nat} {mv : Value} {ps : Nat → Bool} {g : M.PGame} (h : Pg W b mv ps g) {i : Nat} (hi : i < 8) {s : M.PSeat} (hr : Range W' b (66 + i * 119) 119 (pseatC s)) (ho : OnR b (66 + i * 119) 119 W W') : Pg W' b mv ps (g.put i s) := by
  refine ⟨fun j hj => ?_, ?_, fun k m hk8 hm => ?_, fun o => (ho.fz o).trans (h.free o), by have := ho.on.size; have := h.lt; omega⟩
  · rw [ho.out _ (by omega)]; exact h.cm j hj
  · rw [ho.out _ (by omega)]; exact h.ct
  · by_cases e : k = i
    · subst e; rw [M.PGame.put_at]; exact hr m hm
    · rw [M.PGame.put_ne _ _ e, ho.out _ (by omega)]; exact h.cs k m hk8 hm

set_option maxRecDepth 100000 in
set_option maxHeartbeats 2000000 in
theorem pConnect_any (b : Nat) (x : Option Addr) (n cap : Nat) (ps : Nat → Bool) (ls : List M.Lf) (g : M.PGame) (p : M.V3) (w : World) (h : Pg w b (.slice x n cap) ps g) (hown : w.ownsRow 0 154 7 (.slice x n cap) ls.length (flat ls)) (hl : ls.length ≤ 512) (hg : ∀ j, j < 8 → 0 ≤ (g.seat j).gen ∧ (g.seat j).gen ≤ 255) :
    Calls Try.prog 33 #[.pointer (some ⟨b, 0, none⟩), .agg #[.int .i64 p.x, .int .i64 p.y, .int .i64 p.z]] w fun e w' => e = .returned (.tuple #[.int .i64 (g.connect (M.inCube p && decide (0 ≤ M.zP p ls (-1))) p).1, .int .i64 (g.connect (M.inCube p && decide (0 ≤ M.zP p ls (-1))) p).2.1]) ∧ Pg w' b (.slice x n cap) ps (g.connect (M.inCube p && decide (0 ≤ M.zP p ls (-1))) p).2.2 ∧ On b w w' := by
  obtain ⟨C, hC⟩ : ∃ C, (M.inCube p && decide (0 ≤ M.zP p ls (-1))) = C := ⟨_, rfl⟩
  have HC : Hid ((M.inCube p && decide (0 ≤ M.zP p ls (-1))) = C) := hC
  rw [hC]
  clear hC
  obtain ⟨F, hF⟩ : ∃ F, g.connect C p = F := ⟨_, rfl⟩
  rw [hF]
  have HF : Hid (g.connect C p = F) := hF
  clear hF
  have HP := hid h
  have HO := hid hown
  have hlt := h.lt
  clear h hown
  have HG := hid hg
  clear hg
  go_enter Try.func33, Try.ntmps33
  go_wp2_with fail
  refine (pcan_any b x n cap ps ls g p _ (HP.out.alloc _) (own_of HO.out (fun k hk => by rw [Below.heap_alloc _ _ _ (own_lt HO.out hk)])) hl C HC).mono ?_
  rintro e w1 ⟨rfl, hb⟩
  have q0 := (show Blk _ w.heap.size #[.int .i64 p.x, .int .i64 p.y, .int .i64 p.z] 33 from (by repeat' (first | (with_reducible assumption) | (refine Blk.new ?_; (first | (simp; done) | rfl); done) | (with_reducible refine Blk.alloc ?_) | (with_reducible refine Blk.drew ?_) | (with_reducible refine Blk.drewN ?_)))).after hb
  have B1 : Below w.heap.size w w1 := bl (by go_grown) hb
  have P1 := hid (HP.out.after B1)
  clear hb HP
  cases C
  · obtain rfl : (0, 5, g) = F := by rw [← HF.out]; rfl
    clear HF
    go_wp2
    go_ret2
    exact ⟨rfl, P1.out, On.below B1⟩
  · have HF0 : Hid (g.freeFrom 8 0 = g.free) := rfl
    have hz := B1.size
    go_wp2_with fail
    go_loopg [6, 11] 9 (fun k u6 u11 wr => ∃ j : Nat, u11 = .int .i64 j ∧ j ≤ 8 ∧ k + j = 9 ∧ Hid (g.freeFrom (8 - j) j = g.free) ∧ wr = w1)
    case atStart => exact ⟨0, rfl, by omega, rfl, HF0, rfl⟩
    case round =>
      obtain ⟨j, rfl, hj, hk, hS, rfl⟩ := hrel
      by_cases hlt8 : j < 8
      · have j0 : (0 : Int) ≤ (j : Int) := by omega
        have j1 : (j : Int) < 8 := by omega
        have c0 := (P1.out.se hlt8).c0
        cases ht : (g.seat j).taken
        · rw [ht] at c0
          have hn : g.free = some j := by
            rw [← hS.out, show 8 - j = (8 - (j + 1)) + 1 by omega]; unfold M.PGame.freeFrom; rw [if_pos ht]
          have e : F = ((j : Int), 0, g.put j ((g.seat j).give p)) := by rw [← HF.out]; unfold M.PGame.connect; rw [if_neg (by simp), hn]
          subst e
          obtain ⟨a0, a1, a2, af, al⟩ := q0.three
          have hlt1 := P1.out.lt
          clear hn HF hS ht
          go_wp2_with fail
          refine still_tail5 6 (by kernel_rfl) (by kernel_rfl) ?_
          simp only [List.take_succ_cons, List.take_zero, List.drop_succ_cons, List.drop_zero]
          repeat still_step
          refine wpStill_nil ?_
          go_wp2_with fail
          refine (give_any b (66 + j * 119) (g.seat j) p wr.drew (fun k hk => by exact P1.out.cs j k hlt8 hk) (by exact P1.out.free) (by exact hlt1) (HG.out j hlt8).1 (HG.out j hlt8).2).mono ?_
          rintro e w2 ⟨rfl, hr, ho⟩
          have P2 : Pg w2 b (.slice x n cap) ps (g.put j ((g.seat j).give p)) := P1.out.put hlt8 hr ⟨ho.on.undrew, ho.out, ho.fz⟩
          have O2 : On b w w2 := (On.below B1).trans ho.on.undrew
          have HP2 := hid P2
          clear hr ho P2 a0 a1 a2 af al c0
          go_wp2
          go_ret2
          exact ⟨rfl, HP2.out, O2⟩
        · rw [ht] at c0
          have HS2 : Hid (g.freeFrom (8 - (j + 1)) (j + 1) = g.free) := by
            unfold Hid; rw [← hS.out, show 8 - j = (8 - (j + 1)) + 1 by omega]; conv => rhs; unfold M.PGame.freeFrom
            rw [if_neg (by simp [ht])]
          clear ht hS
          go_wp2
          go_roundg (gk - 1)
          case measure => omega
          case rel => exact ⟨j + 1, by go_num, by omega, by omega, HS2, rfl⟩
      · have j1 : ¬ (j : Int) < 8 := by omega
        obtain rfl : j = 8 := by omega
        have hn : g.free = none := by rw [← hS.out]; rfl
        have e : F = (0, 6, g) := by rw [← HF.out]; unfold M.PGame.connect; rw [if_neg (by simp), hn]
        subst e
        clear hS hn HF
        go_wp2
        go_ret2
        exact ⟨rfl, P1.out, On.below B1⟩

end Go.Proofs.Ytonmihojfcjmjab
