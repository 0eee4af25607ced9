import Derived.Test.YtonmihojfcjmjaaGreatBPg
import Derived.Test.YtonmihojfcjmjaaGreatBK
/- Contracts of the program's game: enter, give, Connect, New. -/
namespace Go.Proofs.YtonmihojfcjmjaaGreat
open Go.RowKit
set_option linter.unusedVariables false
attribute [local go_sem] cell_set_off cell_set_blk
attribute [local go_sem ↓] big65 big65'

theorem ite_c {p : Prop} [Decidable p] {a b a' b' : Value} (ha : p → a = a') (hb : ¬ p → b = b') : (if p then a else b) = (if p then a' else b') := by
  by_cases h : p
  · rw [if_pos h, if_pos h]; exact ha h
  · rw [if_neg h, if_neg h]; exact hb h
theorem ite_one {p : Prop} [Decidable p] {a b : Value} (ha : a.oneCell' = true) (hb : b.oneCell' = true) : (if p then a else b).oneCell' = true := by
  by_cases h : p
  · rw [if_pos h]; exact ha
  · rw [if_neg h]; exact hb
theorem pseatC_lo {s s' : M.PSeat} {k : Nat} (h : k < 40) (h0 : s.taken = s'.taken) (h1 : s.gen = s'.gen) (h2 : s.last = s'.last) (h3 : s.q = s'.q) (h4 : s.waiting = s'.waiting) : pseatC s k = pseatC s' k := by
  unfold pseatC
  exact ite_c (fun _ => by rw [h0]) (fun _ => ite_c (fun _ => by rw [h1]) (fun _ => ite_c (fun _ => by rw [h2]) (fun _ => ite_c (fun _ => by rw [h3]) (fun _ => ite_c (fun _ => by rw [h4]) (fun _ => absurd h (by omega))))))
theorem pseatC_hi {s s' : M.PSeat} {k : Nat} (h : 48 ≤ k) (h0 : s.ready = s'.ready) (hb : s.back = s'.back) (h1 : s.track = s'.track) (h2 : s.count = s'.count) : pseatC s k = pseatC s' k := by
  unfold pseatC
  exact ite_c (fun e => absurd e (by omega)) (fun _ => ite_c (fun e => absurd e (by omega)) (fun _ => ite_c (fun e => absurd e (by omega)) (fun _ => ite_c (fun e => absurd e (by omega)) (fun _ => ite_c (fun e => absurd e (by omega)) (fun _ => ite_c (fun e => absurd e (by omega)) (fun _ => ite_c (fun e => absurd e (by omega)) (fun _ => ite_c (fun e => absurd e (by omega)) (fun _ => ite_c (fun e => absurd e (by omega)) (fun _ => ite_c (fun e => absurd e (by omega)) (fun _ => ite_c (fun e => absurd e (by omega)) (fun _ => ite_c (fun e => absurd e (by omega)) (fun _ => ite_c (fun e => absurd e (by omega)) (fun _ => ite_c (fun _ => by rw [h0]) (fun _ => ite_c (fun _ => by rw [hb]) (fun _ => ite_c (fun _ => by rw [h1]) (fun _ => by rw [h2]))))))))))))))))
theorem cmdC_one (c : M.Cmd) (k : Nat) : (cmdC c k).oneCell' = true := by unfold cmdC; split <;> rfl
theorem recC_one (c : M.Rec) (k : Nat) : (recC c k).oneCell' = true := by unfold recC; split <;> rfl
theorem pseatC_one (s : M.PSeat) (k : Nat) : (pseatC s k).oneCell' = true := by
  unfold pseatC
  exact ite_one rfl (ite_one rfl (ite_one rfl (ite_one (cmdC_one _ _) (ite_one rfl (ite_one rfl (ite_one rfl (ite_one rfl (ite_one rfl (ite_one rfl (ite_one rfl (ite_one rfl (ite_one rfl (ite_one rfl (ite_one rfl (ite_one (recC_one _ _) rfl)))))))))))))))

theorem zeroPlayer : Tryz.zeroCells58 = cellsOf 79 (fun k => pseatC (M.PSeat.empty 0) (40 + k)) := by kernel_rfl
theorem player_cells (s : M.PSeat) (p : M.V3) : (((((((Tryz.zeroCells58.toList.set 0 (.int .i64 p.x)).set 1 (.int .i64 p.y)).set 2 (.int .i64 p.z)).set 3 (.int .i64 p.x)).set 4 (.int .i64 p.y)).set 5 (.int .i64 p.z)).set 6 (.int .i64 100)).set 7 (.int .i64 6) = (cellsOf 79 (fun k => pseatC (s.enter p) (40 + k))).toList := by
  rw [zeroPlayer]
  repeat rw [cellsOf_toList_set]
  refine congrArg Array.toList (cellsOf_congr (fun j _ => ?_))
  match j with
  | 0 => rfl
  | 1 => rfl
  | 2 => rfl
  | 3 => rfl
  | 4 => rfl
  | 5 => rfl
  | 6 => rfl
  | 7 => rfl
  | j + 8 =>
    iterate 8 rw [if_neg (by omega)]
    exact pseatC_hi (by omega) rfl rfl rfl rfl

set_option maxRecDepth 100000 in
set_option maxHeartbeats 2000000 in
theorem senter_any (b o : Nat) (s : M.PSeat) (p : M.V3) (w : World) (hR : Range w b o 119 (pseatC s)) (hf : ∀ i, w.frozen? ⟨b, i, none⟩ = false) (hlt : b < w.heap.size) (g1 : 0 ≤ s.gen) (g2 : s.gen ≤ 255) :
    Calls Tryz.prog 73 #[.pointer (some ⟨b, o, none⟩), .agg #[.int .i64 p.x, .int .i64 p.y, .int .i64 p.z]] w fun e w' => e = .returned (.tuple #[]) ∧ Range w' b o 119 (pseatC (s.enter p)) ∧ OnR b o 119 w w' := by
  have c1 : w.cell? ⟨b, o + 1, none⟩ = some (.int .i64 s.gen) := hR 1 (by omega)
  have hst := store_range (P := Tryz.prog) (W := (w.setCell ⟨b, o + 1, none⟩ (.int .i64 ((s.gen + 1) % 256))).alloc (.cells #[.int .i64 p.x, .int .i64 p.y, .int .i64 p.z] 27)) (b := b) (o := o + 40) ((((((((Tryz.zeroCells58.toList.set 0 (.int .i64 p.x)).set 1 (.int .i64 p.y)).set 2 (.int .i64 p.z)).set 3 (.int .i64 p.x)).set 4 (.int .i64 p.y)).set 5 (.int .i64 p.z)).set 6 (.int .i64 100)).set 7 (.int .i64 6))
    (fun j hj => by
      rw [player_cells s p] at hj
      have := ((hR.set1 1 (.int .i64 ((s.gen + 1) % 256))).block (W' := (w.setCell ⟨b, o + 1, none⟩ (.int .i64 ((s.gen + 1) % 256))).alloc (.cells #[.int .i64 p.x, .int .i64 p.y, .int .i64 p.z] 27)) (Below.heap_alloc _ _ _ (by simpa using hlt))) (40 + j) (by simp [cellsOf] at hj; omega)
      rw [Nat.add_assoc, this]; rfl)
    (fun i => by rw [World.frozen?_alloc_past _ _ _ (by simpa using hlt), World.frozen?_setCell]; exact hf i)
    (by rw [player_cells s p]; exact cellsOf_one (fun i _ => pseatC_one _ _))
  have R2 := ((hR.set1 1 (.int .i64 ((s.gen + 1) % 256))).block (W' := (w.setCell ⟨b, o + 1, none⟩ (.int .i64 ((s.gen + 1) % 256))).alloc (.cells #[.int .i64 p.x, .int .i64 p.y, .int .i64 p.z] 27)) (Below.heap_alloc _ _ _ (by simpa using hlt))).setN 40 79 (by omega) (fun k => pseatC (s.enter p) (40 + k))
  have O2 := (((OnR.set (b := b) (o := o) (n := 119) w 1 (by omega) (.int .i64 ((s.gen + 1) % 256))).trans (OnR.below ((Below.refl _ _).alloc (Nat.le_refl _) (.cells #[.int .i64 p.x, .int .i64 p.y, .int .i64 p.z] 27)) (by simpa using hlt))).trans (OnR.setN _ 40 (cellsOf 79 (fun k => pseatC (s.enter p) (40 + k))).toList (by simp [cellsOf])))
  rw [← player_cells s p] at R2 O2
  have R3 : Range _ b o 119 (pseatC (s.enter p)) := R2.congr (fun j hj => by
    by_cases e : 40 ≤ j ∧ j < 40 + 79
    · rw [if_pos e, show 40 + (j - 40) = j by omega]
    · rw [if_neg e]
      by_cases e1 : j = 1
      · subst e1; rfl
      · rw [if_neg e1]
        have hj40 : j < 40 := by omega
        unfold pseatC
        exact ite_c (fun _ => rfl) (fun _ => ite_c (fun e => absurd e e1) (fun _ => ite_c (fun _ => rfl) (fun _ => ite_c (fun _ => rfl) (fun _ => ite_c (fun _ => rfl) (fun _ => absurd hj40 (by omega)))))))
  have HR := hid R3
  have HO := hid O2
  clear R2 R3 O2 hR
  go_enter Tryz.func73, Tryz.ntmps73
  go_wp2
  go_end0
  exact ⟨rfl, HR.out, HO.out⟩

set_option maxHeartbeats 2000000 in
theorem give_any (b o : Nat) (s : M.PSeat) (p : M.V3) (w : World) (hR : Range w b o 119 (pseatC s)) (hf : ∀ i, w.frozen? ⟨b, i, none⟩ = false) (hlt : b < w.heap.size) (g1 : 0 ≤ s.gen) (g2 : s.gen ≤ 255) :
    Calls Tryz.prog 53 #[.pointer (some ⟨b, o, none⟩), .agg #[.int .i64 p.x, .int .i64 p.y, .int .i64 p.z]] w fun e w' => e = .returned (.tuple #[]) ∧ Range w' b o 119 (pseatC (s.give p)) ∧ OnR b o 119 w w' := by
  have c0 : w.cell? ⟨b, o, none⟩ = some (.bool s.taken) := hR 0 (by omega)
  have R1 : Range (w.setCell ⟨b, o, none⟩ (.bool true)) b o 119 (pseatC { s with taken := true }) := (hR.set1 0 (.bool true)).congr (fun j hj => by
    by_cases e : j = 0
    · subst e; rfl
    · rw [if_neg e]; unfold pseatC; rw [if_neg e, if_neg e])
  have HR := hid R1
  have HF := hid hf
  have f0 := hf o
  clear R1 hR hf
  go_enter Tryz.func53, Tryz.ntmps53
  go_wp2_with fail
  refine (senter_any b o { s with taken := true } p _ (HR.out.block (Below.heap_alloc _ _ _ (by simpa using hlt))) (fun i => by rw [World.frozen?_alloc_past _ _ _ (by simpa using hlt), World.frozen?_setCell]; exact HF.out i) (by simp; omega) g1 g2).mono ?_
  rintro e w2 ⟨rfl, hr, ho⟩
  have O2 : OnR b o 119 w w2 := ((OnR.set (b := b) (o := o) (n := 119) w 0 (by omega) (.bool true)).trans (OnR.below ((Below.refl _ _).alloc (Nat.le_refl _) (.cells #[.int .i64 p.x, .int .i64 p.y, .int .i64 p.z] 27)) (by simpa using hlt))).trans ho
  have HR2 := hid hr
  clear hr ho HR
  go_wp2
  go_end0
  exact ⟨rfl, HR2.out, O2⟩

theorem On.undrew {b : Nat} {w w' : World} (h : On b w.drew w') : On b w w' := ⟨h.os, h.tape, h.output, h.size, h.block⟩
/-- One slot of the game has changed. -/
theorem Pg.put {W W' : World} {b : Nat} {mv : Value} {ps : Nat → Bool} {g : M.PGame} (h : Pg W b mv ps g) {i : Nat} (hi : i < 8) {s : M.PSeat} (hr : Range W' b (66 + i * 119) 119 (pseatC s)) (ho : OnR b (66 + i * 119) 119 W W') : Pg W' b mv ps (g.put i s) := by
  refine ⟨fun j hj => ?_, ?_, fun k m hk8 hm => ?_, fun o => (ho.fz o).trans (h.free o), by have := ho.on.size; have := h.lt; omega⟩
  · rw [ho.out _ (by omega)]; exact h.cm j hj
  · rw [ho.out _ (by omega)]; exact h.ct
  · by_cases e : k = i
    · subst e; rw [M.PGame.put_at]; exact hr m hm
    · rw [M.PGame.put_ne _ _ e, ho.out _ (by omega)]; exact h.cs k m hk8 hm

set_option maxRecDepth 100000 in
set_option maxHeartbeats 2000000 in
theorem pConnect_any (b : Nat) (x : Option Addr) (n cap : Nat) (ps : Nat → Bool) (ls : List M.Lf) (g : M.PGame) (p : M.V3) (w : World) (h : Pg w b (.slice x n cap) ps g) (hown : w.ownsRow 0 137 7 (.slice x n cap) ls.length (flat ls)) (hl : ls.length ≤ 512) (hg : ∀ j, j < 8 → 0 ≤ (g.seat j).gen ∧ (g.seat j).gen ≤ 255) :
    Calls Tryz.prog 32 #[.pointer (some ⟨b, 0, none⟩), .agg #[.int .i64 p.x, .int .i64 p.y, .int .i64 p.z]] w fun e w' => e = .returned (.tuple #[.int .i64 (g.connect (M.inCube p && decide (0 ≤ M.zP p ls (-1))) p).1, .int .i64 (g.connect (M.inCube p && decide (0 ≤ M.zP p ls (-1))) p).2.1]) ∧ Pg w' b (.slice x n cap) ps (g.connect (M.inCube p && decide (0 ≤ M.zP p ls (-1))) p).2.2 ∧ On b w w' := by
  obtain ⟨C, hC⟩ : ∃ C, (M.inCube p && decide (0 ≤ M.zP p ls (-1))) = C := ⟨_, rfl⟩
  have HC : Hid ((M.inCube p && decide (0 ≤ M.zP p ls (-1))) = C) := hC
  rw [hC]
  clear hC
  obtain ⟨F, hF⟩ : ∃ F, g.connect C p = F := ⟨_, rfl⟩
  rw [hF]
  have HF : Hid (g.connect C p = F) := hF
  clear hF
  have HP := hid h
  have HO := hid hown
  have hlt := h.lt
  clear h hown
  have HG := hid hg
  clear hg
  go_enter Tryz.func32, Tryz.ntmps32
  go_wp2_with fail
  refine (pcan_any b x n cap ps ls g p _ (HP.out.alloc _) (own_of HO.out (fun k hk => by rw [Below.heap_alloc _ _ _ (own_lt HO.out hk)])) hl C HC).mono ?_
  rintro e w1 ⟨rfl, hb⟩
  have q0 := (show Blk _ w.heap.size #[.int .i64 p.x, .int .i64 p.y, .int .i64 p.z] 27 from (by repeat' (first | (with_reducible assumption) | (refine Blk.new ?_; (first | (simp; done) | rfl); done) | (with_reducible refine Blk.alloc ?_) | (with_reducible refine Blk.drew ?_) | (with_reducible refine Blk.drewN ?_)))).after hb
  have B1 : Below w.heap.size w w1 := bl (by go_grown) hb
  have P1 := hid (HP.out.after B1)
  clear hb HP
  cases C
  · obtain rfl : (0, 5, g) = F := by rw [← HF.out]; rfl
    clear HF
    go_wp2
    go_ret2
    exact ⟨rfl, P1.out, On.below B1⟩
  · have HF0 : Hid (g.freeFrom 8 0 = g.free) := rfl
    have hz := B1.size
    go_wp2_with fail
    go_loopg [6, 11] 9 (fun k u6 u11 wr => ∃ j : Nat, u11 = .int .i64 j ∧ j ≤ 8 ∧ k + j = 9 ∧ Hid (g.freeFrom (8 - j) j = g.free) ∧ wr = w1)
    case atStart => exact ⟨0, rfl, by omega, rfl, HF0, rfl⟩
    case round =>
      obtain ⟨j, rfl, hj, hk, hS, rfl⟩ := hrel
      by_cases hlt8 : j < 8
      · have j0 : (0 : Int) ≤ (j : Int) := by omega
        have j1 : (j : Int) < 8 := by omega
        have c0 := (P1.out.se hlt8).c0
        cases ht : (g.seat j).taken
        · rw [ht] at c0
          have hn : g.free = some j := by
            rw [← hS.out, show 8 - j = (8 - (j + 1)) + 1 by omega]; unfold M.PGame.freeFrom; rw [if_pos ht]
          have e : F = ((j : Int), 0, g.put j ((g.seat j).give p)) := by rw [← HF.out]; unfold M.PGame.connect; rw [if_neg (by simp), hn]
          subst e
          obtain ⟨a0, a1, a2, af, al⟩ := q0.three
          have hlt1 := P1.out.lt
          clear hn HF hS ht
          go_wp2_with fail
          refine still_tail5 6 (by kernel_rfl) (by kernel_rfl) ?_
          simp only [List.take_succ_cons, List.take_zero, List.drop_succ_cons, List.drop_zero]
          repeat still_step
          refine wpStill_nil ?_
          go_wp2_with fail
          refine (give_any b (66 + j * 119) (g.seat j) p wr.drew (fun k hk => by exact P1.out.cs j k hlt8 hk) (by exact P1.out.free) (by exact hlt1) (HG.out j hlt8).1 (HG.out j hlt8).2).mono ?_
          rintro e w2 ⟨rfl, hr, ho⟩
          have P2 : Pg w2 b (.slice x n cap) ps (g.put j ((g.seat j).give p)) := P1.out.put hlt8 hr ⟨ho.on.undrew, ho.out, ho.fz⟩
          have O2 : On b w w2 := (On.below B1).trans ho.on.undrew
          have HP2 := hid P2
          clear hr ho P2 a0 a1 a2 af al c0
          go_wp2
          go_ret2
          exact ⟨rfl, HP2.out, O2⟩
        · rw [ht] at c0
          have HS2 : Hid (g.freeFrom (8 - (j + 1)) (j + 1) = g.free) := by
            unfold Hid; rw [← hS.out, show 8 - j = (8 - (j + 1)) + 1 by omega]; conv => rhs; unfold M.PGame.freeFrom
            rw [if_neg (by simp [ht])]
          clear ht hS
          go_wp2
          go_roundg (gk - 1)
          case measure => omega
          case rel => exact ⟨j + 1, by go_num, by omega, by omega, HS2, rfl⟩
      · have j1 : ¬ (j : Int) < 8 := by omega
        obtain rfl : j = 8 := by omega
        have hn : g.free = none := by rw [← hS.out]; rfl
        have e : F = (0, 6, g) := by rw [← HF.out]; unfold M.PGame.connect; rw [if_neg (by simp), hn]
        subst e
        clear hS hn HF
        go_wp2
        go_ret2
        exact ⟨rfl, P1.out, On.below B1⟩

end Go.Proofs.YtonmihojfcjmjaaGreat

/- Contracts: New. -/
namespace Go.Proofs.YtonmihojfcjmjaaGreat
open Go.RowKit
set_option linter.unusedVariables false
attribute [local go_sem] cell_set_off cell_set_blk
attribute [local go_sem ↓] big65 big65'

theorem fold_set (n : Nat) : ∀ (L : List Value) (k : Nat) (c : Nat → Value), (L.zipIdx k).foldl (fun cs x => cs.setIfInBounds x.snd x.fst) (cellsOf n c) = cellsOf n (fun j => if k ≤ j ∧ j < k + L.length then (L[j - k]?).getD undef else c j)
  | [], k, c => by
    simp only [List.zipIdx_nil, List.foldl_nil]
    exact cellsOf_congr (fun j _ => by rw [if_neg (by simp)])
  | v :: r, k, c => by
    simp only [List.zipIdx_cons, List.foldl_cons]
    rw [cellsOf_set, fold_set n r (k + 1) _]
    refine cellsOf_congr (fun j _ => ?_)
    by_cases e : j = k
    · subst e
      rw [if_neg (by omega), if_pos rfl, if_pos (by simp)]
      simp
    · by_cases e2 : k + 1 ≤ j ∧ j < k + 1 + r.length
      · rw [if_pos e2, if_pos (by simp; omega)]
        obtain ⟨m, rfl⟩ : ∃ m, j = k + 1 + m := ⟨j - (k + 1), by omega⟩
        rw [show k + 1 + m - (k + 1) = m by omega, show k + 1 + m - k = m + 1 by omega]
        simp
      · rw [if_neg e2, if_neg e, if_neg (by simp; omega)]
theorem fold_cells (n m : Nat) (c d : Nat → Value) : Array.foldl (fun cs x => cs.setIfInBounds x.snd x.fst) (cellsOf n c) (cellsOf m d).zipIdx 0 m = cellsOf n (fun j => if j < m then d j else c j) := by
  have h := fold_set n (cellsOf m d).toList 0 c
  have e : Array.foldl (fun cs x => cs.setIfInBounds x.snd x.fst) (cellsOf n c) (cellsOf m d).zipIdx 0 m = ((cellsOf m d).toList.zipIdx 0).foldl (fun cs x => cs.setIfInBounds x.snd x.fst) (cellsOf n c) := by
    have hs : (cellsOf m d).zipIdx.size = m := by simp [cellsOf]
    rw [← Array.toList_zipIdx, Array.foldl_toList]
    rw [hs]
  rw [e, h]
  refine cellsOf_congr (fun j _ => ?_)
  by_cases hj : j < m
  · rw [if_pos (by simp [cellsOf]; omega), if_pos hj]
    simp [cellsOf, hj]
  · rw [if_neg (by simp [cellsOf]; omega), if_neg hj]

/-- A server's cells. -/
def gC (mv : Value) (ps : Nat → Bool) (g : M.PGame) (j : Nat) : Value := if j < 65 then mapC mv ps j else if j = 65 then .int .i64 g.tick else pseatC (g.seat ((j - 66) / 119)) ((j - 66) % 119)
theorem gC_one (x : Option Addr) (n cap : Nat) (ps : Nat → Bool) (g : M.PGame) : ∀ i, i < 1018 → (gC (.slice x n cap) ps g i).oneCell' = true := fun i _ => by
  unfold gC
  by_cases h : i < 65
  · rw [if_pos h]; exact mapC_one _ _ _ _ i h
  · rw [if_neg h]; exact ite_one rfl (pseatC_one _ _)
theorem zeroGame : Tryz.zeroCells63 = cellsOf 1018 (gC (.slice none 0 0) M.noPairs M.PGame.fresh) := by kernel_rfl
theorem zeroServer : Tryz.zeroCells66 = cellsOf 1018 (gC (.slice none 0 0) M.noPairs M.PGame.fresh) := by kernel_rfl

/-- The cells of a new game. -/
theorem game_cells {cs : Array Value} {v : Value} {ps : Nat → Bool} (h : MapIs cs v ps) : Array.foldl (fun cs x => cs.setIfInBounds x.snd x.fst) Tryz.zeroCells63 cs.zipIdx 0 65 = cellsOf 1018 (gC v ps M.PGame.fresh) := by
  rw [h.is, zeroGame, fold_cells]
  refine cellsOf_congr (fun j _ => ?_)
  unfold gC
  by_cases e : j < 65
  · rw [if_pos e, if_pos e]
  · rw [if_neg e, if_neg e, if_neg e]
theorem server_cells (c : Nat → Value) : Array.foldl (fun cs x => cs.setIfInBounds x.snd x.fst) Tryz.zeroCells66 (cellsOf 1018 c).zipIdx 0 1018 = cellsOf 1018 c := by
  rw [zeroServer, fold_cells]
  exact cellsOf_congr (fun j hj => by rw [if_pos hj])

set_option maxRecDepth 100000 in
set_option maxHeartbeats 2000000 in
theorem pNew_any (cs : Array Value) (x : Option Addr) (n cap : Nat) (ps : Nat → Bool) (hcs : MapIs cs (.slice x n cap) ps) (h65 : cs.size = 65) (w : World) :
    Calls Tryz.prog 13 #[.agg cs] w fun e w' => e = .returned (.agg (cellsOf 1018 (gC (.slice x n cap) ps M.PGame.fresh))) ∧ Below w.heap.size w w' := by
  have q0 : Blk ((w.alloc (.cells cs 46)).alloc (.cells Tryz.zeroCells63 63)) w.heap.size cs 46 := (Blk.new rfl).alloc
  have ld := big_blk (P := Tryz.prog) q0 h65
  clear q0
  have hgc := hid (game_cells hcs)
  have hsz : (Array.foldl (fun cs x => cs.setIfInBounds x.snd x.fst) Tryz.zeroCells63 cs.zipIdx 0 65).size = 1018 := by rw [game_cells hcs]; exact cellsOf_size _ _
  obtain ⟨W2, hst, q2, ho⟩ := store_new (P := Tryz.prog) (show Blk ((w.alloc (.cells cs 46)).alloc (.cells Tryz.zeroCells63 63)) (w.heap.size + 1) Tryz.zeroCells63 63 from Blk.new (by simp)) (Array.foldl (fun cs x => cs.setIfInBounds x.snd x.fst) Tryz.zeroCells63 cs.zipIdx 0 65).toList (by rw [Array.length_toList, hsz, Tryz.zeroCells63_size]) (by rw [game_cells hcs]; exact cellsOf_one (gC_one _ _ _ _ _))
  have B2 : Below w.heap.size w W2 := On.toBelow (by go_grown) (by simp; omega) ho (by omega)
  have HQ : Hid (Blk W2 (w.heap.size + 1) (cellsOf 1018 (gC (.slice x n cap) ps M.PGame.fresh)) 63) := by
    unfold Hid; rw [game_cells hcs] at q2; simpa using q2
  clear q2 ho hcs
  go_enter Tryz.func13, Tryz.ntmps13
  go_wp2
  exact bodyPost_ret (v := .agg (cellsOf 1018 (gC (.slice x n cap) ps M.PGame.fresh))) (results_cell_row Tryz.results13 _ _ _ _ _ _ _ rfl HQ.out.at_ Tryz.underlying63 rfl (by rw [cellsOf_size]; kernel_rfl)) rfl ⟨rfl, B2⟩

/-- What New gives back: nil and an error, or a server at b. -/
def NewPost (s : ByteArray) (w : World) (r : Ending) (w' : World) : Prop := Below w.heap.size w w' ∧
  (((M.errS s).1 ≠ 0 ∧ r = .returned (.tuple #[.pointer none, .int .i64 (M.errS s).1])) ∨
   ((M.errS s).1 = 0 ∧ ∃ (b : Nat) (x : Option Addr) (n cap : Nat), r = .returned (.tuple #[.pointer (some ⟨b, 0, none⟩), .int .i64 0]) ∧ w.heap.size ≤ b ∧ Pg w' b (.slice x n cap) (M.prs s) M.PGame.fresh ∧
      w'.ownsRow 0 137 7 (.slice x n cap) (M.top s).2.leaves.length (flat (M.top s).2.leaves) ∧ (∀ k, (Value.slice x n cap).ownBlock = some k → k ≠ b ∧ w.heap.size ≤ k)))

/-- A whole block is a server's. -/
theorem Pg.ofBlk {W : World} {b : Nat} {mv : Value} {ps : Nat → Bool} {g : M.PGame} {t : TypeId} (q : Blk W b (cellsOf 1018 (gC mv ps g)) t) : Pg W b mv ps g := by
  refine ⟨fun j hj => ?_, ?_, fun i k hi hk => ?_, q.frozen, q.lt⟩
  · rw [Nat.zero_add, q.cellC j (by omega)]; unfold gC; rw [if_pos hj]
  · rw [q.cellC 65 (by omega)]; rfl
  · rw [q.cellC _ (by omega)]; unfold gC
    rw [if_neg (by omega), if_neg (by omega), show 66 + i * 119 + k - 66 = k + 119 * i by omega, Nat.add_mul_div_left _ _ (by omega), Nat.add_mul_mod_self_left, Nat.div_eq_of_lt hk, Nat.mod_eq_of_lt hk, Nat.zero_add]

set_option maxRecDepth 100000 in
set_option maxHeartbeats 2000000 in
theorem new_any (s : ByteArray) (w : World) (hm : s.size ≤ maxLen) : Calls Tryz.prog 7 #[.string s] w (NewPost s w) := by
  go_enter Tryz.func7, Tryz.ntmps7
  go_wp2_with fail
  refine (read_any s _ hm).mono ?_
  rintro rr w1 ⟨e, k, cs, rfl, hsz, hE, hO, hb⟩
  have E : Hid (M.errS s = (e, k)) := hE
  obtain ⟨v1, hst, qm, hbv, hlv⟩ := keep_map w1 cs hsz
  have hs65 := hsz.1
  have ld := big_blk (P := Tryz.prog) qm hs65
  have B1v : Below w.heap.size w v1 := bl hb hbv
  clear hE hsz qm
  by_cases he : e = 0
  · subst he
    obtain ⟨x, n, cap, hcs, hown1⟩ := hO rfl
    have hown := own_base (base' := 0) hown1 (fun _ _ => Nat.zero_le _)
    have hgeq := hid (fun g (hg : (Value.slice x n cap).ownBlock = some g) => own_from hown1 hg)
    clear hown1
    have HO : Hid (v1.ownsRow 0 137 7 (.slice x n cap) (M.top s).2.leaves.length (flat (M.top s).2.leaves)) := own_of hown (fun g hg => hbv.block g (own_lt hown hg))
    have HCS := hid hcs
    clear hO hown hcs hb hbv hlv
    go_wp2_with fail
    refine (pNew_any cs x n cap (M.prs s) HCS.out hs65 _).mono ?_
    rintro rr w2 ⟨rfl, hb⟩
    have O2 : Hid (w2.ownsRow 0 137 7 (.slice x n cap) (M.top s).2.leaves.length (flat (M.top s).2.leaves)) := own_of HO.out (fun g hg => hb.block g (own_lt HO.out hg))
    have B2 : Below w.heap.size w w2 := bl B1v hb
    clear hb B1v hst ld HO
    have hsv := server_cells (gC (.slice x n cap) (M.prs s) M.PGame.fresh)
    have hsz := cellsOf_size 1018 (gC (.slice x n cap) (M.prs s) M.PGame.fresh)
    have h1 := hid (cellsOf_one (gC_one x n cap (M.prs s) M.PGame.fresh))
    have hpg := hid (fun (W : World) (b : Nat) (t : TypeId) (q : Blk W b (cellsOf 1018 (gC (.slice x n cap) (M.prs s) M.PGame.fresh)) t) => Pg.ofBlk q)
    generalize cellsOf 1018 (gC (.slice x n cap) (M.prs s) M.PGame.fresh) = gcs at *
    go_wp2
    go_ret2
    refine ⟨by have := B2.size; go_grown, .inr ⟨by rw [E.out], w2.heap.size, x, n, cap, rfl, B2.size, hpg.out _ _ _ (Blk.new rfl), own_of O2.out (fun g hg => by rw [Below.heap_alloc _ _ _ (own_lt O2.out hg)]), fun g hg => ⟨?_, ?_⟩⟩⟩
    · have := own_lt O2.out hg
      omega
    · exact hgeq.out g hg
  · have t : (e != 0) = true := by rw [bne_iff_ne]; exact he
    have HE : Hid (e ≠ 0) := he
    clear he hO ld
    go_wp2
    go_ret2
    exact ⟨B1v, .inl ⟨by rw [E.out]; exact HE.out, by rw [E.out]; rfl⟩⟩

end Go.Proofs.YtonmihojfcjmjaaGreat

/- Contracts: Snapshot. -/
namespace Go.Proofs.YtonmihojfcjmjaaGreat
open Go.RowKit
set_option linter.unusedVariables false
attribute [local go_sem] cell_set_off cell_set_blk
attribute [local go_sem ↓] big65 big65'

/-- What the loop has told so far. -/
structure PSnL (g : M.PGame) (ls : List M.Lf) (ps : Nat → Bool) (i j : Nat) (L : ByteArray) (n : Int) : Prop where
  sl : L.data.toList ++ g.rows ls ps i (8 - j) j = g.rows ls ps i 8 0
  sn : n + (g.count ls ps i (8 - j) j : Int) = (g.count ls ps i 8 0 : Int)
  n0 : 0 ≤ n
  n8 : n ≤ j
  sz : L.size ≤ 9 * j

theorem rows_succ (g : M.PGame) (ls : List M.Lf) (ps : Nat → Bool) (i k j : Nat) : g.rows ls ps i (k + 1) j = (if g.toldB ls ps i j = true then (g.seat j).row j else []) ++ g.rows ls ps i k (j + 1) := rfl
theorem pcount_succ (g : M.PGame) (ls : List M.Lf) (ps : Nat → Bool) (i k j : Nat) : g.count ls ps i (k + 1) j = (if g.toldB ls ps i j = true then 1 else 0) + g.count ls ps i k (j + 1) := rfl

theorem PSnL.no {g : M.PGame} {ls : List M.Lf} {ps : Nat → Bool} {i j : Nat} {L : ByteArray} {n : Int} (h : PSnL g ls ps i j L n) (hj : j < 8) (ht : g.toldB ls ps i j = false) : PSnL g ls ps i (j + 1) L n := by
  obtain ⟨k, hk⟩ : ∃ k, 8 - j = k + 1 := ⟨7 - j, by omega⟩
  have hk2 : 8 - (j + 1) = k := by omega
  have h1 := h.sl
  have h2 := h.sn
  rw [hk, rows_succ, if_neg (by simp [ht]), List.nil_append] at h1
  rw [hk, pcount_succ, if_neg (by simp [ht]), Nat.zero_add] at h2
  exact ⟨by rw [hk2]; exact h1, by rw [hk2]; exact h2, h.n0, by have := h.n8; omega, by have := h.sz; omega⟩
theorem PSnL.yes {g : M.PGame} {ls : List M.Lf} {ps : Nat → Bool} {i j : Nat} {L L' : ByteArray} {n : Int} (h : PSnL g ls ps i j L n) (hj : j < 8) (ht : g.toldB ls ps i j = true) (hL : L'.data.toList = L.data.toList ++ (g.seat j).row j) : PSnL g ls ps i (j + 1) L' (n + 1) := by
  obtain ⟨k, hk⟩ : ∃ k, 8 - j = k + 1 := ⟨7 - j, by omega⟩
  have hk2 : 8 - (j + 1) = k := by omega
  have h1 := h.sl
  have h2 := h.sn
  rw [hk, rows_succ, if_pos ht] at h1
  rw [hk, pcount_succ, if_pos ht] at h2
  exact ⟨by rw [hk2, hL, List.append_assoc]; exact h1, by rw [hk2]; omega, by have := h.n0; omega, by have := h.n8; omega, by
    have e := congrArg List.length hL
    rw [List.length_append] at e
    have e2 : L'.size = L'.data.toList.length := rfl
    have e3 : L.size = L.data.toList.length := rfl
    have e4 : ((g.seat j).row j).length = 9 := rfl
    have := h.sz
    omega⟩

set_option maxRecDepth 100000 in
set_option maxHeartbeats 4000000 in
theorem pSnap_yes (b i : Nat) (x : Option Addr) (n cap : Nat) (ps : Nat → Bool) (ls : List M.Lf) (g : M.PGame) (w : World) (h : Pg w b (.slice x n cap) ps g) (hown : w.ownsRow 0 137 7 (.slice x n cap) ls.length (flat ls)) (hl : ls.length ≤ 512)
    (hi : i < 8) (ht : (g.seat i).taken = true) (hs : ∀ j, j < 8 → M.PSane (g.seat j)) (hr : (g.seat i).ready ≤ g.tick + 3) (t0 : 0 ≤ g.tick) (t1 : g.tick ≤ 3000) :
    Calls Tryz.prog 42 #[.pointer (some ⟨b, 0, none⟩), .int .i64 i] w fun e w' => e = .returned (.tuple #[.string ⟨(g.snap ls ps i).toArray⟩, .int .i64 0]) ∧ Below w.heap.size w w' := by
  have HB : Hid (g.takenB i = true) := by unfold Hid M.PGame.takenB; simp [ht]; omega
  have HP := hid h
  have HO := hid hown
  have HS := hid hs
  have hlt := h.lt
  have i0 : (0 : Int) ≤ (i : Int) := by omega
  have i1 : (i : Int) < 8 := by omega
  clear h hown hs ht
  go_enter Tryz.func42, Tryz.ntmps42
  go_wp2_with fail
  refine (pTaken_any b (.slice x n cap) ps g i _ HP.out true HB).mono ?_
  rintro e w1 ⟨rfl, rfl⟩
  go_wp2_with fail
  go_loopg [7, 8, 9, 20] 9 (fun k u7 u8 u9 u20 wr => ∃ (j : Nat) (L : ByteArray) (m : Int), u7 = .string L ∧ u8 = .int .i64 m ∧ u20 = .int .i64 j ∧ j ≤ 8 ∧ k + j = 9 ∧ Hid (PSnL g ls ps i j L m) ∧ Below w1.heap.size w1 wr)
  case atStart => exact ⟨0, ⟨#[]⟩, 0, rfl, rfl, rfl, by omega, rfl, ⟨rfl, by simp, by omega, by omega, Nat.le_refl _⟩, Below.refl _ _⟩
  case round =>
    obtain ⟨j, L, m, rfl, rfl, rfl, hj, hk, hS, hB⟩ := hrel
    have j0 : (0 : Int) ≤ (j : Int) := by omega
    have n0 := hS.out.n0
    have n8 := hS.out.n8
    have hsz := hS.out.sz
    by_cases hlt8 : j < 8
    · have j1 : (j : Int) < 8 := by omega
      have P1 := hid (HP.out.after hB)
      have O1 := hid (own_of HO.out (fun k hk => hB.block k (own_lt HO.out hk)))
      have hbl : b < wr.heap.size := P1.out.lt
      by_cases hij : j = i
      · subst hij
        have HY : Hid (∀ L' : ByteArray, L'.data.toList = L.data.toList ++ (g.seat j).row j → PSnL g ls ps j (j + 1) L' (m + 1)) := fun L' hL => hS.out.yes hlt8 (by unfold M.PGame.toldB; simp) hL
        have hl2 : ¬ 9223372036854775807 < L.size + 9 := by omega
        clear hS
        go_wp2_with fail
        refine (prow_any b (66 + j * 119) j (g.seat j) _ (P1.out.se hlt8) (HS.out j hlt8) hlt8 hbl).mono ?_
        rintro e w2 ⟨rfl, hb⟩
        have B2 : Below w1.heap.size w1 w2 := bl hB hb
        have hrow : ((⟨((g.seat j).row j).toArray⟩ : ByteArray)).size = 9 := rfl
        clear hb
        go_wp2
        go_roundg (gk - 1)
        case measure => omega
        case rel => exact ⟨j + 1, _, _, rfl, rfl, by go_num, by omega, by omega, HY.out _ (by simp), B2⟩
      · have hij2 : ((j : Int) == (i : Int)) = false := by simp; omega
        obtain ⟨T, hT⟩ : ∃ T, M.showsP ls ps (g.seat i) (g.seat j) = T := ⟨_, rfl⟩
        have HT := hid hT
        have htold : g.toldB ls ps i j = T := by unfold M.PGame.toldB; rw [decide_eq_false hij, hT]; rfl
        have HTold := hid htold
        clear hT htold hij
        go_wp2_with fail
        refine (pshows_any b x n cap ps ls g i j _ P1.out O1.out hl hi hlt8 (HS.out i hi).p (HS.out j hlt8).p T HT).mono ?_
        rintro e w2 ⟨rfl, hb⟩
        have B2 : Below w1.heap.size w1 w2 := bl hB hb
        clear hb hB P1 O1
        cases T
        · have HN := hid (hS.out.no hlt8 HTold.out)
          clear hS
          go_wp2
          go_roundg (gk - 1)
          case measure => omega
          case rel => exact ⟨j + 1, L, m, rfl, rfl, by go_num, by omega, by omega, HN, B2⟩
        · have HY : Hid (∀ L' : ByteArray, L'.data.toList = L.data.toList ++ (g.seat j).row j → PSnL g ls ps i (j + 1) L' (m + 1)) := fun L' hL => hS.out.yes hlt8 HTold.out hL
          have hl2 : ¬ 9223372036854775807 < L.size + 9 := by omega
          have P2 := hid (HP.out.after B2)
          clear hS
          go_wp2_with fail
          refine (prow_any b (66 + j * 119) j (g.seat j) _ (P2.out.se hlt8) (HS.out j hlt8) hlt8 P2.out.lt).mono ?_
          rintro e w3 ⟨rfl, hb⟩
          have B3 : Below w1.heap.size w1 w3 := bl B2 hb
          have hrow : ((⟨((g.seat j).row j).toArray⟩ : ByteArray)).size = 9 := rfl
          clear hb B2 P2
          go_wp2
          go_roundg (gk - 1)
          case measure => omega
          case rel => exact ⟨j + 1, _, _, rfl, rfl, by go_num, by omega, by omega, HY.out _ (by simp), B3⟩
    · have j1 : ¬ (j : Int) < 8 := by omega
      obtain rfl : j = 8 := by omega
      have hE : L.data.toList = g.rows ls ps i 8 0 := by have := hS.out.sl; simpa [M.PGame.rows] using this
      have hN : m = (g.count ls ps i 8 0 : Int) := by have := hS.out.sn; simpa [M.PGame.count] using this
      have HE : Hid ((⟨(g.headP i m).toArray⟩ : ByteArray) ++ L = ⟨(g.snap ls ps i).toArray⟩) := by
        unfold Hid
        apply of_list
        rw [app_list, hE, hN]
        rfl
      have P1 := hid (HP.out.after hB)
      have hl2 : ¬ 9223372036854775807 < 9 + L.size := by omega
      have hhd : ((⟨(g.headP i m).toArray⟩ : ByteArray)).size = 9 := rfl
      clear hE hN hS
      go_wp2_with fail
      refine (phead_any b (.slice x n cap) ps g i m _ P1.out (HS.out i hi) hr hi n0 (by omega) t0 t1).mono ?_
      rintro e w2 ⟨rfl, hb⟩
      have B2 : Below w1.heap.size w1 w2 := bl hB hb
      clear hb hB P1
      go_wp2
      go_ret2
      exact ⟨ret_str2 HE.out, B2⟩

end Go.Proofs.YtonmihojfcjmjaaGreat
