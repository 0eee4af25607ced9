import Derived.Test.YtonmihojfcjmjaaGreatRows
import Derived.Test.YtonmihojfcjmjaaGreatBSa
import Derived.Test.YtonmihojfcjmjaaGreatBK
import Derived.Handy
import Derived.WalkKit
import Derived.WalkSpells
import Derived.WalkSmall
import Derived.Deep.QuietTactic
import Derived.Deep.RegionHeld3
import Derived.Deep.LoopGhost
import Derived.Laws.IdiomStrings
import Derived.StillTailTactics
import Derived.BigQuiet
import Derived.Deep.AppendLies
import Derived.Maps.AppendAt
/- The document's game in memory; its small contracts. -/
namespace Go.Proofs.YtonmihojfcjmjaaGreat
open Go.RowKit
set_option linter.unusedVariables false
attribute [local go_sem] cell_set_off cell_set_blk

set_option maxHeartbeats 400000 in
theorem rbring_any (v lo hi : Int) (w : World) : Calls Tryz.prog 45 #[.int .i64 v, .int .i64 lo, .int .i64 hi] w fun e w' => e = .returned (.int .i64 (M.bring v lo hi)) ∧ w' = w := by
  by_cases h1 : v < lo
  · go_enter Tryz.func45, Tryz.ntmps45
    go_wp2
    go_ret
    exact ⟨ret_int (by unfold M.bring; rw [if_pos h1]), rfl⟩
  by_cases h2 : hi < v
  · go_enter Tryz.func45, Tryz.ntmps45
    go_wp2
    go_ret
    exact ⟨ret_int (by unfold M.bring; rw [if_neg (by omega), if_pos (by omega)]), rfl⟩
  · go_enter Tryz.func45, Tryz.ntmps45
    go_wp2
    go_ret
    exact ⟨ret_int (by unfold M.bring; rw [if_neg (by omega), if_neg (by omega)]), rfl⟩

/-- A slot's cells. -/
def seatV (s : M.Seat) (v : Value) : Nat → Value
  | 0 => .bool s.here
  | 1 => .bool s.live
  | 2 => .int .i64 s.pos.x
  | 3 => .int .i64 s.pos.y
  | 4 => .int .i64 s.pos.z
  | 5 => .int .i64 s.home.x
  | 6 => .int .i64 s.home.y
  | 7 => .int .i64 s.home.z
  | 8 => .int .i64 s.health
  | 9 => .int .i64 s.ammo
  | 10 => .int .i64 s.shot
  | 11 => .int .i64 s.died
  | 12 => .int .i64 s.gen
  | 13 => .int .i64 s.last
  | _ => v

/-- A game's block: the map, the leaves, the tick, the slots, the log. -/
structure Gc (W : World) (b : Nat) (m lv tv gv : Value) (f : Nat → Nat → Value) : Prop where
  cm : W.cell? ⟨b, 0, none⟩ = some m
  cl : W.cell? ⟨b, 1, none⟩ = some lv
  ct : W.cell? ⟨b, 2, none⟩ = some tv
  cs : ∀ i k, i < 8 → k < 15 → W.cell? ⟨b, 3 + i * 15 + k, none⟩ = some (f i k)
  cg : W.cell? ⟨b, 123, none⟩ = some gv
  free : ∀ o, W.frozen? ⟨b, o, none⟩ = false
  lt : b < W.heap.size

theorem Gc.of {W W' : World} {b : Nat} {m lv tv gv : Value} {f : Nat → Nat → Value} (h : Gc W b m lv tv gv f) (e : W'.heap[b]? = W.heap[b]?) (hl : b < W'.heap.size) : Gc W' b m lv tv gv f :=
  ⟨(World.cell?_of_block (a := ⟨b, _, none⟩) e).trans h.cm, (World.cell?_of_block (a := ⟨b, _, none⟩) e).trans h.cl, (World.cell?_of_block (a := ⟨b, _, none⟩) e).trans h.ct, fun i k hi hk => (World.cell?_of_block (a := ⟨b, _, none⟩) e).trans (h.cs i k hi hk), (World.cell?_of_block (a := ⟨b, _, none⟩) e).trans h.cg, fun o => (World.frozen?_of_block (a := ⟨b, o, none⟩) e).trans (h.free o), hl⟩
theorem Gc.after {W W' : World} {b : Nat} {m lv tv gv : Value} {f : Nat → Nat → Value} (h : Gc W b m lv tv gv f) (hb : Below W.heap.size W W') : Gc W' b m lv tv gv f := h.of (hb.block b h.lt) (by have := hb.size; have := h.lt; omega)
theorem Gc.drew {W : World} {b : Nat} {m lv tv gv : Value} {f : Nat → Nat → Value} (h : Gc W b m lv tv gv f) : Gc W.drew b m lv tv gv f := h.of rfl h.lt
theorem Gc.alloc {W : World} {b : Nat} {m lv tv gv : Value} {f : Nat → Nat → Value} (h : Gc W b m lv tv gv f) (o : Obj) : Gc (W.alloc o) b m lv tv gv f := h.of (Below.heap_alloc _ _ _ h.lt) (by have := h.lt; simp; omega)
theorem Gc.congr {W : World} {b : Nat} {m lv tv gv : Value} {f g : Nat → Nat → Value} (h : Gc W b m lv tv gv f) (e : ∀ i k, i < 8 → k < 15 → f i k = g i k) : Gc W b m lv tv gv g :=
  ⟨h.cm, h.cl, h.ct, fun i k hi hk => by rw [← e i k hi hk]; exact h.cs i k hi hk, h.cg, h.free, h.lt⟩
theorem Gc.setS {W : World} {b : Nat} {m lv tv gv : Value} {f : Nat → Nat → Value} (h : Gc W b m lv tv gv f) (i k : Nat) (hi : i < 8) (hk : k < 15) (v : Value) :
    Gc (W.setCell ⟨b, 3 + i * 15 + k, none⟩ v) b m lv tv gv (fun i' k' => if i' = i ∧ k' = k then v else f i' k') := by
  refine ⟨?_, ?_, ?_, fun i' k' hi' hk' => ?_, ?_, fun o => ?_, by simpa using h.lt⟩
  · rw [cell_set_off _ _ _ _ _ (by omega)]; exact h.cm
  · rw [cell_set_off _ _ _ _ _ (by omega)]; exact h.cl
  · rw [cell_set_off _ _ _ _ _ (by omega)]; exact h.ct
  · by_cases e : i' = i ∧ k' = k
    · rw [if_pos e, e.1, e.2]
      exact World.cell?_setCell_same _ _ _ (by rw [h.cs i k hi hk])
    · rw [if_neg e, cell_set_off _ _ _ _ _ (by omega)]; exact h.cs i' k' hi' hk'
  · rw [cell_set_off _ _ _ _ _ (by omega)]; exact h.cg
  · rw [World.frozen?_setCell]; exact h.free o

set_option maxHeartbeats 400000 in
theorem gNow_any (b : Nat) (w : World) (t : Int) (hc : w.cell? ⟨b, 2, none⟩ = some (.int .i64 t)) : Calls Tryz.prog 26 #[.pointer (some ⟨b, 0, none⟩)] w fun e w' => e = .returned (.int .i64 t) ∧ w' = w := by
  go_enter Tryz.func26, Tryz.ntmps26
  go_wp2
  go_ret
  exact ⟨rfl, rfl⟩

set_option maxHeartbeats 1000000 in
theorem gHere_any (b : Nat) (m lv tv gv : Value) (g : M.Game) (wv : Nat → Value) (slot : Int) (w : World) (h : Gc w b m lv tv gv (fun i => seatV (g.seat i) (wv i))) (B : Bool) (hB : Hid (g.hereB slot = B)) :
    Calls Tryz.prog 37 #[.pointer (some ⟨b, 0, none⟩), .int .i64 slot] w fun e w' => e = .returned (.bool B) ∧ w' = w := by
  by_cases h1 : 0 ≤ slot
  · by_cases h2 : slot < 8
    · obtain ⟨i, rfl⟩ : ∃ i : Nat, slot = (i : Int) := ⟨slot.toNat, by omega⟩
      have hi : i < 8 := by omega
      have c0 := h.cs i 0 hi (by omega)
      have e : (g.seat i).here = B := by rw [← hB.out]; unfold M.Game.hereB; simp [h2]
      simp only [seatV, e, Nat.add_zero] at c0
      clear hB e h
      go_enter Tryz.func37, Tryz.ntmps37
      go_wp2
      go_ret
      exact ⟨rfl, rfl⟩
    · obtain rfl : false = B := by rw [← hB.out]; unfold M.Game.hereB; simp [h2]
      have d : decide (slot < 8) = false := by simp; omega
      clear hB h
      go_enter Tryz.func37, Tryz.ntmps37
      go_wp2
      go_ret
      exact ⟨rfl, rfl⟩
  · obtain rfl : false = B := by rw [← hB.out]; unfold M.Game.hereB; simp [h1]
    have d : decide (0 ≤ slot) = false := by simp; omega
    clear hB h
    go_enter Tryz.func37, Tryz.ntmps37
    go_wp2
    go_ret
    exact ⟨rfl, rfl⟩

end Go.Proofs.YtonmihojfcjmjaaGreat

/- Contracts of the document's game: arrive, Disconnect. -/
namespace Go.Proofs.YtonmihojfcjmjaaGreat
open Go.RowKit
set_option linter.unusedVariables false
attribute [local go_sem] cell_set_off cell_set_blk

theorem still_tail4 {P : Program} {id : Nat} {Q : Exit → Act → World → Prop} {a : Act} {w : World} {l : List Oper} (n : Nat) (hm : P.follows .mixedOrders = true) (hB : Region.lexTailB .any l.toArray n = true)
    (h : wpStill P l.toArray w.drew (fun a' => wpList P l.toArray Q (l.drop n) a' w.drew) (l.take n) a) : (Code.region id l.toArray true).wp P Q a w := wp_region_still_tail n hm hB h

set_option maxRecDepth 100000 in
set_option maxHeartbeats 2000000 in
theorem gArrive_any (b i : Nat) (m lv tv gv : Value) (f : Nat → Nat → Value) (s : M.Seat) (v : Value) (w : World) (hi : i < 8) (h : Gc w b m lv tv gv f) (hs : ∀ k, k < 15 → f i k = seatV s v k) (g1 : 0 ≤ s.gen) (g2 : s.gen ≤ 4611686018427387904) :
    Calls Tryz.prog 35 #[.pointer (some ⟨b, 0, none⟩), .int .i64 i] w fun e w' => e = .returned (.tuple #[]) ∧ Gc w' b m lv tv gv (fun j => if j = i then seatV s.arrive v else f j) ∧ On b w w' := by
  have HS : Hid (∀ k, k < 15 → f i k = seatV s v k) := hs
  have i0 : (0 : Int) ≤ (i : Int) := by omega
  have i1 : (i : Int) < 8 := by omega
  have c1 := h.cs i 1 hi (by omega)
  rw [hs 1 (by omega)] at c1
  have fr := h.free
  simp only [seatV] at c1
  clear hs
  go_enter Tryz.func35, Tryz.ntmps35
  go_wp2_with fail
  have G1 := h.setS i 1 hi (by omega) (.bool true)
  have O1 := On.set b (3 + i * 15 + 1) w (.bool true)
  generalize w.setCell ⟨b, 3 + i * 15 + 1, none⟩ (.bool true) = w1 at G1 O1 ⊢
  clear c1 fr h
  have c2 := G1.cs i 2 hi (by omega)
  have c3 := G1.cs i 3 hi (by omega)
  have c4 := G1.cs i 4 hi (by omega)
  have c5 := G1.cs i 5 hi (by omega)
  have c6 := G1.cs i 6 hi (by omega)
  have c7 := G1.cs i 7 hi (by omega)
  have c8 := G1.cs i 8 hi (by omega)
  have c9 := G1.cs i 9 hi (by omega)
  have c10 := G1.cs i 10 hi (by omega)
  have c12 := G1.cs i 12 hi (by omega)
  simp at c2 c3 c4 c5 c6 c7 c8 c9 c10 c12
  rw [HS.out 2 (by omega)] at c2
  rw [HS.out 3 (by omega)] at c3
  rw [HS.out 4 (by omega)] at c4
  rw [HS.out 5 (by omega)] at c5
  rw [HS.out 6 (by omega)] at c6
  rw [HS.out 7 (by omega)] at c7
  rw [HS.out 8 (by omega)] at c8
  rw [HS.out 9 (by omega)] at c9
  rw [HS.out 10 (by omega)] at c10
  rw [HS.out 12 (by omega)] at c12
  have fr := G1.free
  simp only [seatV] at c2 c3 c4 c5 c6 c7 c8 c9 c10 c12
  refine still_tail4 13 (by kernel_rfl) (by kernel_rfl) ?_
  simp only [List.take_succ_cons, List.take_zero, List.drop_succ_cons, List.drop_zero]
  repeat still_step
  refine wpStill_nil ?_
  go_wp2_with fail
  have G2 : Gc ((((((w1.setCell ⟨b, 3 + i * 15 + 2, none⟩ (.int .i64 s.home.x)).setCell ⟨b, 3 + i * 15 + 2 + 1, none⟩ (.int .i64 s.home.y)).setCell ⟨b, 3 + i * 15 + 2 + 2, none⟩ (.int .i64 s.home.z)).setCell ⟨b, 3 + i * 15 + 8, none⟩ (.int .i64 100)).setCell ⟨b, 3 + i * 15 + 9, none⟩ (.int .i64 6)).setCell ⟨b, 3 + i * 15 + 10, none⟩ (.int .i64 (-1))).drew b m lv tv gv _ := ((((((G1.setS i 2 hi (by omega) (.int .i64 s.home.x)).setS i 3 hi (by omega) (.int .i64 s.home.y)).setS i 4 hi (by omega) (.int .i64 s.home.z)).setS i 8 hi (by omega) (.int .i64 100)).setS i 9 hi (by omega) (.int .i64 6)).setS i 10 hi (by omega) (.int .i64 (-1))).drew
  have O2 : On b w ((((((w1.setCell ⟨b, 3 + i * 15 + 2, none⟩ (.int .i64 s.home.x)).setCell ⟨b, 3 + i * 15 + 2 + 1, none⟩ (.int .i64 s.home.y)).setCell ⟨b, 3 + i * 15 + 2 + 2, none⟩ (.int .i64 s.home.z)).setCell ⟨b, 3 + i * 15 + 8, none⟩ (.int .i64 100)).setCell ⟨b, 3 + i * 15 + 9, none⟩ (.int .i64 6)).setCell ⟨b, 3 + i * 15 + 10, none⟩ (.int .i64 (-1))).drew := ((((((O1.trans (On.set b (3 + i * 15 + 2) _ (.int .i64 s.home.x))).trans (On.set b (3 + i * 15 + 2 + 1) _ (.int .i64 s.home.y))).trans (On.set b (3 + i * 15 + 2 + 2) _ (.int .i64 s.home.z))).trans (On.set b (3 + i * 15 + 8) _ (.int .i64 100))).trans (On.set b (3 + i * 15 + 9) _ (.int .i64 6))).trans (On.set b (3 + i * 15 + 10) _ (.int .i64 (-1)))).drew
  generalize ((((((w1.setCell ⟨b, 3 + i * 15 + 2, none⟩ (.int .i64 s.home.x)).setCell ⟨b, 3 + i * 15 + 2 + 1, none⟩ (.int .i64 s.home.y)).setCell ⟨b, 3 + i * 15 + 2 + 2, none⟩ (.int .i64 s.home.z)).setCell ⟨b, 3 + i * 15 + 8, none⟩ (.int .i64 100)).setCell ⟨b, 3 + i * 15 + 9, none⟩ (.int .i64 6)).setCell ⟨b, 3 + i * 15 + 10, none⟩ (.int .i64 (-1))).drew = w2 at G2 O2 ⊢
  clear c2 c3 c4 c5 c6 c7 c8 c9 c10 c12 fr G1 O1
  have c12 := G2.cs i 12 hi (by omega)
  simp at c12
  rw [HS.out 12 (by omega)] at c12
  have fr := G2.free
  simp only [seatV] at c12
  refine still_tail4 12 (by kernel_rfl) (by kernel_rfl) ?_
  simp only [List.take_succ_cons, List.take_zero, List.drop_succ_cons, List.drop_zero]
  repeat still_step
  refine wpStill_nil ?_
  go_wp2_with fail
  refine bodyPost_end (v := .tuple #[]) (by simp [results, Tryz.results35, go_sem]) rfl ⟨rfl, ?_, ((O2.trans (On.set b (3 + i * 15 + 12) _ (.int .i64 (s.gen + 1))))).drew⟩
  refine ((G2.setS i 12 hi (by omega) (.int .i64 (s.gen + 1))).drew).congr ?_
  intro j k hj hk
  by_cases e : j = i
  · subst e
    simp only [true_and, if_true]
    have : k = 0 ∨ k = 1 ∨ k = 2 ∨ k = 3 ∨ k = 4 ∨ k = 5 ∨ k = 6 ∨ k = 7 ∨ k = 8 ∨ k = 9 ∨ k = 10 ∨ k = 11 ∨ k = 12 ∨ k = 13 ∨ k = 14 := by omega
    rcases this with rfl | rfl | rfl | rfl | rfl | rfl | rfl | rfl | rfl | rfl | rfl | rfl | rfl | rfl | rfl <;> first | rfl | (simp; rw [HS.out _ (by omega)]; rfl)
  · simp [e]
end Go.Proofs.YtonmihojfcjmjaaGreat

/- Contracts of the document's game: Disconnect. -/
namespace Go.Proofs.YtonmihojfcjmjaaGreat
open Go.RowKit
set_option linter.unusedVariables false
attribute [local go_sem] cell_set_off cell_set_blk

theorem fifteen {k : Nat} (h : k < 15) : k = 0 ∨ k = 1 ∨ k = 2 ∨ k = 3 ∨ k = 4 ∨ k = 5 ∨ k = 6 ∨ k = 7 ∨ k = 8 ∨ k = 9 ∨ k = 10 ∨ k = 11 ∨ k = 12 ∨ k = 13 ∨ k = 14 := by omega

/-- All of a slot's cells stored. -/
theorem Gc.setAll {W : World} {b : Nat} {m lv tv gv : Value} {f : Nat → Nat → Value} (h : Gc W b m lv tv gv f) (i : Nat) (hi : i < 8) (s : M.Seat) (v : Value) :
    Gc (((((((((((((((W.setCell ⟨b, 3 + i * 15, none⟩ (seatV s v 0)).setCell ⟨b, 3 + i * 15 + 1, none⟩ (seatV s v 1)).setCell ⟨b, 3 + i * 15 + 2, none⟩ (seatV s v 2)).setCell ⟨b, 3 + i * 15 + 3, none⟩ (seatV s v 3)).setCell ⟨b, 3 + i * 15 + 4, none⟩ (seatV s v 4)).setCell ⟨b, 3 + i * 15 + 5, none⟩ (seatV s v 5)).setCell ⟨b, 3 + i * 15 + 6, none⟩ (seatV s v 6)).setCell ⟨b, 3 + i * 15 + 7, none⟩ (seatV s v 7)).setCell ⟨b, 3 + i * 15 + 8, none⟩ (seatV s v 8)).setCell ⟨b, 3 + i * 15 + 9, none⟩ (seatV s v 9)).setCell ⟨b, 3 + i * 15 + 10, none⟩ (seatV s v 10)).setCell ⟨b, 3 + i * 15 + 11, none⟩ (seatV s v 11)).setCell ⟨b, 3 + i * 15 + 12, none⟩ (seatV s v 12)).setCell ⟨b, 3 + i * 15 + 13, none⟩ (seatV s v 13)).setCell ⟨b, 3 + i * 15 + 14, none⟩ (seatV s v 14)) b m lv tv gv (fun j => if j = i then seatV s v else f j) := by
  have g := ((((((((((((((h.setS i 0 hi (by omega) (seatV s v 0)).setS i 1 hi (by omega) (seatV s v 1)).setS i 2 hi (by omega) (seatV s v 2)).setS i 3 hi (by omega) (seatV s v 3)).setS i 4 hi (by omega) (seatV s v 4)).setS i 5 hi (by omega) (seatV s v 5)).setS i 6 hi (by omega) (seatV s v 6)).setS i 7 hi (by omega) (seatV s v 7)).setS i 8 hi (by omega) (seatV s v 8)).setS i 9 hi (by omega) (seatV s v 9)).setS i 10 hi (by omega) (seatV s v 10)).setS i 11 hi (by omega) (seatV s v 11)).setS i 12 hi (by omega) (seatV s v 12)).setS i 13 hi (by omega) (seatV s v 13)).setS i 14 hi (by omega) (seatV s v 14)
  refine g.congr ?_
  intro j k hj hk
  by_cases e : j = i
  · subst e
    simp only [true_and, if_true]
    rcases fifteen hk with rfl | rfl | rfl | rfl | rfl | rfl | rfl | rfl | rfl | rfl | rfl | rfl | rfl | rfl | rfl <;> rfl
  · simp [e]

theorem On.setAll (b i : Nat) (W : World) (s : M.Seat) (v : Value) :
    On b W (((((((((((((((W.setCell ⟨b, 3 + i * 15, none⟩ (seatV s v 0)).setCell ⟨b, 3 + i * 15 + 1, none⟩ (seatV s v 1)).setCell ⟨b, 3 + i * 15 + 2, none⟩ (seatV s v 2)).setCell ⟨b, 3 + i * 15 + 3, none⟩ (seatV s v 3)).setCell ⟨b, 3 + i * 15 + 4, none⟩ (seatV s v 4)).setCell ⟨b, 3 + i * 15 + 5, none⟩ (seatV s v 5)).setCell ⟨b, 3 + i * 15 + 6, none⟩ (seatV s v 6)).setCell ⟨b, 3 + i * 15 + 7, none⟩ (seatV s v 7)).setCell ⟨b, 3 + i * 15 + 8, none⟩ (seatV s v 8)).setCell ⟨b, 3 + i * 15 + 9, none⟩ (seatV s v 9)).setCell ⟨b, 3 + i * 15 + 10, none⟩ (seatV s v 10)).setCell ⟨b, 3 + i * 15 + 11, none⟩ (seatV s v 11)).setCell ⟨b, 3 + i * 15 + 12, none⟩ (seatV s v 12)).setCell ⟨b, 3 + i * 15 + 13, none⟩ (seatV s v 13)).setCell ⟨b, 3 + i * 15 + 14, none⟩ (seatV s v 14)) :=
  ((((((((((((((On.set b _ _ _).trans (On.set b _ _ _)).trans (On.set b _ _ _)).trans (On.set b _ _ _)).trans (On.set b _ _ _)).trans (On.set b _ _ _)).trans (On.set b _ _ _)).trans (On.set b _ _ _)).trans (On.set b _ _ _)).trans (On.set b _ _ _)).trans (On.set b _ _ _)).trans (On.set b _ _ _)).trans (On.set b _ _ _)).trans (On.set b _ _ _)).trans (On.set b _ _ _)

/-- What Disconnect leaves. -/
def LeavePost (b : Nat) (m lv tv gv : Value) (g : M.Game) (wv : Nat → Value) (slot : Int) (w : World) (e : Ending) (w' : World) : Prop :=
  e = .returned (.int .i64 (g.leave slot).1) ∧ On b w w' ∧ ∃ wv' : Nat → Value, Gc w' b m lv tv gv (fun i => seatV ((g.leave slot).2.seat i) (wv' i)) ∧ ∀ i, (wv' i = wv i ∧ ((g.leave slot).2.seat i).wait = (g.seat i).wait) ∨ (wv' i = .slice none 0 0 ∧ ((g.leave slot).2.seat i).wait = [])

set_option maxRecDepth 100000 in
set_option maxHeartbeats 2000000 in
theorem gLeave_any (b : Nat) (m lv tv gv : Value) (g : M.Game) (wv : Nat → Value) (slot : Int) (w : World) (h : Gc w b m lv tv gv (fun i => seatV (g.seat i) (wv i))) :
    Calls Tryz.prog 19 #[.pointer (some ⟨b, 0, none⟩), .int .i64 slot] w (LeavePost b m lv tv gv g wv slot w) := by
  cases hB : g.hereB slot
  · have HB : Hid (g.hereB slot = false) := hB
    have HL : Hid (g.leave slot = (7, g)) := by unfold Hid M.Game.leave; rw [hB]; rfl
    have HG : Hid (Gc w b m lv tv gv (fun i => seatV (g.seat i) (wv i))) := h
    clear hB h
    go_enter Tryz.func19, Tryz.ntmps19
    go_wp2_with fail
    refine (gHere_any b m lv tv gv g wv slot _ HG.out false HB).mono ?_
    rintro e w1 ⟨rfl, rfl⟩
    go_wp2
    go_ret
    exact ⟨ret_int (by rw [HL.out]), On.refl _ _, wv, by rw [HL.out]; exact HG.out, fun i => .inl ⟨rfl, by rw [HL.out]⟩⟩
  · have HB : Hid (g.hereB slot = true) := hB
    have hs : 0 ≤ slot ∧ slot < 8 := by have := hB; unfold M.Game.hereB at this; simp at this; omega
    obtain ⟨i, rfl⟩ : ∃ i : Nat, slot = (i : Int) := ⟨slot.toNat, by omega⟩
    have hi : i < 8 := by omega
    have HL : Hid (g.leave i = (0, g.put i (M.Seat.none (g.seat i).gen))) := by unfold Hid M.Game.leave; rw [hB]; simp
    have i0 : (0 : Int) ≤ (i : Int) := by omega
    have i1 : (i : Int) < 8 := by omega
    have c0 := h.cs i 0 hi (by omega)
    have c1 := h.cs i 1 hi (by omega)
    have c2 := h.cs i 2 hi (by omega)
    have c3 := h.cs i 3 hi (by omega)
    have c4 := h.cs i 4 hi (by omega)
    have c5 := h.cs i 5 hi (by omega)
    have c6 := h.cs i 6 hi (by omega)
    have c7 := h.cs i 7 hi (by omega)
    have c8 := h.cs i 8 hi (by omega)
    have c9 := h.cs i 9 hi (by omega)
    have c10 := h.cs i 10 hi (by omega)
    have c11 := h.cs i 11 hi (by omega)
    have c12 := h.cs i 12 hi (by omega)
    have c13 := h.cs i 13 hi (by omega)
    have c14 := h.cs i 14 hi (by omega)
    simp only [seatV, Nat.add_zero] at c0 c1 c2 c3 c4 c5 c6 c7 c8 c9 c10 c11 c12 c13 c14
    have fr := h.free
    have H := h
    have HG : Hid (Gc w b m lv tv gv (fun i => seatV (g.seat i) (wv i))) := h
    clear h hB hs H
    go_enter Tryz.func19, Tryz.ntmps19
    go_wp2_with fail
    refine (gHere_any b m lv tv gv g wv i _ HG.out true HB).mono ?_
    rintro e w1 ⟨rfl, rfl⟩
    go_wp2_with fail
    refine still_tail4 13 (by kernel_rfl) (by kernel_rfl) ?_
    simp only [List.take_succ_cons, List.take_zero, List.drop_succ_cons, List.drop_zero]
    repeat still_step
    refine wpStill_nil ?_
    go_wp2
    go_ret
    refine ⟨ret_int (by rw [HL.out]), (On.setAll b i _ (M.Seat.none (g.seat i).gen) (.slice none 0 0)).drew, fun j => if j = i then .slice none 0 0 else wv j, ?_, ?_⟩
    · refine ((HG.out.setAll i hi (M.Seat.none (g.seat i).gen) (.slice none 0 0)).drew).congr ?_
      intro j k hj hk
      rw [HL.out]
      by_cases e : j = i
      · subst e; simp [M.Game.put_at]
      · simp [M.Game.put_ne _ _ e, e]
    · intro j
      rw [HL.out]
      by_cases e : j = i
      · subst e; right; simp [M.Game.put_at, M.Seat.none]
      · left; simp only; rw [M.Game.put_ne _ _ e]; exact ⟨if_neg e, rfl⟩
end Go.Proofs.YtonmihojfcjmjaaGreat

/- Contracts of the document's game: two, sees. -/
namespace Go.Proofs.YtonmihojfcjmjaaGreat
open Go.RowKit
set_option linter.unusedVariables false
attribute [local go_sem] cell_set_off cell_set_blk

set_option maxRecDepth 100000 in
set_option maxHeartbeats 1000000 in
theorem rtwo_any (n : Int) (w : World) (h1 : 0 ≤ n) (h2 : n ≤ 65535) : Calls Tryz.prog 44 #[.int .i64 n] w fun e w' => e = .returned (.string ⟨(M.two n).toArray⟩) ∧ Below w.heap.size w w' := by
  have e1 : ((M.b8 n).toNat : Int) = n % 256 := M.b8_nat n
  have e2 : ((M.b8 (n / 256)).toNat : Int) = n / 256 % 256 := M.b8_nat _
  have hconv : (convert 79 9 (.slice (some ⟨w.heap.size, 0, none⟩) 2 2)).run Tryz.prog (w.alloc (.cells #[.int .u8 (n % 256), .int .u8 (n / 256 % 256)] 5)) = .ok (.string ⟨(M.two n).toArray⟩) (w.alloc (.cells #[.int .u8 (n % 256), .int .u8 (n / 256 % 256)] 5)) := by
    have q : Blk (w.alloc (.cells #[.int .u8 (n % 256), .int .u8 (n / 256 % 256)] 5)) w.heap.size #[.int .u8 (n % 256), .int .u8 (n / 256 % 256)] 5 := Blk.new rfl
    refine run_convert_bytes_back _ 79 9 5 ⟨w.heap.size, 0, none⟩ 2 (M.two n) Tryz.underlying79 Tryz.underlying5 Tryz.underlying9 ?_
    intro j hj
    have : j = 0 ∨ j = 1 := by simp [M.two] at hj; omega
    rcases this with rfl | rfl
    · show _ = some (Value.int .u8 ((M.b8 n).toNat : Int)); rw [e1]; exact q.cell 0
    · show _ = some (Value.int .u8 ((M.b8 (n / 256)).toNat : Int)); rw [e2]; exact q.cell 1
  clear e1 e2
  go_enter Tryz.func44, Tryz.ntmps44
  go_wp2
  go_ret
  exact ⟨rfl, by go_grown⟩

theorem sees_step {m : ByteArray} {a b : Int} {n i : Nat} (h : i + 2 < m.size) : M.seesF m a b (n + 1) i = (if M.byteAt m i = 59 ∧ ((M.byteAt m (i + 1) - 48 = a ∧ M.byteAt m (i + 2) - 48 = b) ∨ (M.byteAt m (i + 1) - 48 = b ∧ M.byteAt m (i + 2) - 48 = a)) then true else M.seesF m a b n (i + 1)) := by
  show (if i + 2 < m.size then _ else _) = _
  rw [if_pos h]
theorem sees_end {m : ByteArray} {a b : Int} {n i : Nat} (h : ¬ i + 2 < m.size) : M.seesF m a b n i = false := by
  cases n with
  | zero => rfl
  | succ n => show (if i + 2 < m.size then _ else _) = _; rw [if_neg h]

set_option maxHeartbeats 2000000 in
theorem rsees_any (m : ByteArray) (a b : Int) (w : World) (hm : m.size ≤ 512) (B : Bool) (hB : Hid (M.sees m a b = B)) : Calls Tryz.prog 68 #[.string m, .int .i64 a, .int .i64 b] w fun e w' => e = .returned (.bool B) ∧ w' = w := by
  by_cases h : a = b
  · obtain rfl : true = B := by rw [← hB.out]; unfold M.sees; simp [h]
    subst h
    clear hB
    go_enter Tryz.func68, Tryz.ntmps68
    go_wp2
    go_ret
    exact ⟨rfl, rfl⟩
  · have HB : Hid (M.seesF m a b (m.size + 1) 0 = B) := by unfold Hid; rw [← hB.out]; unfold M.sees; simp [h]
    have d : (a == b) = false := by simp [h]
    clear hB h
    go_enter Tryz.func68, Tryz.ntmps68
    go_wp2_with fail
    go_loopg [7] (m.size + 1) (fun k u7 wr => ∃ i : Nat, u7 = .int .i64 i ∧ i ≤ m.size ∧ k + i = m.size + 1 ∧ Hid (M.seesF m a b k i = B) ∧ wr = w)
    case atStart => exact ⟨0, rfl, Nat.zero_le _, rfl, HB, rfl⟩
    case round =>
      obtain ⟨i, rfl, hi, hk, hP, rfl⟩ := hrel
      have i0 : (0 : Int) ≤ (i : Int) := by omega
      have i1 : (i : Int) ≤ 512 := by omega
      by_cases hlt : i + 2 < m.size
      · have hl : (i : Int) + 2 < (m.size : Int) := by omega
        have b0 := M.byteAt_lt (s := m) (i := i) (by omega)
        have b1 := M.byteAt_lt (s := m) (i := i + 1) (by omega)
        have b2 := M.byteAt_lt (s := m) (i := i + 2) hlt
        have l1 := (m[i + 1]).toNat_lt
        have l2 := (m[i + 2]).toNat_lt
        obtain ⟨n, rfl⟩ : ∃ n, gk = n + 1 := ⟨gk - 1, by omega⟩
        have hS := hP.out
        rw [sees_step hlt, b0, b1, b2] at hS
        clear b0 b1 b2 hP
        by_cases h59 : (m[i].toNat : Int) = 59
        · have t0 : ((m[i].toNat : Int) == 59) = true := by simp [h59]
          have HS : Hid ((if (m[i].toNat : Int) = 59 ∧ (((m[i + 1].toNat : Int) - 48 = a ∧ (m[i + 2].toNat : Int) - 48 = b) ∨ ((m[i + 1].toNat : Int) - 48 = b ∧ (m[i + 2].toNat : Int) - 48 = a)) then true else M.seesF m a b n (i + 1)) = B) := hS
          have Q : Hid ((m[i].toNat : Int) = 59) := h59
          clear hS h59
          go_wp2_with fail
          all_goals
            first
            | (go_ret
               exact ⟨ret_bool (by rw [← HS.out, if_pos ⟨Q.out, by first | exact .inl ⟨‹_›, ‹_›⟩ | (right; simp only [beq_iff_eq] at *; exact ⟨‹_›, ‹_›⟩)⟩]), rfl⟩)
            | (go_roundg n
               case measure => omega
               case rel =>
                 refine ⟨i + 1, by go_num, by omega, by omega, ?_, rfl⟩
                 unfold Hid
                 rw [← HS.out, if_neg]
                 rintro ⟨_, x⟩
                 simp only [beq_eq_false_iff_ne, ne_eq] at *
                 omega)
        · have t0 : ((m[i].toNat : Int) == 59) = false := by simp [h59]
          have E : Hid (M.seesF m a b n (i + 1) = B) := by unfold Hid; rw [← hS, if_neg (fun x => h59 x.1)]
          clear hS h59
          go_wp2
          go_roundg n
          case measure => omega
          case rel => exact ⟨i + 1, by go_num, by omega, by omega, E, rfl⟩
      · have hl : ¬ (i : Int) + 2 < (m.size : Int) := by omega
        obtain rfl : false = B := by rw [← hP.out, sees_end hlt]
        clear hP HB
        go_wp2
        go_ret
        exact ⟨rfl, rfl⟩
end Go.Proofs.YtonmihojfcjmjaaGreat

/- Contracts of the document's game: wants. -/
namespace Go.Proofs.YtonmihojfcjmjaaGreat
open Go.RowKit
set_option linter.unusedVariables false
attribute [local go_sem] cell_set_off cell_set_blk

/-- A command's cells; commands in a row. -/
def cmdCells (c : M.Cmd) : List Value := [.int .i64 c.seq, .bool c.fire, .int .i64 c.mv.x, .int .i64 c.mv.y, .int .i64 c.mv.z, .int .i64 c.aim.x, .int .i64 c.aim.y, .int .i64 c.aim.z, .int .i64 c.time]
def cmds (cs : List M.Cmd) : List Value := cs.flatMap cmdCells
theorem cmds_len (cs : List M.Cmd) : (cmds cs).length = cs.length * 9 := by
  induction cs with
  | nil => rfl
  | cons c cs ih => simp only [cmds, List.flatMap_cons, List.length_append] at ih ⊢; rw [ih]; simp [cmdCells]; omega
theorem cmds_snoc (cs : List M.Cmd) (c : M.Cmd) : cmds (cs ++ [c]) = cmds cs ++ cmdCells c := by simp [cmds]

theorem own_cmd {W : World} {base e g n cap : Nat} {cs : List M.Cmd} (h : W.ownsRow base e 9 (.slice (some ⟨g, 0, none⟩) n cap) n (cmds cs)) {i : Nat} {c : M.Cmd} (hi : cs[i]? = some c) :
    (∀ j, j < 9 → W.cell? ⟨g, i * 9 + j, none⟩ = (cmdCells c)[j]?) ∧ n ≤ cap ∧ cap ≤ maxLen := by
  have hlt : i < cs.length := (List.getElem?_eq_some_iff.1 hi).1
  have hn : cs.length * 9 = n * 9 := by rw [← cmds_len]; exact h.1
  rcases h.2 with ⟨h0, _⟩ | ⟨g', cap', cur, hv, _, hh, hc1, hc2, hsz, ht⟩
  · cases h0
  · cases hv
    refine ⟨?_, hc1, hc2⟩
    intro j hj
    simp only [World.cell?, hh]
    have e1 : (cur.toList.take (n * 9))[i * 9 + j]? = (cmds cs)[i * 9 + j]? := by rw [ht]
    rw [List.getElem?_take_of_lt (by omega)] at e1
    have e2 : (cmds cs)[i * 9 + j]? = (cmdCells c)[j]? := by
      clear h ht hh hsz e1 hn hc1 hc2
      induction cs generalizing i with
      | nil => simp at hlt
      | cons x cs ih =>
        cases i with
        | zero =>
          simp at hi
          subst hi
          simp only [cmds, List.flatMap_cons]
          rw [List.getElem?_append_left (by simp [cmdCells]; omega)]
          simp
        | succ i =>
          simp at hi
          simp only [cmds, List.flatMap_cons]
          rw [List.getElem?_append_right (by simp [cmdCells]; omega)]
          have := ih hi (by simp at hlt; omega)
          rw [← this]
          simp only [cmds]
          congr 1
          simp [cmdCells]
          omega
    rw [← e2, ← e1]
    simp

theorem own_cmd9 {W : World} {base e g n cap : Nat} {cs : List M.Cmd} (h : W.ownsRow base e 9 (.slice (some ⟨g, 0, none⟩) n cap) n (cmds cs)) {i : Nat} {c : M.Cmd} (hi : cs[i]? = some c) :
    W.cell? ⟨g, i * 9, none⟩ = some (.int .i64 c.seq) ∧ W.cell? ⟨g, i * 9 + 1, none⟩ = some (.bool c.fire) ∧ W.cell? ⟨g, i * 9 + 2, none⟩ = some (.int .i64 c.mv.x) ∧ W.cell? ⟨g, i * 9 + 3, none⟩ = some (.int .i64 c.mv.y) ∧ W.cell? ⟨g, i * 9 + 4, none⟩ = some (.int .i64 c.mv.z) ∧
    W.cell? ⟨g, i * 9 + 5, none⟩ = some (.int .i64 c.aim.x) ∧ W.cell? ⟨g, i * 9 + 6, none⟩ = some (.int .i64 c.aim.y) ∧ W.cell? ⟨g, i * 9 + 7, none⟩ = some (.int .i64 c.aim.z) ∧ W.cell? ⟨g, i * 9 + 8, none⟩ = some (.int .i64 c.time) :=
  have k := (own_cmd h hi).1
  ⟨k 0 (by omega), k 1 (by omega), k 2 (by omega), k 3 (by omega), k 4 (by omega), k 5 (by omega), k 6 (by omega), k 7 (by omega), k 8 (by omega)⟩

/-- What a slice of commands looks like. -/
theorem wait_form {W : World} {base e : Nat} {v : Value} {cs : List M.Cmd} (h : W.ownsRow base e 9 v cs.length (cmds cs)) : (v = .slice none 0 0 ∧ cs = []) ∨ ∃ g cap, v = .slice (some ⟨g, 0, none⟩) cs.length cap ∧ g < W.heap.size := by
  rcases h.2 with ⟨e1, e2⟩ | ⟨g, c, cur, e1, _, e3, _⟩
  · exact .inl ⟨e1, List.length_eq_zero_iff.1 e2⟩
  · exact .inr ⟨g, c, e1, (Array.getElem?_eq_some_iff.1 e3).1⟩

/-- The fifteen cells of slot i. -/
theorem Gc.seat {W : World} {b : Nat} {m lv tv gv : Value} {f : Nat → Nat → Value} (h : Gc W b m lv tv gv f) {i : Nat} (hi : i < 8) {s : M.Seat} {v : Value} (hs : ∀ k, k < 15 → f i k = seatV s v k) :
    W.cell? ⟨b, 3 + i * 15, none⟩ = some (.bool s.here) ∧ W.cell? ⟨b, 3 + i * 15 + 1, none⟩ = some (.bool s.live) ∧ W.cell? ⟨b, 3 + i * 15 + 2, none⟩ = some (.int .i64 s.pos.x) ∧ W.cell? ⟨b, 3 + i * 15 + 3, none⟩ = some (.int .i64 s.pos.y) ∧ W.cell? ⟨b, 3 + i * 15 + 4, none⟩ = some (.int .i64 s.pos.z) ∧
    W.cell? ⟨b, 3 + i * 15 + 5, none⟩ = some (.int .i64 s.home.x) ∧ W.cell? ⟨b, 3 + i * 15 + 6, none⟩ = some (.int .i64 s.home.y) ∧ W.cell? ⟨b, 3 + i * 15 + 7, none⟩ = some (.int .i64 s.home.z) ∧ W.cell? ⟨b, 3 + i * 15 + 8, none⟩ = some (.int .i64 s.health) ∧ W.cell? ⟨b, 3 + i * 15 + 9, none⟩ = some (.int .i64 s.ammo) ∧
    W.cell? ⟨b, 3 + i * 15 + 10, none⟩ = some (.int .i64 s.shot) ∧ W.cell? ⟨b, 3 + i * 15 + 11, none⟩ = some (.int .i64 s.died) ∧ W.cell? ⟨b, 3 + i * 15 + 12, none⟩ = some (.int .i64 s.gen) ∧ W.cell? ⟨b, 3 + i * 15 + 13, none⟩ = some (.int .i64 s.last) ∧ W.cell? ⟨b, 3 + i * 15 + 14, none⟩ = some v := by
  have k := fun j hj => (h.cs i j hi hj).trans (congrArg some (hs j hj))
  exact ⟨k 0 (by omega), k 1 (by omega), k 2 (by omega), k 3 (by omega), k 4 (by omega), k 5 (by omega), k 6 (by omega), k 7 (by omega), k 8 (by omega), k 9 (by omega), k 10 (by omega), k 11 (by omega), k 12 (by omega), k 13 (by omega), k 14 (by omega)⟩

set_option maxRecDepth 100000 in
set_option maxHeartbeats 2000000 in
theorem gWants_no (b i : Nat) (m lv tv gv : Value) (f : Nat → Nat → Value) (s : M.Seat) (x : Option Addr) (n cap : Nat) (w : World) (hi : i < 8) (h : Gc w b m lv tv gv f) (hs : ∀ k, k < 15 → f i k = seatV s (.slice x n cap) k) (hn : n ≤ 4) (hno : s.here = false ∨ n = 0) :
    Calls Tryz.prog 62 #[.pointer (some ⟨b, 0, none⟩), .int .i64 i] w fun e w' => e = .returned (.tuple #[.agg #[.int .i64 0, .bool false, .int .i64 0, .int .i64 0, .int .i64 0, .int .i64 0, .int .i64 0, .int .i64 0, .int .i64 0], .bool false]) ∧ Below w.heap.size w w' := by
  obtain ⟨c0, c1, c2, c3, c4, c5, c6, c7, c8, c9, c10, c11, c12, c13, c14⟩ := h.seat hi hs
  have hb := h.lt
  have i0 : (0 : Int) ≤ (i : Int) := by omega
  have i1 : (i : Int) < 8 := by omega
  clear h hs
  rcases hno with hh | rfl
  · rw [hh] at c0
    clear hh
    go_enter Tryz.func62, Tryz.ntmps62
    go_wp2
    exact bodyPost_ret (v := .tuple #[.agg #[.int .i64 0, .bool false, .int .i64 0, .int .i64 0, .int .i64 0, .int .i64 0, .int .i64 0, .int .i64 0, .int .i64 0], .bool false]) (by simp [results, Tryz.results62, go_sem]) rfl ⟨rfl, by go_grown⟩
  · cases hh : s.here
    all_goals
      rw [hh] at c0
      clear hh
      go_enter Tryz.func62, Tryz.ntmps62
      go_wp2
      exact bodyPost_ret (v := .tuple #[.agg #[.int .i64 0, .bool false, .int .i64 0, .int .i64 0, .int .i64 0, .int .i64 0, .int .i64 0, .int .i64 0, .int .i64 0], .bool false]) (by simp [results, Tryz.results62, go_sem]) rfl ⟨rfl, by go_grown⟩

end Go.Proofs.YtonmihojfcjmjaaGreat
