import Derived.Handy
import Derived.WalkKit
import Derived.WalkSpells
import Derived.WalkSmall
import Derived.Deep.MidRow
/- Blocks of memory that are known whole. -/
namespace Go.Proofs.YtonmihojfcjmjaaGreat
open Go.RowKit

/-- Block b holds the cells cs, none of them frozen. -/
structure Blk (W : World) (b : Nat) (cs : Array Value) (t : TypeId) : Prop where
  at_ : W.heap[b]? = some (.cells cs t (0, 0))

theorem Blk.lt {W : World} {b : Nat} {cs : Array Value} {t : TypeId} (h : Blk W b cs t) : b < W.heap.size := (Array.getElem?_eq_some_iff.1 h.at_).1
theorem Blk.cell {W : World} {b : Nat} {cs : Array Value} {t : TypeId} (h : Blk W b cs t) (i : Nat) : W.cell? ⟨b, i, none⟩ = cs[i]? := by simp [World.cell?, h.at_]
theorem Blk.frozen {W : World} {b : Nat} {cs : Array Value} {t : TypeId} (h : Blk W b cs t) (i : Nat) : W.frozen? ⟨b, i, none⟩ = false := by simp [World.frozen?, h.at_]
theorem Blk.below {W W' : World} {B b : Nat} {cs : Array Value} {t : TypeId} (h : Blk W b cs t) (hb : Below B W W') (hlt : b < B) : Blk W' b cs t := ⟨by rw [hb.block b hlt]; exact h.at_⟩
theorem Blk.after {W W' : World} {b : Nat} {cs : Array Value} {t : TypeId} (h : Blk W b cs t) (hb : Below W.heap.size W W') : Blk W' b cs t := h.below hb h.lt
theorem Blk.alloc {W : World} {b : Nat} {cs : Array Value} {t : TypeId} {o : Obj} (h : Blk W b cs t) : Blk (W.alloc o) b cs t := ⟨by rw [Below.heap_alloc _ _ _ h.lt]; exact h.at_⟩
theorem Blk.new {W : World} {b : Nat} {cs : Array Value} {t : TypeId} (hb : b = W.heap.size) : Blk (W.alloc (.cells cs t)) b cs t := ⟨by subst hb; show (W.heap.push _)[_]? = _; rw [Array.getElem?_push, if_pos rfl]⟩
theorem Blk.drew {W : World} {b : Nat} {cs : Array Value} {t : TypeId} (h : Blk W b cs t) : Blk W.drew b cs t := ⟨h.at_⟩
theorem Blk.drewN {W : World} {b n : Nat} {cs : Array Value} {t : TypeId} (h : Blk W b cs t) : Blk (W.drewN n) b cs t := ⟨h.at_⟩
theorem Blk.set {W : World} {b : Nat} {cs : Array Value} {t : TypeId} (h : Blk W b cs t) (i : Nat) (v : Value) : Blk (W.setCell ⟨b, i, none⟩ v) b (cs.setIfInBounds i v) t := ⟨by simp [World.setCell, Array.getElem?_modify, h.at_]⟩
theorem Blk.other {W : World} {b c : Nat} {cs : Array Value} {t : TypeId} (h : Blk W b cs t) (i : Nat) (v : Value) (hne : b ≠ c) : Blk (W.setCell ⟨c, i, none⟩ v) b cs t := ⟨by rw [Below.heap_setCell _ _ _ _ hne]; exact h.at_⟩

theorem Blk.two {W : World} {b : Nat} {x0 x1 : Value} {t : TypeId} (h : Blk W b #[x0, x1] t) :
    W.cell? ⟨b, 0, none⟩ = some x0 ∧ W.cell? ⟨b, 1, none⟩ = some x1 ∧ (∀ i, W.frozen? ⟨b, i, none⟩ = false) ∧ b < W.heap.size :=
  ⟨h.cell 0, h.cell 1, h.frozen, h.lt⟩
theorem Blk.three {W : World} {b : Nat} {x0 x1 x2 : Value} {t : TypeId} (h : Blk W b #[x0, x1, x2] t) :
    W.cell? ⟨b, 0, none⟩ = some x0 ∧ W.cell? ⟨b, 1, none⟩ = some x1 ∧ W.cell? ⟨b, 2, none⟩ = some x2 ∧ (∀ i, W.frozen? ⟨b, i, none⟩ = false) ∧ b < W.heap.size :=
  ⟨h.cell 0, h.cell 1, h.cell 2, h.frozen, h.lt⟩
theorem Blk.four {W : World} {b : Nat} {x0 x1 x2 x3 : Value} {t : TypeId} (h : Blk W b #[x0, x1, x2, x3] t) :
    W.cell? ⟨b, 0, none⟩ = some x0 ∧ W.cell? ⟨b, 1, none⟩ = some x1 ∧ W.cell? ⟨b, 2, none⟩ = some x2 ∧ W.cell? ⟨b, 3, none⟩ = some x3 ∧ (∀ i, W.frozen? ⟨b, i, none⟩ = false) ∧ b < W.heap.size :=
  ⟨h.cell 0, h.cell 1, h.cell 2, h.cell 3, h.frozen, h.lt⟩
theorem Blk.six {W : World} {b : Nat} {x0 x1 x2 x3 x4 x5 : Value} {t : TypeId} (h : Blk W b #[x0, x1, x2, x3, x4, x5] t) :
    W.cell? ⟨b, 0, none⟩ = some x0 ∧ W.cell? ⟨b, 1, none⟩ = some x1 ∧ W.cell? ⟨b, 2, none⟩ = some x2 ∧ W.cell? ⟨b, 3, none⟩ = some x3 ∧ W.cell? ⟨b, 4, none⟩ = some x4 ∧ W.cell? ⟨b, 5, none⟩ = some x5 ∧
    (∀ i, W.frozen? ⟨b, i, none⟩ = false) ∧ b < W.heap.size :=
  ⟨h.cell 0, h.cell 1, h.cell 2, h.cell 3, h.cell 4, h.cell 5, h.frozen, h.lt⟩

theorem cell_set_off (w : World) (b i j : Nat) (v : Value) (h : i ≠ j) : (w.setCell ⟨b, i, none⟩ v).cell? ⟨b, j, none⟩ = w.cell? ⟨b, j, none⟩ :=
  World.cell?_setCell_other _ _ _ _ (by intro e; simp only [Addr.mk.injEq] at e; exact h e.2.1)
theorem cell_set_blk (w : World) (b c i j : Nat) (v : Value) (h : b ≠ c) : (w.setCell ⟨b, i, none⟩ v).cell? ⟨c, j, none⟩ = w.cell? ⟨c, j, none⟩ :=
  World.cell?_setCell_other _ _ _ _ (by intro e; simp only [Addr.mk.injEq] at e; exact h e.1)

/-- So many cells, by their numbers. -/
def cellsOf (n : Nat) (c : Nat → Value) : Array Value := ((List.range n).map c).toArray
theorem cellsOf_size (n : Nat) (c : Nat → Value) : (cellsOf n c).size = n := by simp [cellsOf]
theorem cellsOf_get {n i : Nat} (c : Nat → Value) (h : i < n) : (cellsOf n c)[i]? = some (c i) := by simp [cellsOf, h]
theorem cellsOf_congr {n : Nat} {c c' : Nat → Value} (h : ∀ i, i < n → c i = c' i) : cellsOf n c = cellsOf n c' := by
  unfold cellsOf; congr 1; exact List.map_congr_left (fun i hi => h i (by simpa using hi))
theorem cellsOf_set (n : Nat) (c : Nat → Value) (i : Nat) (v : Value) : (cellsOf n c).setIfInBounds i v = cellsOf n (fun j => if j = i then v else c j) := by
  apply Array.ext_getElem?
  intro j
  rw [Array.getElem?_setIfInBounds]
  by_cases hj : j < n
  · rw [cellsOf_get (fun j => if j = i then v else c j) hj]
    by_cases e : i = j
    · subst e; simp [cellsOf_size, hj]
    · rw [if_neg e, cellsOf_get _ hj, if_neg (fun x => e x.symm)]
  · have e2 : (cellsOf n (fun j => if j = i then v else c j))[j]? = none := by rw [Array.getElem?_eq_none]; rw [cellsOf_size]; omega
    have e3 : (cellsOf n c)[j]? = none := by rw [Array.getElem?_eq_none]; rw [cellsOf_size]; omega
    rw [e2, e3]
    by_cases e : i = j
    · subst e; simp [cellsOf_size, hj]
    · rw [if_neg e]
theorem Blk.cellC {W : World} {b n : Nat} {c : Nat → Value} {t : TypeId} (h : Blk W b (cellsOf n c) t) (i : Nat) (hi : i < n) : W.cell? ⟨b, i, none⟩ = some (c i) := by rw [h.cell i, cellsOf_get _ hi]
theorem Blk.setC {W : World} {b n : Nat} {c : Nat → Value} {t : TypeId} (h : Blk W b (cellsOf n c) t) (i : Nat) (v : Value) : Blk (W.setCell ⟨b, i, none⟩ v) b (cellsOf n (fun j => if j = i then v else c j)) t := by
  rw [← cellsOf_set]; exact h.set i v
theorem Blk.to {W : World} {b n : Nat} {c c' : Nat → Value} {t : TypeId} (h : Blk W b (cellsOf n c) t) (e : ∀ i, i < n → c i = c' i) : Blk W b (cellsOf n c') t := by
  rw [← cellsOf_congr e]; exact h

/-- So many cells are known in block b, from o on. -/
def Range (W : World) (b o n : Nat) (c : Nat → Value) : Prop := ∀ j, j < n → W.cell? ⟨b, o + j, none⟩ = some (c j)
theorem load_range {P : Program} {W : World} {b o n : Nat} {c : Nat → Value} (h : Range W b o n c) : (loadCellsFrom ⟨b, o, none⟩ 0 n #[]).run P W = .ok (cellsOf n c) W := by
  have := run_loadCells (P := P) W ⟨b, o, none⟩ n c (fun j hj => by rw [Addr.add_mid]; exact h j hj)
  simpa [loadCells, cellsOf] using this
theorem load_blk {P : Program} {W : World} {b n : Nat} {cs : Array Value} {t : TypeId} (q : Blk W b cs t) (hn : cs.size = n) : (loadCellsFrom ⟨b, 0, none⟩ 0 n #[]).run P W = .ok cs W := by
  subst hn
  have := run_loadCells_list (P := P) W ⟨b, 0, none⟩ cs.toList (fun j v hv => by
    rw [Addr.add_mid, Nat.zero_add, q.cell j]
    simpa using hv)
  simpa [loadCells] using this
theorem store_range {P : Program} {W : World} {b o : Nat} (vs : List Value) (h1 : ∀ j, j < vs.length → (W.cell? ⟨b, o + j, none⟩).isSome = true) (h2 : ∀ i, W.frozen? ⟨b, i, none⟩ = false) (h3 : ∀ v ∈ vs, v.oneCell' = true) :
    (storeCells ⟨b, o, none⟩ vs 0).run P W = .ok () (W.setCells b o vs) := by
  have := run_storeCells_cells (P := P) b o vs 0 W (fun j hj => by simpa using h1 j hj) (fun j hj => h2 _) h3
  simpa using this

theorem bl {w W w1 : World} (h : Below w.heap.size w W) (hb : Below W.heap.size W w1) : Below w.heap.size w w1 := h.trans (hb.mono h.size)

theorem ret_int {k : IntKind} {a b : Int} (h : a = b) : Ending.returned (.int k a) = .returned (.int k b) := by rw [h]
theorem ret_bool {a b : Bool} (h : a = b) : Ending.returned (.bool a) = .returned (.bool b) := by rw [h]

end Go.Proofs.YtonmihojfcjmjaaGreat

/- More of blocks: what one call turns; whole blocks stored. -/
namespace Go.Proofs.YtonmihojfcjmjaaGreat
open Go.RowKit

theorem hid {p : Prop} (h : p) : Hid p := h

/-- Only block b has changed, and new blocks have come. -/
structure On (b : Nat) (w w' : World) : Prop where
  os : w'.os = w.os
  tape : w'.tape = w.tape
  output : w'.output = w.output
  size : w.heap.size ≤ w'.heap.size
  block : ∀ k, k < w.heap.size → k ≠ b → w'.heap[k]? = w.heap[k]?

theorem On.refl (b : Nat) (w : World) : On b w w := ⟨rfl, rfl, rfl, Nat.le_refl _, fun _ _ _ => rfl⟩
theorem On.trans {b : Nat} {w w' w'' : World} (h : On b w w') (k : On b w' w'') : On b w w'' :=
  ⟨k.os.trans h.os, k.tape.trans h.tape, k.output.trans h.output, Nat.le_trans h.size k.size, fun j hj hb => (k.block j (by have := h.size; omega) hb).trans (h.block j hj hb)⟩
theorem On.below {b : Nat} {w w' : World} (h : Below w.heap.size w w') : On b w w' := ⟨h.os, h.tape, h.output, h.size, fun k hk _ => h.block k hk⟩
theorem On.set (b o : Nat) (w : World) (v : Value) : On b w (w.setCell ⟨b, o, none⟩ v) := ⟨rfl, rfl, rfl, by simp, fun k _ hb => Below.heap_setCell _ _ _ _ hb⟩
theorem On.drew {b : Nat} {w w' : World} (h : On b w w') : On b w w'.drew := ⟨h.os, h.tape, h.output, h.size, h.block⟩

theorem On.toBelow {B b : Nat} {w W W' : World} (hw : Below B w W) (hB : B ≤ W.heap.size) (h : On b W W') (hb : B ≤ b) : Below B w W' :=
  hw.trans ⟨h.os, h.tape, h.output, h.size, fun k hk => h.block k (by omega) (by omega)⟩
theorem Blk.on {W W' : World} {b k : Nat} {cs : Array Value} {t : TypeId} (h : Blk W k cs t) (ho : On b W W') (hne : k ≠ b) : Blk W' k cs t := ⟨by rw [ho.block k h.lt hne]; exact h.at_⟩

theorem cellsOf_toList_set (n : Nat) (c : Nat → Value) (i : Nat) (v : Value) : (cellsOf n c).toList.set i v = (cellsOf n (fun j => if j = i then v else c j)).toList := by
  rw [← cellsOf_set]; simp
theorem cellsOf_one {n : Nat} {c : Nat → Value} (h : ∀ i, i < n → (c i).oneCell' = true) : ∀ v ∈ (cellsOf n c).toList, v.oneCell' = true := by
  intro v hv
  simp [cellsOf] at hv
  obtain ⟨i, hi, rfl⟩ := hv
  exact h i hi

/-- A whole block stored anew. -/
theorem store_new {P : Program} {W : World} {b : Nat} {old : Array Value} {t : TypeId} (q : Blk W b old t) (vs : List Value) (hl : vs.length = old.size) (h1 : ∀ v ∈ vs, v.oneCell' = true) :
    ∃ W', (storeCells ⟨b, 0, none⟩ vs 0).run P W = .ok () W' ∧ Blk W' b vs.toArray t ∧ On b W W' := by
  refine ⟨W.setRow b vs.toArray, ?_, ⟨?_⟩, ⟨rfl, rfl, rfl, by simp, fun k _ hk => setRow_other _ _ _ _ hk⟩⟩
  · have := run_storeCells_from (P := P) b t vs 0 old W q.at_ (by omega) h1
    simpa using this
  · rw [setRow_heap _ _ _ _ _ _ q.at_]

/-- Many cells at once: simp does not open it. -/
def big (n : Nat) (a : Addr) : Sem (Array Value) := loadCellsFrom a 0 n #[]
theorem big65 (a : Addr) : loadCellsFrom a 0 65 #[] = big 65 a := rfl
theorem big65' (a : Addr) : loadCells a 65 = big 65 a := rfl
theorem big_range {P : Program} {W : World} {b o n : Nat} {c : Nat → Value} (h : Range W b o n c) : (big n ⟨b, o, none⟩).run P W = .ok (cellsOf n c) W := load_range h
theorem big_blk {P : Program} {W : World} {b n : Nat} {cs : Array Value} {t : TypeId} (q : Blk W b cs t) (hn : cs.size = n) : (big n ⟨b, 0, none⟩).run P W = .ok cs W := load_blk q hn

theorem store_same {P : Program} {W : World} {b : Nat} {cs : Array Value} {t : TypeId} (q : Blk W b cs t) (h1 : ∀ v ∈ cs.toList, v.oneCell' = true) : (storeCells ⟨b, 0, none⟩ cs.toList 0).run P W = .ok () W := by
  have := run_storeCells_from (P := P) b t cs.toList 0 cs W q.at_ (by simp) h1
  simpa [setRow_self W b cs t (0, 0) q.at_] using this
theorem Blk.same {W W' : World} {b : Nat} {cs : Array Value} {t : TypeId} (q : Blk W b cs t) (e : W'.heap = W.heap) : Blk W' b cs t := ⟨by rw [e]; exact q.at_⟩

end Go.Proofs.YtonmihojfcjmjaaGreat

/- More of ranges of cells: set, one and many. -/
namespace Go.Proofs.YtonmihojfcjmjaaGreat
open Go.RowKit

theorem Range.congr {W : World} {b o n : Nat} {c c' : Nat → Value} (h : Range W b o n c) (e : ∀ j, j < n → c j = c' j) : Range W b o n c' := fun j hj => by rw [← e j hj]; exact h j hj
theorem Range.block {W W' : World} {b o n : Nat} {c : Nat → Value} (h : Range W b o n c) (e : W'.heap[b]? = W.heap[b]?) : Range W' b o n c := fun j hj => (World.cell?_of_block (a := ⟨b, _, none⟩) e).trans (h j hj)
theorem Range.set1 {W : World} {b o n : Nat} {c : Nat → Value} (h : Range W b o n c) (k : Nat) (v : Value) : Range (W.setCell ⟨b, o + k, none⟩ v) b o n (fun j => if j = k then v else c j) := fun j hj => by
  dsimp only
  by_cases e : j = k
  · subst e; rw [if_pos rfl]; exact World.cell?_setCell_same _ _ _ (h j hj)
  · rw [if_neg e, cell_set_off _ _ _ _ _ (by omega)]; exact h j hj
theorem Range.setN {W : World} {b o n : Nat} {c : Nat → Value} (h : Range W b o n c) (k m : Nat) (hk : k + m ≤ n) (d : Nat → Value) : Range (W.setCells b (o + k) (cellsOf m d).toList) b o n (fun j => if k ≤ j ∧ j < k + m then d (j - k) else c j) := fun j hj => by
  have hl : (cellsOf m d).toList.length = m := by simp [cellsOf]
  dsimp only
  by_cases e : k ≤ j ∧ j < k + m
  · rw [if_pos e]
    have := World.cell?_setCells_in b (cellsOf m d).toList (o + k) W (fun i hi => by rw [Nat.add_assoc, h (k + i) (by omega)]; rfl) (j - k) (by omega)
    rw [show o + k + (j - k) = o + j by omega] at this
    rw [this]
    simp [cellsOf]
  · rw [if_neg e, World.cell?_setCells_out b _ (o + k) W ⟨b, o + j, none⟩ (fun _ _ => by rw [hl]; show o + j < o + k ∨ o + k + m ≤ o + j; omega)]
    exact h j hj
theorem On.setN (b o : Nat) (L : List Value) (w : World) : On b w (w.setCells b o L) := by
  induction L generalizing o w with
  | nil => exact On.refl b w
  | cons v r ih => exact (On.set b o w v).trans (ih (o + 1) _)

theorem Range.setNa {W : World} {b o n : Nat} {c : Nat → Value} (h : Range W b o n c) (a k m : Nat) (ha : a = o + k) (hk : k + m ≤ n) (d : Nat → Value) : Range (W.setCells b a (cellsOf m d).toList) b o n (fun j => if k ≤ j ∧ j < k + m then d (j - k) else c j) := by
  subst ha; exact h.setN k m hk d
theorem Range.drew {W : World} {b o n : Nat} {c : Nat → Value} (h : Range W b o n c) : Range W.drew b o n c := h.block rfl

/-- Only block b has changed, and of it the n cells from o on; and new blocks have come. -/
structure OnR (b o n : Nat) (w w' : World) : Prop where
  on : On b w w'
  out : ∀ k, (k < o ∨ o + n ≤ k) → w'.cell? ⟨b, k, none⟩ = w.cell? ⟨b, k, none⟩
  fz : ∀ i, w'.frozen? ⟨b, i, none⟩ = w.frozen? ⟨b, i, none⟩
theorem OnR.trans {b o n : Nat} {w w' w'' : World} (h : OnR b o n w w') (k : OnR b o n w' w'') : OnR b o n w w'' :=
  ⟨h.on.trans k.on, fun j hj => (k.out j hj).trans (h.out j hj), fun i => (k.fz i).trans (h.fz i)⟩
theorem OnR.refl (b o n : Nat) (w : World) : OnR b o n w w := ⟨On.refl b w, fun _ _ => rfl, fun _ => rfl⟩
theorem OnR.below {b o n : Nat} {w w' : World} (h : Below w.heap.size w w') (hb : b < w.heap.size) : OnR b o n w w' :=
  ⟨On.below h, fun k _ => World.cell?_of_block (a := ⟨b, k, none⟩) (h.block b hb), fun i => World.frozen?_of_block (a := ⟨b, i, none⟩) (h.block b hb)⟩
theorem OnR.set {b o n : Nat} (w : World) (k : Nat) (hk : k < n) (v : Value) : OnR b o n w (w.setCell ⟨b, o + k, none⟩ v) :=
  ⟨On.set b (o + k) w v, fun j hj => cell_set_off _ _ _ _ _ (by omega), fun i => World.frozen?_setCell _ _ _ _⟩
theorem OnR.setN {b o n : Nat} (w : World) (k : Nat) (L : List Value) (hk : k + L.length ≤ n) : OnR b o n w (w.setCells b (o + k) L) :=
  ⟨On.setN b (o + k) L w, fun j hj => World.cell?_setCells_out b L (o + k) w ⟨b, j, none⟩ (fun _ _ => by show j < o + k ∨ o + k + L.length ≤ j; omega), fun i => World.frozen?_setCells _ _ _ _ _⟩

theorem OnR.setNa {b o n : Nat} (w : World) (a k : Nat) (ha : a = o + k) (L : List Value) (hk : k + L.length ≤ n) : OnR b o n w (w.setCells b a L) := by
  subst ha; exact OnR.setN w k L hk
theorem OnR.drew {b o n : Nat} {w w' : World} (h : OnR b o n w w') : OnR b o n w w'.drew := ⟨h.on.drew, h.out, h.fz⟩

end Go.Proofs.YtonmihojfcjmjaaGreat
