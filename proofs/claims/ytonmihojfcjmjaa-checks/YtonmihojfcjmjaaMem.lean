/- Blocks of memory that are known whole. -/
import Derived.Handy
import Derived.WalkKit
import Derived.WalkSpells
import Derived.WalkSmall
import Derived.Deep.MidRow
namespace Go.Proofs.Ytonmihojfcjmjaa
open Go.RowKit

/-- Block b holds the cells cs, none of them frozen. -/
structure Blk (W : World) (b : Nat) (cs : Array Value) (t : TypeId) : Prop where
  at_ : W.heap[b]? = some (.cells cs t (0, 0))

theorem Blk.lt {W : World} {b : Nat} {cs : Array Value} {t : TypeId} (h : Blk W b cs t) : b < W.heap.size := (Array.getElem?_eq_some_iff.1 h.at_).1
theorem Blk.cell {W : World} {b : Nat} {cs : Array Value} {t : TypeId} (h : Blk W b cs t) (i : Nat) : W.cell? ⟨b, i, none⟩ = cs[i]? := by simp [World.cell?, h.at_]
theorem Blk.frozen {W : World} {b : Nat} {cs : Array Value} {t : TypeId} (h : Blk W b cs t) (i : Nat) : W.frozen? ⟨b, i, none⟩ = false := by simp [World.frozen?, h.at_]
theorem Blk.below {W W' : World} {B b : Nat} {cs : Array Value} {t : TypeId} (h : Blk W b cs t) (hb : Below B W W') (hlt : b < B) : Blk W' b cs t := ⟨by rw [hb.block b hlt]; exact h.at_⟩
theorem Blk.after {W W' : World} {b : Nat} {cs : Array Value} {t : TypeId} (h : Blk W b cs t) (hb : Below W.heap.size W W') : Blk W' b cs t := h.below hb h.lt
theorem Blk.alloc {W : World} {b : Nat} {cs : Array Value} {t : TypeId} {o : Obj} (h : Blk W b cs t) : Blk (W.alloc o) b cs t := ⟨by rw [Below.heap_alloc _ _ _ h.lt]; exact h.at_⟩
theorem Blk.new {W : World} {b : Nat} {cs : Array Value} {t : TypeId} (hb : b = W.heap.size) : Blk (W.alloc (.cells cs t)) b cs t := ⟨by subst hb; show (W.heap.push _)[_]? = _; rw [Array.getElem?_push, if_pos rfl]⟩
theorem Blk.drew {W : World} {b : Nat} {cs : Array Value} {t : TypeId} (h : Blk W b cs t) : Blk W.drew b cs t := ⟨h.at_⟩
theorem Blk.drewN {W : World} {b n : Nat} {cs : Array Value} {t : TypeId} (h : Blk W b cs t) : Blk (W.drewN n) b cs t := ⟨h.at_⟩
theorem Blk.set {W : World} {b : Nat} {cs : Array Value} {t : TypeId} (h : Blk W b cs t) (i : Nat) (v : Value) : Blk (W.setCell ⟨b, i, none⟩ v) b (cs.setIfInBounds i v) t := ⟨by simp [World.setCell, Array.getElem?_modify, h.at_]⟩
theorem Blk.other {W : World} {b c : Nat} {cs : Array Value} {t : TypeId} (h : Blk W b cs t) (i : Nat) (v : Value) (hne : b ≠ c) : Blk (W.setCell ⟨c, i, none⟩ v) b cs t := ⟨by rw [Below.heap_setCell _ _ _ _ hne]; exact h.at_⟩

theorem Blk.two {W : World} {b : Nat} {x0 x1 : Value} {t : TypeId} (h : Blk W b #[x0, x1] t) :
    W.cell? ⟨b, 0, none⟩ = some x0 ∧ W.cell? ⟨b, 1, none⟩ = some x1 ∧ (∀ i, W.frozen? ⟨b, i, none⟩ = false) ∧ b < W.heap.size :=
  ⟨h.cell 0, h.cell 1, h.frozen, h.lt⟩
theorem Blk.three {W : World} {b : Nat} {x0 x1 x2 : Value} {t : TypeId} (h : Blk W b #[x0, x1, x2] t) :
    W.cell? ⟨b, 0, none⟩ = some x0 ∧ W.cell? ⟨b, 1, none⟩ = some x1 ∧ W.cell? ⟨b, 2, none⟩ = some x2 ∧ (∀ i, W.frozen? ⟨b, i, none⟩ = false) ∧ b < W.heap.size :=
  ⟨h.cell 0, h.cell 1, h.cell 2, h.frozen, h.lt⟩
theorem Blk.four {W : World} {b : Nat} {x0 x1 x2 x3 : Value} {t : TypeId} (h : Blk W b #[x0, x1, x2, x3] t) :
    W.cell? ⟨b, 0, none⟩ = some x0 ∧ W.cell? ⟨b, 1, none⟩ = some x1 ∧ W.cell? ⟨b, 2, none⟩ = some x2 ∧ W.cell? ⟨b, 3, none⟩ = some x3 ∧ (∀ i, W.frozen? ⟨b, i, none⟩ = false) ∧ b < W.heap.size :=
  ⟨h.cell 0, h.cell 1, h.cell 2, h.cell 3, h.frozen, h.lt⟩
theorem Blk.six {W : World} {b : Nat} {x0 x1 x2 x3 x4 x5 : Value} {t : TypeId} (h : Blk W b #[x0, x1, x2, x3, x4, x5] t) :
    W.cell? ⟨b, 0, none⟩ = some x0 ∧ W.cell? ⟨b, 1, none⟩ = some x1 ∧ W.cell? ⟨b, 2, none⟩ = some x2 ∧ W.cell? ⟨b, 3, none⟩ = some x3 ∧ W.cell? ⟨b, 4, none⟩ = some x4 ∧ W.cell? ⟨b, 5, none⟩ = some x5 ∧
    (∀ i, W.frozen? ⟨b, i, none⟩ = false) ∧ b < W.heap.size :=
  ⟨h.cell 0, h.cell 1, h.cell 2, h.cell 3, h.cell 4, h.cell 5, h.frozen, h.lt⟩

theorem cell_set_off (w : World) (b i j : Nat) (v : Value) (h : i ≠ j) : (w.setCell ⟨b, i, none⟩ v).cell? ⟨b, j, none⟩ = w.cell? ⟨b, j, none⟩ :=
  World.cell?_setCell_other _ _ _ _ (by intro e; simp only [Addr.mk.injEq] at e; exact h e.2.1)
theorem cell_set_blk (w : World) (b c i j : Nat) (v : Value) (h : b ≠ c) : (w.setCell ⟨b, i, none⟩ v).cell? ⟨c, j, none⟩ = w.cell? ⟨c, j, none⟩ :=
  World.cell?_setCell_other _ _ _ _ (by intro e; simp only [Addr.mk.injEq] at e; exact h e.1)

/-- So many cells, by their numbers. -/
def cellsOf (n : Nat) (c : Nat → Value) : Array Value := ((List.range n).map c).toArray
theorem cellsOf_size (n : Nat) (c : Nat → Value) : (cellsOf n c).size = n := by simp [cellsOf]
theorem cellsOf_get {n i : Nat} (c : Nat → Value) (h : i < n) : (cellsOf n c)[i]? = some (c i) := by simp [cellsOf, h]
theorem cellsOf_congr {n : Nat} {c c' : Nat → Value} (h : ∀ i, i < n → c i = c' i) : cellsOf n c = cellsOf n c' := by
  unfold cellsOf; congr 1; exact List.map_congr_left (fun i hi => h i (by simpa using hi))
theorem cellsOf_set (n : Nat) (c : Nat → Value) (i : Nat) (v : Value) : (cellsOf n c).setIfInBounds i v = cellsOf n (fun j => if j = i then v else c j) := by
  apply Array.ext_getElem?
  intro j
  rw [Array.getElem?_setIfInBounds]
  by_cases hj : j < n
  · rw [cellsOf_get (fun j => if j = i then v else c j) hj]
    by_cases e : i = j
    · subst e; simp [cellsOf_size, hj]
    · rw [if_neg e, cellsOf_get _ hj, if_neg (fun x => e x.symm)]
  · have e2 : (cellsOf n (fun j => if j = i then v else c j))[j]? = none := by rw [Array.getElem?_eq_none]; rw [cellsOf_size]; omega
    have e3 : (cellsOf n c)[j]? = none := by rw [Array.getElem?_eq_none]; rw [cellsOf_size]; omega
    rw [e2, e3]
    by_cases e : i = j
    · subst e; simp [cellsOf_size, hj]
    · rw [if_neg e]
theorem Blk.cellC {W : World} {b n : Nat} {c : Nat → Value} {t : TypeId} (h : Blk W b (cellsOf n c) t) (i : Nat) (hi : i < n) : W.cell? ⟨b, i, none⟩ = some (c i) := by rw [h.cell i, cellsOf_get _ hi]
theorem Blk.setC {W : World} {b n : Nat} {c : Nat → Value} {t : TypeId} (h : Blk W b (cellsOf n c) t) (i : Nat) (v : Value) : Blk (W.setCell ⟨b, i, none⟩ v) b (cellsOf n (fun j => if j = i then v else c j)) t := by
  rw [← cellsOf_set]; exact h.set i v
theorem Blk.to {W : World} {b n : Nat} {c c' : Nat → Value} {t : TypeId} (h : Blk W b (cellsOf n c) t) (e : ∀ i, i < n → c i = c' i) : Blk W b (cellsOf n c') t := by
  rw [← cellsOf_congr e]; exact h

/-- So many cells are known in block b, from o on. -/
def Range (W : World) (b o n : Nat) (c : Nat → Value) : Prop := ∀ j, j < n → W.cell? ⟨b, o + j, none⟩ = some (c j)
theorem load_range {P : Program} {W : World} {b o n : Nat} {c : Nat → Value} (h : Range W b o n c) : (loadCellsFrom ⟨b, o, none⟩ 0 n #[]).run P W = .ok (cellsOf n c) W := by
  have := run_loadCells (P := P) W ⟨b, o, none⟩ n c (fun j hj => by rw [Addr.add_mid]; exact h j hj)
  simpa [loadCells, cellsOf] using this
theorem load_blk {P : Program} {W : World} {b n : Nat} {cs : Array Value} {t : TypeId} (q : Blk W b cs t) (hn : cs.size = n) : (loadCellsFrom ⟨b, 0, none⟩ 0 n #[]).run P W = .ok cs W := by
  subst hn
  have := run_loadCells_list (P := P) W ⟨b, 0, none⟩ cs.toList (fun j v hv => by
    rw [Addr.add_mid, Nat.zero_add, q.cell j]
    simpa using hv)
  simpa [loadCells] using this
theorem store_range {P : Program} {W : World} {b o : Nat} (vs : List Value) (h1 : ∀ j, j < vs.length → (W.cell? ⟨b, o + j, none⟩).isSome = true) (h2 : ∀ i, W.frozen? ⟨b, i, none⟩ = false) (h3 : ∀ v ∈ vs, v.oneCell' = true) :
    (storeCells ⟨b, o, none⟩ vs 0).run P W = .ok () (W.setCells b o vs) := by
  have := run_storeCells_cells (P := P) b o vs 0 W (fun j hj => by simpa using h1 j hj) (fun j hj => h2 _) h3
  simpa using this

theorem bl {w W w1 : World} (h : Below w.heap.size w W) (hb : Below W.heap.size W w1) : Below w.heap.size w w1 := h.trans (hb.mono h.size)

theorem ret_int {k : IntKind} {a b : Int} (h : a = b) : Ending.returned (.int k a) = .returned (.int k b) := by rw [h]
theorem ret_bool {a b : Bool} (h : a = b) : Ending.returned (.bool a) = .returned (.bool b) := by rw [h]

end Go.Proofs.Ytonmihojfcjmjaa
