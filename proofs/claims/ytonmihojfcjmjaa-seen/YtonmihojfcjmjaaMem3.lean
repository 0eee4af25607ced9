/- More of ranges of cells: set, one and many. -/
import Derived.Test.YtonmihojfcjmjaaMem2
namespace Go.Proofs.Ytonmihojfcjmjaa
open Go.RowKit

theorem Range.congr {W : World} {b o n : Nat} {c c' : Nat → Value} (h : Range W b o n c) (e : ∀ j, j < n → c j = c' j) : Range W b o n c' := fun j hj => by rw [← e j hj]; exact h j hj
theorem Range.block {W W' : World} {b o n : Nat} {c : Nat → Value} (h : Range W b o n c) (e : W'.heap[b]? = W.heap[b]?) : Range W' b o n c := fun j hj => (World.cell?_of_block (a := ⟨b, _, none⟩) e).trans (h j hj)
theorem Range.set1 {W : World} {b o n : Nat} {c : Nat → Value} (h : Range W b o n c) (k : Nat) (v : Value) : Range (W.setCell ⟨b, o + k, none⟩ v) b o n (fun j => if j = k then v else c j) := fun j hj => by
  dsimp only
  by_cases e : j = k
  · subst e; rw [if_pos rfl]; exact World.cell?_setCell_same _ _ _ (h j hj)
  · rw [if_neg e, cell_set_off _ _ _ _ _ (by omega)]; exact h j hj
theorem Range.setN {W : World} {b o n : Nat} {c : Nat → Value} (h : Range W b o n c) (k m : Nat) (hk : k + m ≤ n) (d : Nat → Value) : Range (W.setCells b (o + k) (cellsOf m d).toList) b o n (fun j => if k ≤ j ∧ j < k + m then d (j - k) else c j) := fun j hj => by
  have hl : (cellsOf m d).toList.length = m := by simp [cellsOf]
  dsimp only
  by_cases e : k ≤ j ∧ j < k + m
  · rw [if_pos e]
    have := World.cell?_setCells_in b (cellsOf m d).toList (o + k) W (fun i hi => by rw [Nat.add_assoc, h (k + i) (by omega)]; rfl) (j - k) (by omega)
    rw [show o + k + (j - k) = o + j by omega] at this
    rw [this]
    simp [cellsOf]
  · rw [if_neg e, World.cell?_setCells_out b _ (o + k) W ⟨b, o + j, none⟩ (fun _ _ => by rw [hl]; show o + j < o + k ∨ o + k + m ≤ o + j; omega)]
    exact h j hj
theorem On.setN (b o : Nat) (L : List Value) (w : World) : On b w (w.setCells b o L) := by
  induction L generalizing o w with
  | nil => exact On.refl b w
  | cons v r ih => exact (On.set b o w v).trans (ih (o + 1) _)

theorem Range.setNa {W : World} {b o n : Nat} {c : Nat → Value} (h : Range W b o n c) (a k m : Nat) (ha : a = o + k) (hk : k + m ≤ n) (d : Nat → Value) : Range (W.setCells b a (cellsOf m d).toList) b o n (fun j => if k ≤ j ∧ j < k + m then d (j - k) else c j) := by
  subst ha; exact h.setN k m hk d
theorem Range.drew {W : World} {b o n : Nat} {c : Nat → Value} (h : Range W b o n c) : Range W.drew b o n c := h.block rfl

/-- Only block b has changed, and of it the n cells from o on; and new blocks have come. -/
structure OnR (b o n : Nat) (w w' : World) : Prop where
  on : On b w w'
  out : ∀ k, (k < o ∨ o + n ≤ k) → w'.cell? ⟨b, k, none⟩ = w.cell? ⟨b, k, none⟩
  fz : ∀ i, w'.frozen? ⟨b, i, none⟩ = w.frozen? ⟨b, i, none⟩
theorem OnR.trans {b o n : Nat} {w w' w'' : World} (h : OnR b o n w w') (k : OnR b o n w' w'') : OnR b o n w w'' :=
  ⟨h.on.trans k.on, fun j hj => (k.out j hj).trans (h.out j hj), fun i => (k.fz i).trans (h.fz i)⟩
theorem OnR.refl (b o n : Nat) (w : World) : OnR b o n w w := ⟨On.refl b w, fun _ _ => rfl, fun _ => rfl⟩
theorem OnR.below {b o n : Nat} {w w' : World} (h : Below w.heap.size w w') (hb : b < w.heap.size) : OnR b o n w w' :=
  ⟨On.below h, fun k _ => World.cell?_of_block (a := ⟨b, k, none⟩) (h.block b hb), fun i => World.frozen?_of_block (a := ⟨b, i, none⟩) (h.block b hb)⟩
theorem OnR.set {b o n : Nat} (w : World) (k : Nat) (hk : k < n) (v : Value) : OnR b o n w (w.setCell ⟨b, o + k, none⟩ v) :=
  ⟨On.set b (o + k) w v, fun j hj => cell_set_off _ _ _ _ _ (by omega), fun i => World.frozen?_setCell _ _ _ _⟩
theorem OnR.setN {b o n : Nat} (w : World) (k : Nat) (L : List Value) (hk : k + L.length ≤ n) : OnR b o n w (w.setCells b (o + k) L) :=
  ⟨On.setN b (o + k) L w, fun j hj => World.cell?_setCells_out b L (o + k) w ⟨b, j, none⟩ (fun _ _ => by show j < o + k ∨ o + k + L.length ≤ j; omega), fun i => World.frozen?_setCells _ _ _ _ _⟩

theorem OnR.setNa {b o n : Nat} (w : World) (a k : Nat) (ha : a = o + k) (L : List Value) (hk : k + L.length ≤ n) : OnR b o n w (w.setCells b a L) := by
  subst ha; exact OnR.setN w k L hk
theorem OnR.drew {b o n : Nat} {w w' : World} (h : OnR b o n w w') : OnR b o n w w'.drew := ⟨h.on.drew, h.out, h.fz⟩

end Go.Proofs.Ytonmihojfcjmjaa
