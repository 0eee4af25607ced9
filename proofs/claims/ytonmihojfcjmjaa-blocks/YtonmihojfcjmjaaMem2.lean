/- More of blocks: what one call turns; whole blocks stored. -/
import Derived.Test.YtonmihojfcjmjaaMem
namespace Go.Proofs.Ytonmihojfcjmjaa
open Go.RowKit

theorem hid {p : Prop} (h : p) : Hid p := h

/-- Only block b has changed, and new blocks have come. -/
structure On (b : Nat) (w w' : World) : Prop where
  os : w'.os = w.os
  tape : w'.tape = w.tape
  output : w'.output = w.output
  size : w.heap.size ≤ w'.heap.size
  block : ∀ k, k < w.heap.size → k ≠ b → w'.heap[k]? = w.heap[k]?

theorem On.refl (b : Nat) (w : World) : On b w w := ⟨rfl, rfl, rfl, Nat.le_refl _, fun _ _ _ => rfl⟩
theorem On.trans {b : Nat} {w w' w'' : World} (h : On b w w') (k : On b w' w'') : On b w w'' :=
  ⟨k.os.trans h.os, k.tape.trans h.tape, k.output.trans h.output, Nat.le_trans h.size k.size, fun j hj hb => (k.block j (by have := h.size; omega) hb).trans (h.block j hj hb)⟩
theorem On.below {b : Nat} {w w' : World} (h : Below w.heap.size w w') : On b w w' := ⟨h.os, h.tape, h.output, h.size, fun k hk _ => h.block k hk⟩
theorem On.set (b o : Nat) (w : World) (v : Value) : On b w (w.setCell ⟨b, o, none⟩ v) := ⟨rfl, rfl, rfl, by simp, fun k _ hb => Below.heap_setCell _ _ _ _ hb⟩
theorem On.drew {b : Nat} {w w' : World} (h : On b w w') : On b w w'.drew := ⟨h.os, h.tape, h.output, h.size, h.block⟩

theorem On.toBelow {B b : Nat} {w W W' : World} (hw : Below B w W) (hB : B ≤ W.heap.size) (h : On b W W') (hb : B ≤ b) : Below B w W' :=
  hw.trans ⟨h.os, h.tape, h.output, h.size, fun k hk => h.block k (by omega) (by omega)⟩
theorem Blk.on {W W' : World} {b k : Nat} {cs : Array Value} {t : TypeId} (h : Blk W k cs t) (ho : On b W W') (hne : k ≠ b) : Blk W' k cs t := ⟨by rw [ho.block k h.lt hne]; exact h.at_⟩

theorem cellsOf_toList_set (n : Nat) (c : Nat → Value) (i : Nat) (v : Value) : (cellsOf n c).toList.set i v = (cellsOf n (fun j => if j = i then v else c j)).toList := by
  rw [← cellsOf_set]; simp
theorem cellsOf_one {n : Nat} {c : Nat → Value} (h : ∀ i, i < n → (c i).oneCell' = true) : ∀ v ∈ (cellsOf n c).toList, v.oneCell' = true := by
  intro v hv
  simp [cellsOf] at hv
  obtain ⟨i, hi, rfl⟩ := hv
  exact h i hi

/-- A whole block stored anew. -/
theorem store_new {P : Program} {W : World} {b : Nat} {old : Array Value} {t : TypeId} (q : Blk W b old t) (vs : List Value) (hl : vs.length = old.size) (h1 : ∀ v ∈ vs, v.oneCell' = true) :
    ∃ W', (storeCells ⟨b, 0, none⟩ vs 0).run P W = .ok () W' ∧ Blk W' b vs.toArray t ∧ On b W W' := by
  refine ⟨W.setRow b vs.toArray, ?_, ⟨?_⟩, ⟨rfl, rfl, rfl, by simp, fun k _ hk => setRow_other _ _ _ _ hk⟩⟩
  · have := run_storeCells_from (P := P) b t vs 0 old W q.at_ (by omega) h1
    simpa using this
  · rw [setRow_heap _ _ _ _ _ _ q.at_]

/-- Many cells at once: simp does not open it. -/
def big (n : Nat) (a : Addr) : Sem (Array Value) := loadCellsFrom a 0 n #[]
theorem big65 (a : Addr) : loadCellsFrom a 0 65 #[] = big 65 a := rfl
theorem big65' (a : Addr) : loadCells a 65 = big 65 a := rfl
theorem big_range {P : Program} {W : World} {b o n : Nat} {c : Nat → Value} (h : Range W b o n c) : (big n ⟨b, o, none⟩).run P W = .ok (cellsOf n c) W := load_range h
theorem big_blk {P : Program} {W : World} {b n : Nat} {cs : Array Value} {t : TypeId} (q : Blk W b cs t) (hn : cs.size = n) : (big n ⟨b, 0, none⟩).run P W = .ok cs W := load_blk q hn

theorem store_same {P : Program} {W : World} {b : Nat} {cs : Array Value} {t : TypeId} (q : Blk W b cs t) (h1 : ∀ v ∈ cs.toList, v.oneCell' = true) : (storeCells ⟨b, 0, none⟩ cs.toList 0).run P W = .ok () W := by
  have := run_storeCells_from (P := P) b t cs.toList 0 cs W q.at_ (by simp) h1
  simpa [setRow_self W b cs t (0, 0) q.at_] using this
theorem Blk.same {W W' : World} {b : Nat} {cs : Array Value} {t : TypeId} (q : Blk W b cs t) (e : W'.heap = W.heap) : Blk W' b cs t := ⟨by rw [e]; exact q.at_⟩

end Go.Proofs.Ytonmihojfcjmjaa
