import Derived.Test.YtonmihojfcjmjabDf
import Derived.Test.YtonmihojfcjmjabOpn
import Derived.Deep.Slices
import Derived.SizedLaws
/- What comes in: a list of steps, opened. -/
namespace Go.Proofs.Ytonmihojfcjmjab.Opn
open Go.ChangeShapes Go.WideShapes Go.ChangeAt Go.RowKit Go.Joins Go.Deep
open Go.ChangeMaps (open_string shut_string)
set_option linter.unusedVariables false

instance : Inhabited M.KOp := ⟨⟨0, 0, ⟨0, 0, 0⟩, ByteArray.empty⟩⟩
theorem cellsO : Try.prog.cellsOf 35 = 6 := by kernel_rfl
theorem cellsS : Try.prog.cellsOf 9 = 1 := by kernel_rfl
theorem bytesO : Try.prog.bytesOf 35 = 56 := by kernel_rfl
theorem list4 {α : Type} {cs : List α} (h : cs.length = 4) : ∃ c0 c1 c2 c3, cs = [c0, c1, c2, c3] := by
  match cs, h with
  | [c0, c1, c2, c3], _ => exact ⟨c0, c1, c2, c3, rfl⟩
theorem list6 {α : Type} {cs : List α} (h : cs.length = 6) : ∃ c0 c1 c2 c3 c4 c5, cs = [c0, c1, c2, c3, c4, c5] := by
  match cs, h with
  | [c0, c1, c2, c3, c4, c5], _ => exact ⟨c0, c1, c2, c3, c4, c5, rfl⟩

theorem mem_all {H : Type} {P : Program} {e : TypeId} {d : DataW H} {x : Nat} (hx : x ∈ d.weights P e) : ∀ {l : List (DataW H)}, d ∈ l → x ∈ DataW.weightsAll P e l
  | [], h => by cases h
  | y :: l, h => by
    unfold DataW.weightsAll
    rcases List.mem_cons.1 h with rfl | h
    · exact List.mem_append_left _ hx
    · exact List.mem_append_right _ (mem_all hx h)

section
variable {H : Type} {enc : TypeId × Value → H} {W : World} {base : Nat} {spare : Nat → Bool} {held : Bool}

set_option maxRecDepth 100000 in
/-- One step's cells. -/
theorem op_cells {fuel : Nat} {cs : List Value} {x : DataW H × List MemPlace} (hl : cs.length = 6) (h : DataW.trod enc Try.prog W base spare held fuel 35 cs = some x) : ∃ o : M.KOp, cs = opL o ∧ o.s.size ∈ x.1.weights Try.prog 35 := by
  obtain ⟨c0, c1, c2, c3, c4, c5, rfl⟩ := list6 hl
  obtain ⟨xs, n, hx1, hx2, hx3, hlen, hx⟩ := DataW.trod_struct Try.underlying35 h
  obtain ⟨y0, y1, y2, y3, rfl⟩ := list4 hlen
  have h0 := hx 0 _ rfl
  have h1 := hx 1 _ rfl
  have h2 := hx 2 _ rfl
  have h3 := hx 3 _ rfl
  clear hx h
  obtain ⟨a, e0, _, _⟩ := DataW.trod_int Try.underlying3 h0
  obtain ⟨b, e1, _, _⟩ := DataW.trod_int Try.underlying3 h1
  obtain ⟨q, e2⟩ := point_cells h2
  obtain ⟨z, e3, x3, _⟩ := DataW.trod_string Try.underlying9 h3
  simp [cellsI] at e0
  simp [cellsI] at e1
  simp [cellsP] at e2
  simp [cellsS] at e3
  obtain ⟨e20, e21, e22⟩ := e2
  refine ⟨⟨a, b, q, z⟩, by unfold opL; rw [e0, e1, e20, e21, e22, e3], ?_⟩
  rw [hx2, x3]
  simp [DataW.weights, DataW.weightsEach, Try.underlying35]

/-- A list of steps. -/
theorem open_ops {fuel : Nat} {cs : List Value} {x : DataW H × List MemPlace} (h : DataW.trod enc Try.prog W base (fun _ => true) held fuel 22 cs = some x) :
    (cs = [.slice none 0 0] ∧ x = (.nil, [])) ∨
    ∃ (a : Addr) (len cap : Nat) (os : Nat → M.KOp) (el sp : List (DataW H)), cs = [.slice (some a) len cap] ∧ x.1 = .slice el sp ∧ el.length = len ∧ KRow W a len os ∧ ∀ i, i < len → (os i).s.size ∈ DataW.weightsAll Try.prog 35 el := by
  rcases open_slice Try.underlying22 h with h0 | ⟨a, len, cap, m, n, D, Pl, rfl, hb, hl, hm, hmm, rfl, hx⟩
  · exact Or.inl h0
  right
  have hlm : len ≤ m := by rw [hmm]; split <;> omega
  have each : ∀ i, i < len → ∃ o : M.KOp, (∀ j v, (opL o)[j]? = some v → W.cell? ((a.add (i * 6)).add j) = some v) ∧ o.s.size ∈ (D i).weights Try.prog 35 := fun i hi => by
    obtain ⟨cs', h1, h2⟩ := hx i (by omega)
    rw [cellsO] at h1
    obtain ⟨_, hlen, hcell⟩ := World.cells?_some h1
    obtain ⟨o, rfl, hw⟩ := op_cells hlen h2
    refine ⟨o, fun j v hv => ?_, hw⟩
    have hj : j < 6 := by
      have := (List.getElem?_eq_some_iff.1 hv).1
      simpa [opL] using this
    rw [hcell j hj]; exact hv
  obtain ⟨os, hos⟩ := choose_lt (α := M.KOp) (p := fun i o => (∀ j v, (opL o)[j]? = some v → W.cell? ((a.add (i * 6)).add j) = some v) ∧ o.s.size ∈ (D i).weights Try.prog 35) each
  refine ⟨a, len, cap, os, (List.range len).map D, _, rfl, rfl, by simp, fun i hi => (hos i hi).1, fun i hi => mem_all (hos i hi).2 (List.mem_map.2 ⟨i, List.mem_range.2 hi, rfl⟩)⟩

end
end Go.Proofs.Ytonmihojfcjmjab.Opn
