import Derived.Test.YtonmihojfcjmjaaGreatRows
import Derived.Test.YtonmihojfcjmjaaGreatBM
import Derived.ProofKit
import Derived.OpenShut
import Derived.ShutString
import Derived.ChangeOld
import Derived.Below
import Derived.Lib.SmallJoins
import Derived.Test.YtonmihojfcjmjaaGreatBE6
import Derived.Deep.Slices
import Derived.SizedLaws
/- What comes in: points, commands and records, opened. -/
namespace Go.Proofs.YtonmihojfcjmjaaGreat.Opn
open Go.ChangeShapes Go.WideShapes Go.ChangeAt Go.RowKit Go.Joins
open Go.ChangeMaps (open_string shut_string)
set_option linter.unusedVariables false

theorem own : ownKnob Tryz.prog.godebug = none := by kernel_rfl
theorem laidOut : laidOutB Tryz.prog = true := by kernel_rfl
theorem cellsI : Tryz.prog.cellsOf 3 = 1 := by kernel_rfl
theorem cellsB : Tryz.prog.cellsOf 4 = 1 := by kernel_rfl
theorem cellsP : Tryz.prog.cellsOf 27 = 3 := by kernel_rfl
theorem cellsC : Tryz.prog.cellsOf 50 = 9 := by kernel_rfl
theorem cellsR : Tryz.prog.cellsOf 53 = 4 := by kernel_rfl

theorem list3 {α : Type} {cs : List α} (h : cs.length = 3) : ∃ c0 c1 c2, cs = [c0, c1, c2] := by
  match cs, h with
  | [c0, c1, c2], _ => exact ⟨c0, c1, c2, rfl⟩
theorem list5 {α : Type} {cs : List α} (h : cs.length = 5) : ∃ c0 c1 c2 c3 c4, cs = [c0, c1, c2, c3, c4] := by
  match cs, h with
  | [c0, c1, c2, c3, c4], _ => exact ⟨c0, c1, c2, c3, c4, rfl⟩
theorem array9 {α : Type} {cs : Array α} (h : cs.size = 9) : ∃ c0 c1 c2 c3 c4 c5 c6 c7 c8, cs = #[c0, c1, c2, c3, c4, c5, c6, c7, c8] := by
  obtain ⟨l⟩ := cs
  match l, h with
  | [c0, c1, c2, c3, c4, c5, c6, c7, c8], _ => exact ⟨c0, c1, c2, c3, c4, c5, c6, c7, c8, rfl⟩

section
variable {H : Type} {enc : TypeId × Value → H} {W : World} {base : Nat} {spare : Nat → Bool} {held : Bool}

set_option maxRecDepth 100000 in
/-- A point's cells. -/
theorem point_cells {fuel : Nat} {cs : List Value} {x : DataW H × List MemPlace} (h : DataW.trod enc Tryz.prog W base spare held fuel 27 cs = some x) : ∃ q : M.V3, cs = [.int .i64 q.x, .int .i64 q.y, .int .i64 q.z] := by
  obtain ⟨y0, y1, y2, n, rfl, hl, h0, h1, h2⟩ := Go.Deep.trod_struct3 Tryz.underlying27 h
  rw [cellsP] at hl
  obtain ⟨c0, c1, c2, rfl⟩ := list3 hl
  rw [cellsI] at h0 h1 h2
  obtain ⟨a, e0, _, _⟩ := DataW.trod_int Tryz.underlying3 h0
  obtain ⟨b, e1, _, _⟩ := DataW.trod_int Tryz.underlying3 h1
  obtain ⟨c, e2, _, _⟩ := DataW.trod_int Tryz.underlying3 h2
  simp at e0 e1 e2
  exact ⟨⟨a, b, c⟩, by rw [e0, e1, e2]⟩

set_option maxRecDepth 100000 in
/-- A command that came in. -/
theorem open_cmd {r : Reach} {b0 : Nat} {v : Value} {d : DataW H} {p : List MemPlace} (hv : Value.okWide Tryz.prog W r b0 50 v) (h : DataW.Trod enc Tryz.prog W base spare held 50 v d p) : ∃ c : M.Cmd, v = .agg #[.int .i64 c.seq, .bool c.fire, .int .i64 c.mv.x, .int .i64 c.mv.y, .int .i64 c.mv.z, .int .i64 c.aim.x, .int .i64 c.aim.y, .int .i64 c.aim.z, .int .i64 c.time] := by
  obtain ⟨cs, rfl, hsz⟩ := okWide_struct Tryz.underlying50 hv
  obtain ⟨c0, c1, c2, c3, c4, c5, c6, c7, c8, rfl⟩ := array9 (hsz.trans cellsC)
  obtain ⟨fuel, hf⟩ := h
  obtain ⟨xs, n, _, _, _, hlen, hx⟩ := DataW.trod_struct Tryz.underlying50 hf
  obtain ⟨y0, y1, y2, y3, y4, rfl⟩ := list5 hlen
  have h0 := hx 0 _ rfl
  have h1 := hx 1 _ rfl
  have h2 := hx 2 _ rfl
  have h3 := hx 3 _ rfl
  have h4 := hx 4 _ rfl
  clear hx hf
  simp only [Value.cells] at h0 h1 h2 h3 h4
  obtain ⟨a, e0, _, _⟩ := DataW.trod_int Tryz.underlying3 h0
  obtain ⟨b, e1, _⟩ := DataW.trod_bool Tryz.underlying4 h1
  obtain ⟨q2, e2⟩ := point_cells h2
  obtain ⟨q3, e3⟩ := point_cells h3
  obtain ⟨e, e4, _, _⟩ := DataW.trod_int Tryz.underlying3 h4
  simp [cellsI] at e0
  simp [cellsB] at e1
  simp [cellsP] at e2
  simp [cellsP] at e3
  simp [cellsI] at e4
  obtain ⟨e20, e21, e22⟩ := e2
  obtain ⟨e30, e31, e32⟩ := e3
  exact ⟨⟨a, b, q2, q3, e⟩, by rw [e0, e1, e20, e21, e22, e30, e31, e32, e4]⟩

end
end Go.Proofs.YtonmihojfcjmjaaGreat.Opn

/- What comes in: a list of the great statements' steps, opened. -/
namespace Go.Proofs.YtonmihojfcjmjaaGreat.Opn
open Go.ChangeShapes Go.WideShapes Go.ChangeAt Go.RowKit Go.Joins Go.Deep
open Go.ChangeMaps (open_string shut_string)
set_option linter.unusedVariables false

instance : Inhabited M.LOp := ⟨⟨0, 0, 0, ⟨0, 0, 0⟩, ByteArray.empty⟩⟩
theorem cellsL : Tryz.prog.cellsOf 29 = 7 := by kernel_rfl
theorem cellsS : Tryz.prog.cellsOf 9 = 1 := by kernel_rfl
theorem bytesL : Tryz.prog.bytesOf 29 = 64 := by kernel_rfl
theorem list5' {α : Type} {cs : List α} (h : cs.length = 5) : ∃ c0 c1 c2 c3 c4, cs = [c0, c1, c2, c3, c4] := by
  match cs, h with
  | [c0, c1, c2, c3, c4], _ => exact ⟨c0, c1, c2, c3, c4, rfl⟩
theorem list7 {α : Type} {cs : List α} (h : cs.length = 7) : ∃ c0 c1 c2 c3 c4 c5 c6, cs = [c0, c1, c2, c3, c4, c5, c6] := by
  match cs, h with
  | [c0, c1, c2, c3, c4, c5, c6], _ => exact ⟨c0, c1, c2, c3, c4, c5, c6, rfl⟩
theorem mem_all {H : Type} {P : Program} {e : TypeId} {d : DataW H} {x : Nat} (hx : x ∈ d.weights P e) : ∀ {l : List (DataW H)}, d ∈ l → x ∈ DataW.weightsAll P e l
  | [], h => by cases h
  | y :: l, h => by
    unfold DataW.weightsAll
    rcases List.mem_cons.1 h with rfl | h
    · exact List.mem_append_left _ hx
    · exact List.mem_append_right _ (mem_all hx h)

section
variable {H : Type} {enc : TypeId × Value → H} {W : World} {base : Nat} {spare : Nat → Bool} {held : Bool}

set_option maxRecDepth 100000 in
/-- One step's cells. -/
theorem lop_cells {fuel : Nat} {cs : List Value} {x : DataW H × List MemPlace} (hl : cs.length = 7) (h : DataW.trod enc Tryz.prog W base spare held fuel 29 cs = some x) : ∃ o : M.LOp, cs = lopL o ∧ o.s.size ∈ x.1.weights Tryz.prog 29 ∧ -9223372036854775808 ≤ o.a ∧ o.a ≤ 9223372036854775807 := by
  obtain ⟨c0, c1, c2, c3, c4, c5, c6, rfl⟩ := list7 hl
  obtain ⟨xs, n, hx1, hx2, hx3, hlen, hx⟩ := DataW.trod_struct Tryz.underlying29 h
  obtain ⟨y0, y1, y2, y3, y4, rfl⟩ := list5' hlen
  have h0 := hx 0 _ rfl
  have h1 := hx 1 _ rfl
  have h2 := hx 2 _ rfl
  have h3 := hx 3 _ rfl
  have h4 := hx 4 _ rfl
  clear hx h
  obtain ⟨k, e0, _, _⟩ := DataW.trod_int Tryz.underlying3 h0
  obtain ⟨a, e1, _, wf⟩ := DataW.trod_int Tryz.underlying3 h1
  obtain ⟨b, e2, _, _⟩ := DataW.trod_int Tryz.underlying3 h2
  obtain ⟨q, e3⟩ := point_cells h3
  obtain ⟨z, e4, x4, _⟩ := DataW.trod_string Tryz.underlying9 h4
  simp [cellsI] at e0
  simp [cellsI] at e1
  simp [cellsI] at e2
  simp [cellsP] at e3
  simp [cellsS] at e4
  obtain ⟨e30, e31, e32⟩ := e3
  refine ⟨⟨k, a, b, q, z⟩, by unfold lopL; rw [e0, e1, e2, e30, e31, e32, e4], ?_, bounds_i64 wf⟩
  rw [hx2, x4]
  simp [DataW.weights, DataW.weightsEach, Tryz.underlying29]

/-- A list of steps. -/
theorem open_lops {fuel : Nat} {cs : List Value} {x : DataW H × List MemPlace} (h : DataW.trod enc Tryz.prog W base (fun _ => true) held fuel 22 cs = some x) :
    (cs = [.slice none 0 0] ∧ x = (.nil, [])) ∨
    ∃ (a : Addr) (len cap : Nat) (os : Nat → M.LOp) (el sp : List (DataW H)), cs = [.slice (some a) len cap] ∧ x.1 = .slice el sp ∧ el.length = len ∧ LRow W a len os ∧ (∀ i, i < len → (os i).s.size ∈ DataW.weightsAll Tryz.prog 29 el) ∧ ∀ i, i < len → -9223372036854775808 ≤ (os i).a ∧ (os i).a ≤ 9223372036854775807 := by
  rcases open_slice Tryz.underlying22 h with h0 | ⟨a, len, cap, m, n, D, Pl, rfl, hb, hl, hm, hmm, rfl, hx⟩
  · exact Or.inl h0
  right
  have hlm : len ≤ m := by rw [hmm]; split <;> omega
  have each : ∀ i, i < len → ∃ o : M.LOp, (∀ j v, (lopL o)[j]? = some v → W.cell? ((a.add (i * 7)).add j) = some v) ∧ o.s.size ∈ (D i).weights Tryz.prog 29 ∧ -9223372036854775808 ≤ o.a ∧ o.a ≤ 9223372036854775807 := fun i hi => by
    obtain ⟨cs', h1, h2⟩ := hx i (by omega)
    rw [cellsL] at h1
    obtain ⟨_, hlen, hcell⟩ := World.cells?_some h1
    obtain ⟨o, rfl, hw⟩ := lop_cells hlen h2
    refine ⟨o, fun j v hv => ?_, hw⟩
    have hj : j < 7 := by
      have := (List.getElem?_eq_some_iff.1 hv).1
      simpa [lopL] using this
    rw [hcell j hj]; exact hv
  obtain ⟨os, hos⟩ := choose_lt (α := M.LOp) (p := fun i o => (∀ j v, (lopL o)[j]? = some v → W.cell? ((a.add (i * 7)).add j) = some v) ∧ o.s.size ∈ (D i).weights Tryz.prog 29 ∧ -9223372036854775808 ≤ o.a ∧ o.a ≤ 9223372036854775807) each
  refine ⟨a, len, cap, os, (List.range len).map D, _, rfl, rfl, by simp, fun i hi => (hos i hi).1, fun i hi => mem_all (hos i hi).2.1 (List.mem_map.2 ⟨i, List.mem_range.2 hi, rfl⟩), fun i hi => (hos i hi).2.2⟩

end
end Go.Proofs.YtonmihojfcjmjaaGreat.Opn
