import Derived.Test.YtonmihojfcjmjabPk5
import Derived.Test.YtonmihojfcjmjabByt
import Derived.Test.YtonmihojfcjmjabBK
/- '[]byte(s)': a block of bytes. -/
namespace Go.Proofs.Ytonmihojfcjmjab
open Go.RowKit
set_option linter.unusedVariables false
attribute [local go_sem] cell_set_off cell_set_blk

/-- Block b holds the bytes l (and may hold more). -/
structure BB (W : World) (b : Nat) (l : List UInt8) : Prop where
  cell : ∀ i (h : i < l.length), W.cell? ⟨b, i, none⟩ = some (.int .u8 (l[i].toNat : Int))
  free : ∀ i, i < l.length → W.frozen? ⟨b, i, none⟩ = false
  lt : b < W.heap.size

theorem BB.of {W W' : World} {b : Nat} {l : List UInt8} (h : BB W b l) (e : W'.heap[b]? = W.heap[b]?) (hl : b < W'.heap.size) : BB W' b l :=
  ⟨fun i hi => (World.cell?_of_block (a := ⟨b, i, none⟩) e).trans (h.cell i hi), fun i hi => (World.frozen?_of_block (a := ⟨b, i, none⟩) e).trans (h.free i hi), hl⟩
theorem BB.after {W W' : World} {b : Nat} {l : List UInt8} (h : BB W b l) (hb : Below W.heap.size W W') : BB W' b l := h.of (hb.block b h.lt) (by have := hb.size; have := h.lt; omega)
theorem BB.alloc {W : World} {b : Nat} {l : List UInt8} {o : Obj} (h : BB W b l) : BB (W.alloc o) b l := h.of (Below.heap_alloc _ _ _ h.lt) (by have := h.lt; simp; omega)
theorem BB.drew {W : World} {b : Nat} {l : List UInt8} (h : BB W b l) : BB W.drew b l := h.of rfl h.lt
theorem BB.set {W : World} {b : Nat} {l : List UInt8} (h : BB W b l) (j : Nat) (hj : j < l.length) (x : UInt8) : BB (W.setCell ⟨b, j, none⟩ (.int .u8 (x.toNat : Int))) b (l.set j x) := by
  refine ⟨fun i hi => ?_, fun i hi => ?_, by simpa using h.lt⟩
  · have hi' : i < l.length := by simpa using hi
    by_cases e : j = i
    · subst e
      rw [World.cell?_setCell_same _ _ _ (by rw [h.cell j hj])]
      simp
    · rw [cell_set_off _ _ _ _ _ e, h.cell i hi', List.getElem_set_ne e]
  · have hi' : i < l.length := by simpa using hi
    rw [World.frozen?_setCell]
    exact h.free i hi'

theorem BB.conv {W : World} {b : Nat} {l : List UInt8} (h : BB W b l) (n cap : Nat) (hn : n ≤ l.length) : (convert 97 9 (.slice (some ⟨b, 0, none⟩) n cap)).run Try.prog W = .ok (.string ⟨(l.take n).toArray⟩) W := by
  have e : (l.take n).length = n := by simp; omega
  have := run_convert_bytes_back (P := Try.prog) W 97 9 5 ⟨b, 0, none⟩ cap (l.take n) Try.underlying97 Try.underlying5 Try.underlying9 (fun j hj => by
    have hj' : j < l.length := by simp at hj; omega
    have := h.cell j hj'
    by_cases h0 : j = 0
    · subst h0; simpa [Addr.add] using this
    · simpa [Addr.add, h0] using this)
  rw [e] at this
  exact this

theorem bytesRow_at (s : ByteArray) (cap i : Nat) (h : i < s.data.toList.length) : (bytesRow s cap)[i]? = some (.int .u8 (s.data.toList[i].toNat : Int)) := by
  have h' : i < s.data.size := by simpa using h
  unfold bytesRow
  rw [Array.getElem?_append_left (by simpa using h')]
  simp
  exact ⟨s.data[i], by rw [Array.getElem?_eq_getElem h'], rfl⟩

/-- '[]byte(s)'. -/
theorem BB.made (w : World) (s : ByteArray) (cap : Nat) : BB (w.drew.alloc (.cells (bytesRow s cap) 5 ((bytesRow s cap).size, (bytesRow s cap).size + 1))) w.heap.size s.data.toList := by
  have e : (w.drew.alloc (.cells (bytesRow s cap) 5 ((bytesRow s cap).size, (bytesRow s cap).size + 1))).heap[w.heap.size]? = some (.cells (bytesRow s cap) 5 ((bytesRow s cap).size, (bytesRow s cap).size + 1)) := heap_alloc_new w.drew _
  refine ⟨fun i hi => ?_, fun i hi => ?_, by simp⟩
  · simp only [World.cell?, e]
    exact bytesRow_at s cap i hi
  · have hs : i < (bytesRow s cap).size := by
      have := bytesRow_at s cap i hi
      exact (Array.getElem?_eq_some_iff.1 this).1
    simp only [World.frozen?, e]
    simp
    omega

/-- '[]byte(s)', its world under a letter. -/
theorem bytes_of (W : World) (P : ByteArray) (hp : P.size = 14) : ∃ (cap : Nat) (W6 : World), (convert 9 97 (.string P)).run Try.prog W = .ok (.slice (some ⟨W.heap.size, 0, none⟩) 14 cap) W6 ∧ BB W6 W.heap.size P.data.toList ∧ Below W.heap.size W W6 ∧ 14 ≤ cap ∧ cap ≤ maxLen := by
  refine ⟨grownCap W P.size 0 5, _, ?_, BB.made W P (grownCap W P.size 0 5), by go_grown, ?_, ?_⟩
  · rw [run_bytes_of_string W 9 97 5 P Try.underlying9 Try.underlying97 Try.underlying5, hp]
  · have := grownCap_ge W P.size 0 5; omega
  · exact grownCap_le_maxLen W P.size 0 5 (by rw [hp]; decide)

end Go.Proofs.Ytonmihojfcjmjab
