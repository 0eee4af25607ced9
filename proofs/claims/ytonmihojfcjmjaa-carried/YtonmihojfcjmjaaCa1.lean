/- Carried: what its walk stands on. -/
import Derived.Test.YtonmihojfcjmjaaCarM
import Derived.Test.YtonmihojfcjmjaaKeep
namespace Go.Proofs.Ytonmihojfcjmjaa
open Go.RowKit
set_option linter.unusedVariables false
attribute [local go_sem] cell_set_off cell_set_blk

theorem pick_neg {c n : Int} (h : c < 0) (hn : 0 < n) : 0 ≤ -(c + 1).tmod n ∧ -(c + 1).tmod n < n := by
  have e : -(c + 1).tmod n = (-(c + 1)) % n := by rw [← Int.neg_tmod, Int.tmod_eq_emod_of_nonneg (by omega)]
  rw [e]
  exact ⟨Int.emod_nonneg _ (by omega), Int.emod_lt_of_pos _ hn⟩

set_option maxHeartbeats 1000000 in
theorem pick14_any (c : Int) (w : World) (h1 : -9223372036854775808 ≤ c) (h2 : c ≤ 9223372036854775807) :
    Calls Try.prog 22 #[.int .i64 c, .int .i64 14] w fun e w' => (∃ j : Nat, e = .returned (.int .i64 j) ∧ j < 14) ∧ w' = w := by
  by_cases h : c < 0
  · go_enter Try.func22, Try.ntmps22
    go_wp2
    go_ret
    have := pick_neg (n := 14) h (by omega)
    exact ⟨⟨(-(c + 1).tmod 14).toNat, ret_int (by omega), by omega⟩, rfl⟩
  · go_enter Try.func22, Try.ntmps22
    go_wp2
    go_ret
    exact ⟨⟨(c % 14).toNat, ret_int (by omega), by omega⟩, rfl⟩

/-- What pick(v, 255) is. -/
def M.pk255 (v : Int) : Int := if v < 0 then -(v + 1).tmod 255 else v % 255
theorem M.pk255_bd (v : Int) : 0 ≤ M.pk255 v ∧ M.pk255 v ≤ 254 := by
  unfold M.pk255
  split
  · rename_i h
    have := pick_neg (n := 255) h (by omega)
    omega
  · omega

set_option maxHeartbeats 1000000 in
theorem pick255_is (c : Int) (w : World) (h1 : -9223372036854775808 ≤ c) (h2 : c ≤ 9223372036854775807) :
    Calls Try.prog 22 #[.int .i64 c, .int .i64 255] w fun e w' => e = .returned (.int .i64 (M.pk255 c)) ∧ w' = w := by
  by_cases h : c < 0
  · have e : M.pk255 c = -(c + 1).tmod 255 := by unfold M.pk255; rw [if_pos h]
    rw [e]
    clear e
    go_enter Try.func22, Try.ntmps22
    go_wp2
    go_ret
    exact ⟨rfl, rfl⟩
  · have e : M.pk255 c = c % 255 := by unfold M.pk255; rw [if_neg h]
    rw [e]
    clear e
    go_enter Try.func22, Try.ntmps22
    go_wp2
    go_ret
    exact ⟨rfl, rfl⟩

/-- Block b holds the bytes l (and may hold more). -/
structure BB (W : World) (b : Nat) (l : List UInt8) : Prop where
  cell : ∀ i (h : i < l.length), W.cell? ⟨b, i, none⟩ = some (.int .u8 (l[i].toNat : Int))
  free : ∀ i, i < l.length → W.frozen? ⟨b, i, none⟩ = false
  lt : b < W.heap.size

theorem BB.of {W W' : World} {b : Nat} {l : List UInt8} (h : BB W b l) (e : W'.heap[b]? = W.heap[b]?) (hl : b < W'.heap.size) : BB W' b l :=
  ⟨fun i hi => (World.cell?_of_block (a := ⟨b, i, none⟩) e).trans (h.cell i hi), fun i hi => (World.frozen?_of_block (a := ⟨b, i, none⟩) e).trans (h.free i hi), hl⟩
theorem BB.after {W W' : World} {b : Nat} {l : List UInt8} (h : BB W b l) (hb : Below W.heap.size W W') : BB W' b l := h.of (hb.block b h.lt) (by have := hb.size; have := h.lt; omega)
theorem BB.alloc {W : World} {b : Nat} {l : List UInt8} {o : Obj} (h : BB W b l) : BB (W.alloc o) b l := h.of (Below.heap_alloc _ _ _ h.lt) (by have := h.lt; simp; omega)
theorem BB.drew {W : World} {b : Nat} {l : List UInt8} (h : BB W b l) : BB W.drew b l := h.of rfl h.lt
theorem BB.set {W : World} {b : Nat} {l : List UInt8} (h : BB W b l) (j : Nat) (hj : j < l.length) (x : UInt8) : BB (W.setCell ⟨b, j, none⟩ (.int .u8 (x.toNat : Int))) b (l.set j x) := by
  refine ⟨fun i hi => ?_, fun i hi => ?_, by simpa using h.lt⟩
  · have hi' : i < l.length := by simpa using hi
    by_cases e : j = i
    · subst e
      rw [World.cell?_setCell_same _ _ _ (by rw [h.cell j hj])]
      simp
    · rw [cell_set_off _ _ _ _ _ e, h.cell i hi', List.getElem_set_ne e]
  · have hi' : i < l.length := by simpa using hi
    rw [World.frozen?_setCell]
    exact h.free i hi'

theorem BB.conv {W : World} {b : Nat} {l : List UInt8} (h : BB W b l) (n cap : Nat) (hn : n ≤ l.length) : (convert 56 9 (.slice (some ⟨b, 0, none⟩) n cap)).run Try.prog W = .ok (.string ⟨(l.take n).toArray⟩) W := by
  have e : (l.take n).length = n := by simp; omega
  have := run_convert_bytes_back (P := Try.prog) W 56 9 5 ⟨b, 0, none⟩ cap (l.take n) Try.underlying56 Try.underlying5 Try.underlying9 (fun j hj => by
    have hj' : j < l.length := by simp at hj; omega
    have := h.cell j hj'
    by_cases h0 : j = 0
    · subst h0; simpa [Addr.add] using this
    · simpa [Addr.add, h0] using this)
  rw [e] at this
  exact this

theorem bytesRow_at (s : ByteArray) (cap i : Nat) (h : i < s.data.toList.length) : (bytesRow s cap)[i]? = some (.int .u8 (s.data.toList[i].toNat : Int)) := by
  have h' : i < s.data.size := by simpa using h
  unfold bytesRow
  rw [Array.getElem?_append_left (by simpa using h')]
  simp
  exact ⟨s.data[i], by rw [Array.getElem?_eq_getElem h'], rfl⟩

/-- '[]byte(s)'. -/
theorem BB.made (w : World) (s : ByteArray) (cap : Nat) : BB (w.drew.alloc (.cells (bytesRow s cap) 5 ((bytesRow s cap).size, (bytesRow s cap).size + 1))) w.heap.size s.data.toList := by
  have e : (w.drew.alloc (.cells (bytesRow s cap) 5 ((bytesRow s cap).size, (bytesRow s cap).size + 1))).heap[w.heap.size]? = some (.cells (bytesRow s cap) 5 ((bytesRow s cap).size, (bytesRow s cap).size + 1)) := heap_alloc_new w.drew _
  refine ⟨fun i hi => ?_, fun i hi => ?_, by simp⟩
  · simp only [World.cell?, e]
    exact bytesRow_at s cap i hi
  · have hs : i < (bytesRow s cap).size := by
      have := bytesRow_at s cap i hi
      exact (Array.getElem?_eq_some_iff.1 this).1
    simp only [World.frozen?, e]
    simp
    omega

end Go.Proofs.Ytonmihojfcjmjaa
