import Derived.Test.YtonmihojfcjmjaaGreatBPl
import Derived.Test.YtonmihojfcjmjaaGreatBPk
import Derived.Test.YtonmihojfcjmjaaGreatBK
import Derived.Test.YtonmihojfcjmjaaGreatBPr
import Derived.Test.YtonmihojfcjmjaaGreatBDb
/- '[]byte(s)': a block of bytes. -/
namespace Go.Proofs.YtonmihojfcjmjaaGreat
open Go.RowKit
set_option linter.unusedVariables false
attribute [local go_sem] cell_set_off cell_set_blk

/-- Block b holds the bytes l (and may hold more). -/
structure BB (W : World) (b : Nat) (l : List UInt8) : Prop where
  cell : ∀ i (h : i < l.length), W.cell? ⟨b, i, none⟩ = some (.int .u8 (l[i].toNat : Int))
  free : ∀ i, i < l.length → W.frozen? ⟨b, i, none⟩ = false
  lt : b < W.heap.size

theorem BB.of {W W' : World} {b : Nat} {l : List UInt8} (h : BB W b l) (e : W'.heap[b]? = W.heap[b]?) (hl : b < W'.heap.size) : BB W' b l :=
  ⟨fun i hi => (World.cell?_of_block (a := ⟨b, i, none⟩) e).trans (h.cell i hi), fun i hi => (World.frozen?_of_block (a := ⟨b, i, none⟩) e).trans (h.free i hi), hl⟩
theorem BB.after {W W' : World} {b : Nat} {l : List UInt8} (h : BB W b l) (hb : Below W.heap.size W W') : BB W' b l := h.of (hb.block b h.lt) (by have := hb.size; have := h.lt; omega)
theorem BB.alloc {W : World} {b : Nat} {l : List UInt8} {o : Obj} (h : BB W b l) : BB (W.alloc o) b l := h.of (Below.heap_alloc _ _ _ h.lt) (by have := h.lt; simp; omega)
theorem BB.drew {W : World} {b : Nat} {l : List UInt8} (h : BB W b l) : BB W.drew b l := h.of rfl h.lt
theorem BB.set {W : World} {b : Nat} {l : List UInt8} (h : BB W b l) (j : Nat) (hj : j < l.length) (x : UInt8) : BB (W.setCell ⟨b, j, none⟩ (.int .u8 (x.toNat : Int))) b (l.set j x) := by
  refine ⟨fun i hi => ?_, fun i hi => ?_, by simpa using h.lt⟩
  · have hi' : i < l.length := by simpa using hi
    by_cases e : j = i
    · subst e
      rw [World.cell?_setCell_same _ _ _ (by rw [h.cell j hj])]
      simp
    · rw [cell_set_off _ _ _ _ _ e, h.cell i hi', List.getElem_set_ne e]
  · have hi' : i < l.length := by simpa using hi
    rw [World.frozen?_setCell]
    exact h.free i hi'

theorem BB.conv {W : World} {b : Nat} {l : List UInt8} (h : BB W b l) (n cap : Nat) (hn : n ≤ l.length) : (convert 79 9 (.slice (some ⟨b, 0, none⟩) n cap)).run Tryz.prog W = .ok (.string ⟨(l.take n).toArray⟩) W := by
  have e : (l.take n).length = n := by simp; omega
  have := run_convert_bytes_back (P := Tryz.prog) W 79 9 5 ⟨b, 0, none⟩ cap (l.take n) Tryz.underlying79 Tryz.underlying5 Tryz.underlying9 (fun j hj => by
    have hj' : j < l.length := by simp at hj; omega
    have := h.cell j hj'
    by_cases h0 : j = 0
    · subst h0; simpa [Addr.add] using this
    · simpa [Addr.add, h0] using this)
  rw [e] at this
  exact this

theorem bytesRow_at (s : ByteArray) (cap i : Nat) (h : i < s.data.toList.length) : (bytesRow s cap)[i]? = some (.int .u8 (s.data.toList[i].toNat : Int)) := by
  have h' : i < s.data.size := by simpa using h
  unfold bytesRow
  rw [Array.getElem?_append_left (by simpa using h')]
  simp
  exact ⟨s.data[i], by rw [Array.getElem?_eq_getElem h'], rfl⟩

/-- '[]byte(s)'. -/
theorem BB.made (w : World) (s : ByteArray) (cap : Nat) : BB (w.drew.alloc (.cells (bytesRow s cap) 5 ((bytesRow s cap).size, (bytesRow s cap).size + 1))) w.heap.size s.data.toList := by
  have e : (w.drew.alloc (.cells (bytesRow s cap) 5 ((bytesRow s cap).size, (bytesRow s cap).size + 1))).heap[w.heap.size]? = some (.cells (bytesRow s cap) 5 ((bytesRow s cap).size, (bytesRow s cap).size + 1)) := heap_alloc_new w.drew _
  refine ⟨fun i hi => ?_, fun i hi => ?_, by simp⟩
  · simp only [World.cell?, e]
    exact bytesRow_at s cap i hi
  · have hs : i < (bytesRow s cap).size := by
      have := bytesRow_at s cap i hi
      exact (Array.getElem?_eq_some_iff.1 this).1
    simp only [World.frozen?, e]
    simp
    omega

/-- '[]byte(s)', its world under a letter. -/
theorem bytes_of (W : World) (P : ByteArray) (hp : P.size = 14) : ∃ (cap : Nat) (W6 : World), (convert 9 79 (.string P)).run Tryz.prog W = .ok (.slice (some ⟨W.heap.size, 0, none⟩) 14 cap) W6 ∧ BB W6 W.heap.size P.data.toList ∧ Below W.heap.size W W6 ∧ 14 ≤ cap ∧ cap ≤ maxLen := by
  refine ⟨grownCap W P.size 0 5, _, ?_, BB.made W P (grownCap W P.size 0 5), by go_grown, ?_, ?_⟩
  · rw [run_bytes_of_string W 9 79 5 P Tryz.underlying9 Tryz.underlying79 Tryz.underlying5, hp]
  · have := grownCap_ge W P.size 0 5; omega
  · exact grownCap_le_maxLen W P.size 0 5 (by rw [hp]; decide)

end Go.Proofs.YtonmihojfcjmjaaGreat

/- Contracts of the great statements' helpers: calm, pick; the calls of no server. -/
namespace Go.Proofs.YtonmihojfcjmjaaGreat
open Go.RowKit
set_option linter.unusedVariables false
attribute [local go_sem] cell_set_off cell_set_blk

theorem M.decR_fire (p : ByteArray) (h : M.okB p = true → M.byteAt p 3 ≠ 1) : (M.decR p).fire = false := by
  unfold M.decR
  split
  · rename_i e
    show decide (M.byteAt p 3 = 1) = false
    exact decide_eq_false (h e)
  · rfl

/-- What calm gives back. -/
def CalmPost (p : ByteArray) (w : World) (e : Ending) (w' : World) : Prop := (∃ q : ByteArray, e = .returned (.string q) ∧ q.size = p.size ∧ (M.decR q).fire = false) ∧ Below w.heap.size w w'

set_option maxRecDepth 100000 in
set_option maxHeartbeats 2000000 in
theorem lcalm_any (p : ByteArray) (w : World) (hs : p.size ≤ maxLen) : Calls Tryz.prog 9 #[.string p] w (CalmPost p w) := by
  by_cases h14 : p.size = 14
  · obtain ⟨b0, b1, b2, b3, b4, b5, b6, b7, b8, b9, b10, b11, b12, b13, rfl⟩ := M.str14 p h14
    clear h14 hs
    by_cases h3 : b3 = 1
    · subst h3
      obtain ⟨cap, W6, hconv, hBB, hB6, cap1, cap2⟩ := bytes_of w ⟨#[b0, b1, b2, 1, b4, b5, b6, b7, b8, b9, b10, b11, b12, b13]⟩ rfl
      have c3 : W6.cell? ⟨w.heap.size, 3, none⟩ = some (.int .u8 1) := hBB.cell 3 (by show 3 < 14; decide)
      have c13 : W6.cell? ⟨w.heap.size, 13, none⟩ = some (.int .u8 (b13.toNat : Int)) := hBB.cell 13 (by show 13 < 14; decide)
      have f3 : W6.frozen? ⟨w.heap.size, 3, none⟩ = false := hBB.free 3 (by show 3 < 14; decide)
      have f13 : W6.frozen? ⟨w.heap.size, 13, none⟩ = false := hBB.free 13 (by show 13 < 14; decide)
      have bb := b13.toNat_lt
      have B7 : BB ((W6.setCell ⟨w.heap.size, 3, none⟩ (.int .u8 0)).setCell ⟨w.heap.size, 13, none⟩ (.int .u8 (((b13.toNat : Int) - 1) % 256))) w.heap.size [b0, b1, b2, 0, b4, b5, b6, b7, b8, b9, b10, b11, b12, M.b8 ((b13.toNat : Int) - 1)] := by
        have := (hBB.set 3 (by show 3 < 14; decide) 0).set 13 (by show 13 < 14; decide) (M.b8 ((b13.toNat : Int) - 1))
        rw [M.b8_nat] at this
        exact this
      have hconv2 := B7.conv 14 cap (by show 14 ≤ 14; decide)
      have hC := hid (show (M.decR ⟨#[b0, b1, b2, 0, b4, b5, b6, b7, b8, b9, b10, b11, b12, M.b8 ((b13.toNat : Int) - 1)]⟩).fire = false from M.decR_fire _ (fun _ => by show ((0 : UInt8).toNat : Int) ≠ 1; decide))
      have z : ((((⟨#[b0, b1, b2, 1, b4, b5, b6, b7, b8, b9, b10, b11, b12, b13]⟩ : ByteArray)[3]'(by show 3 < 14; decide)).toNat : Int) != 1) = false := rfl
      have hB8 := hid (show Below w.heap.size w ((W6.setCell ⟨w.heap.size, 3, none⟩ (.int .u8 0)).setCell ⟨w.heap.size, 13, none⟩ (.int .u8 (((b13.toNat : Int) - 1) % 256))) from by have := hB6.size; go_grown)
      clear hBB B7 hB6
      go_enter Tryz.func9, Tryz.ntmps9
      go_wp2
      go_ret
      exact ⟨⟨_, rfl, rfl, hC.out⟩, hB8.out⟩
    · have hC := hid (show (M.decR ⟨#[b0, b1, b2, b3, b4, b5, b6, b7, b8, b9, b10, b11, b12, b13]⟩).fire = false from M.decR_fire _ (fun _ => by
        show (b3.toNat : Int) ≠ 1
        intro h; apply h3; apply UInt8.toNat_inj.1; exact (by omega : b3.toNat = 1)))
      have z : ((((⟨#[b0, b1, b2, b3, b4, b5, b6, b7, b8, b9, b10, b11, b12, b13]⟩ : ByteArray)[3]'(by show 3 < 14; decide)).toNat : Int) != 1) = true := by
        show ((b3.toNat : Int) != 1) = true
        simp only [bne_iff_ne]
        intro h; apply h3; apply UInt8.toNat_inj.1; exact (by omega : b3.toNat = 1)
      clear h3
      go_enter Tryz.func9, Tryz.ntmps9
      go_wp2
      go_ret
      exact ⟨⟨_, rfl, rfl, hC.out⟩, Below.refl _ _⟩
  · have hC := hid (show (M.decR p).fire = false from M.decR_fire _ (fun e => by unfold M.okB at e; simp [h14] at e))
    have z : ((p.size : Int) == 14) = false := by simp; omega
    unfold maxLen at hs
    have z2 : (p.size : Int) ≤ 9223372036854775807 := by omega
    clear h14 hs
    go_enter Tryz.func9, Tryz.ntmps9
    go_wp2
    go_ret
    exact ⟨⟨_, rfl, rfl, hC.out⟩, Below.refl _ _⟩


/-- pick, of n things. -/
def M.pickL (c n : Int) : Int := if c < 0 then -(c + 1).tmod n else c % n
theorem M.pickL_bd (c n : Int) (h : 0 < n) : 0 ≤ M.pickL c n ∧ M.pickL c n < n := by
  unfold M.pickL
  split
  · rename_i e; have := tmod_pick (n := n) h e; omega
  · exact ⟨Int.emod_nonneg _ (by omega), Int.emod_lt_of_pos _ (by omega)⟩
set_option maxHeartbeats 1000000 in
theorem lpick_v (c n : Int) (w : World) (hc : -9223372036854775808 ≤ c ∧ c ≤ 9223372036854775807) (hn : 1 ≤ n ∧ n ≤ 1000000000000000) :
    Calls Tryz.prog 10 #[.int .i64 c, .int .i64 n] w fun e w' => e = .returned (.int .i64 (M.pickL c n)) ∧ w' = w := by
  obtain ⟨h1, h2⟩ := hc
  obtain ⟨n1, n2⟩ := hn
  have n0 : (n == 0) = false := by simp; omega
  by_cases h : c < 0
  · have E := hid (show M.pickL c n = -(c + 1).tmod n from by unfold M.pickL; rw [if_pos h])
    go_enter Tryz.func10, Tryz.ntmps10
    go_wp2
    go_ret
    exact ⟨by rw [E.out]; rfl, rfl⟩
  · have E := hid (show M.pickL c n = c % n from by unfold M.pickL; rw [if_neg h])
    go_enter Tryz.func10, Tryz.ntmps10
    go_wp2
    go_ret
    exact ⟨by rw [E.out]; rfl, rfl⟩

set_option maxRecDepth 100000 in
set_option maxHeartbeats 1000000 in
theorem sNow_nilB (w : World) : Calls Tryz.prog 25 #[.pointer none] w fun e w' => e = .returned (.int .i64 0) ∧ Below w.heap.size w w' := by
  go_enter Tryz.func25, Tryz.ntmps25
  go_wp2
  go_ret
  exact ⟨rfl, by go_grown⟩

set_option maxRecDepth 100000 in
set_option maxHeartbeats 1000000 in
theorem sConnect_nilB (p : M.V3) (w : World) : Calls Tryz.prog 16 #[.pointer none, .agg #[.int .i64 p.x, .int .i64 p.y, .int .i64 p.z]] w fun e w' => e = .returned (.tuple #[.int .i64 0, .int .i64 1]) ∧ Below w.heap.size w w' := by
  go_enter Tryz.func16, Tryz.ntmps16
  go_wp2
  go_ret2
  exact ⟨rfl, by go_grown⟩

theorem sLeave_nilB (slot : Int) (w : World) : Calls Tryz.prog 18 #[.pointer none, .int .i64 slot] w fun e w' => e = .returned (.int .i64 1) ∧ Below w.heap.size w w' := (sLeave_nil slot w).mono (fun e w' h => ⟨h.1, by rw [h.2]; exact Below.refl _ _⟩)
theorem sPacket_nilB (slot : Int) (p : ByteArray) (w : World) : Calls Tryz.prog 20 #[.pointer none, .int .i64 slot, .string p] w fun e w' => e = .returned (.int .i64 1) ∧ Below w.heap.size w w' := (sPacket_nil slot p w).mono (fun e w' h => ⟨h.1, by rw [h.2]; exact Below.refl _ _⟩)
theorem sTick_nilB (w : World) : Calls Tryz.prog 40 #[.pointer none] w fun e w' => e = .returned (.int .i64 1) ∧ Below w.heap.size w w' := (sTick_nil w).mono (fun e w' h => ⟨h.1, by rw [h.2]; exact Below.refl _ _⟩)
theorem sSnap_nilB (slot : Int) (w : World) : Calls Tryz.prog 23 #[.pointer none, .int .i64 slot] w fun e w' => e = .returned (.tuple #[.string ⟨#[]⟩, .int .i64 1]) ∧ Below w.heap.size w w' := (sSnap_nil slot w).mono (fun e w' h => ⟨h.1, by rw [h.2]; exact Below.refl _ _⟩)

end Go.Proofs.YtonmihojfcjmjaaGreat
