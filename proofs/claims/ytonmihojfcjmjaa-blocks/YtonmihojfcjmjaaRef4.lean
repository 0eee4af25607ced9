/- Contract of the document's answer: leaves. -/
import Derived.Test.YtonmihojfcjmjaaRef3
namespace Go.Proofs.Ytonmihojfcjmjaa
open Go.RowKit
set_option linter.unusedVariables false
attribute [local go_sem] cell_set_off cell_set_blk

/-- What leaves gives back. -/
def LeavesPost (s : ByteArray) (w : World) (r : Ending) (w' : World) : Prop := ∃ (x : Option Addr) (n cap : Nat), r = .returned (.tuple #[.slice x n cap, .int .i64 (M.top s).2.wrong]) ∧
  w'.ownsRow w.heap.size 114 7 (.slice x n cap) (M.top s).2.leaves.length (flat (M.top s).2.leaves) ∧ Below w.heap.size w w'

/-- Where the loop stands. -/
structure LV (s : ByteArray) (w wr : World) (stk : List (Nat × M.V3 × M.V3)) (st : M.St) (g cap : Nat) (v : Value) : Prop where
  own : wr.ownsRow w.heap.size 114 7 (.slice (some ⟨g, 0, none⟩) stk.length cap) stk.length (flat (dueL stk))
  lvs : wr.ownsRow w.heap.size 114 7 v st.leaves.length (flat st.leaves)
  ne : v.ownBlock ≠ some g
  bel : Below w.heap.size w wr
  eqn : M.trees s stk st = M.top s
  inv : st.Inv s
  len : stk.length ≤ st.place + 1
  cub : ∀ t ∈ stk, t.2.1.Cub ∧ t.2.2.Cub

theorem LV.leaf {s : ByteArray} {w wr W0 w1 : World} {r : Nat} {lo hi : M.V3} {stk : List (Nat × M.V3 × M.V3)} {st : M.St} {g cap g1 cap1 : Nat} {v : Value} (h : LV s w wr ((r, lo, hi) :: stk) st g cap v)
    (hO : wr.ownsRow w.heap.size 114 7 (.slice (some ⟨g, 0, none⟩) stk.length cap) stk.length (flat (dueL stk))) (hW : Below wr.heap.size wr W0) (hg : W0.grownBy w1 v.ownBlock) (hat : v.ownBlock = some g1 ∨ wr.heap.size ≤ g1)
    (hown : w1.ownsRow w.heap.size 114 7 (.slice (some ⟨g1, 0, none⟩) (st.leaves.length + 1) cap1) (st.leaves.length + 1) (flat st.leaves ++ leafCells ⟨lo, hi, M.zoneV (M.byteAt s st.place)⟩))
    (hN : M.trees s stk (st.leaf lo hi (M.byteAt s st.place)) = M.top s) (hl : M.leafB (M.byteAt s st.place) = true) : LV s w w1 stk (st.leaf lo hi (M.byteAt s st.place)) g cap (.slice (some ⟨g1, 0, none⟩) (st.leaves.length + 1) cap1) := by
  have hgl : g < wr.heap.size := own_lt hO rfl
  have hc := h.cub (r, lo, hi) (by simp)
  have hlen := h.len
  simp only [List.length_cons] at hlen
  refine ⟨own_of hO (fun k hk => ?_), ?_, ?_, ?_, hN, M.Inv_leaf h.inv hc.1 hc.2 hl, ?_, fun t ht => h.cub t (by simp [ht])⟩
  · have : g = k := by simpa [Value.ownBlock] using hk
    subst this
    rw [hg.block g (Nat.lt_of_lt_of_le hgl hW.size) (fun e => h.ne e.symm), hW.block g hgl]
  · have e1 : (st.leaf lo hi (M.byteAt s st.place)).leaves = st.leaves ++ [⟨lo, hi, M.zoneV (M.byteAt s st.place)⟩] := rfl
    rw [e1, flat_snoc, List.length_append]
    exact hown
  · intro e
    have e' : g1 = g := by simpa [Value.ownBlock] using e
    rcases hat with x | x
    · exact h.ne (by rw [x, e'])
    · omega
  · have b0 := h.bel
    refine (b0.trans (hW.mono b0.size)).grown hg (Nat.le_trans b0.size hW.size) (fun k hk => ?_)
    rcases h.lvs.2 with ⟨e, _⟩ | ⟨g', cap', cur, e, hb, _⟩
    · rw [e] at hk; cases hk
    · rw [e] at hk
      have : g' = k := by simpa [Value.ownBlock] using hk
      omega
  · simp only [M.St.leaf]; omega

theorem raxis_is (p : M.V3) (k c A : Int) (w : World) (hk : k = c - 120) (hc : M.planeB c = true) (hA : Hid (M.getAx p c = A)) :
    Calls Try.prog 63 #[.agg #[.int .i64 p.x, .int .i64 p.y, .int .i64 p.z], .int .i64 k] w fun e w' => e = .returned (.int .i64 A) ∧ Below w.heap.size w w' := by
  rw [← hA.out]
  exact raxis_any p k c w hk hc
theorem rwith_is (p q : M.V3) (k c v : Int) (w : World) (hk : k = c - 120) (hc : M.planeB c = true) (hq : Hid (M.setAx p c v = q)) :
    Calls Try.prog 64 #[.agg #[.int .i64 p.x, .int .i64 p.y, .int .i64 p.z], .int .i64 k, .int .i64 v] w fun e w' => e = .returned (.agg #[.int .i64 q.x, .int .i64 q.y, .int .i64 q.z]) ∧ Below w.heap.size w w' := by
  have h := rwith_any p k c v w hk hc
  unfold WithPost at h
  rw [hq.out] at h
  exact h

theorem Blk.seven {W : World} {b : Nat} {x0 x1 x2 x3 x4 x5 x6 : Value} {t : TypeId} (h : Blk W b #[x0, x1, x2, x3, x4, x5, x6] t) :
    W.cell? ⟨b, 0, none⟩ = some x0 ∧ W.cell? ⟨b, 1, none⟩ = some x1 ∧ W.cell? ⟨b, 2, none⟩ = some x2 ∧ W.cell? ⟨b, 3, none⟩ = some x3 ∧ W.cell? ⟨b, 4, none⟩ = some x4 ∧ W.cell? ⟨b, 5, none⟩ = some x5 ∧ W.cell? ⟨b, 6, none⟩ = some x6 ∧
    (∀ i, W.frozen? ⟨b, i, none⟩ = false) ∧ b < W.heap.size :=
  ⟨h.cell 0, h.cell 1, h.cell 2, h.cell 3, h.cell 4, h.cell 5, h.cell 6, h.frozen, h.lt⟩

theorem own_v {W : World} {base e size n : Nat} {v : Value} {xs : List Value} (h : W.ownsRow base e size v n xs) : ∀ k, v.ownBlock = some k → base ≤ k := by
  intro k hk
  rcases h.2 with ⟨e, _⟩ | ⟨g', cap', cur, e, hb, _⟩
  · rw [e] at hk; cases hk
  · rw [e] at hk
    have : g' = k := by simpa [Value.ownBlock] using hk
    omega

theorem LV.plane {s : ByteArray} {w wr X0 x1 X1 x2 : World} {r : Nat} {lo hi : M.V3} {stk : List (Nat × M.V3 × M.V3)} {st : M.St} {g cap g1 g2 cap2 : Nat} {v : Value} (h : LV s w wr ((r + 1, lo, hi) :: stk) st g cap v)
    (hO : wr.ownsRow w.heap.size 114 7 (.slice (some ⟨g, 0, none⟩) stk.length cap) stk.length (flat (dueL stk))) (hW : Below wr.heap.size wr X0) (hg : X0.grownBy x1 (some g)) (hat : g = g1 ∨ wr.heap.size ≤ g1)
    (hX : Below x1.heap.size x1 X1) (hg2 : X1.grownBy x2 (some g1)) (hat2 : g1 = g2 ∨ wr.heap.size ≤ g2) (hlt1 : g1 < x1.heap.size)
    (hown : x2.ownsRow w.heap.size 114 7 (.slice (some ⟨g2, 0, none⟩) (stk.length + 1 + 1) cap2) (stk.length + 1 + 1) ((flat (dueL stk) ++ leafCells ⟨M.upLo s st lo, hi, 0⟩) ++ leafCells ⟨lo, M.lowHi s st hi, 0⟩))
    (hN : M.trees s ((r, lo, M.lowHi s st hi) :: (r, M.upLo s st lo, hi) :: stk) (st.cut s lo hi) = M.top s) (h3 : ¬ M.hexV (M.byteAt s (st.place + 1)) < 0) (h4 : ¬ M.hexV (M.byteAt s (st.place + 2)) < 0) :
    LV s w x2 ((r, lo, M.lowHi s st hi) :: (r, M.upLo s st lo, hi) :: stk) (st.cut s lo hi) g2 cap2 v := by
  have hgl : g < wr.heap.size := own_lt hO rfl
  have hgb : w.heap.size ≤ g := own_v hO g rfl
  have hc := h.cub (r + 1, lo, hi) (by simp)
  have hlen := h.len
  have hbd := M.planeAt_bd h3 h4
  simp only [List.length_cons] at hlen
  have b0 := h.bel
  have hg1b : w.heap.size ≤ g1 := by have := b0.size; rcases hat with e | e <;> omega
  have hsz1 : wr.heap.size ≤ x1.heap.size := Nat.le_trans hW.size hg.size
  refine ⟨?_, own_of h.lvs (fun k hk => ?_), ?_, ?_, hN, M.Inv_cut h.inv h4, ?_, fun t ht => ?_⟩
  · rw [dueL_cons, dueL_cons, flat_snoc, flat_snoc]
    exact hown
  · have hkl : k < wr.heap.size := own_lt h.lvs hk
    have hkg : k ≠ g := fun e => h.ne (by rw [hk, e])
    have hkg1 : k ≠ g1 := by rcases hat with e | e <;> omega
    have e1 : x2.heap[k]? = X1.heap[k]? := hg2.block k (by have := hX.size; omega) (fun e => hkg1 (by simpa using e))
    have e2 : X1.heap[k]? = x1.heap[k]? := hX.block k (by omega)
    have e3 : x1.heap[k]? = X0.heap[k]? := hg.block k (by have := hW.size; omega) (fun e => hkg (by simpa using e))
    rw [e1, e2, e3, hW.block k hkl]
  · intro e
    have hkl : g2 < wr.heap.size := own_lt h.lvs e
    have : g2 = g := by rcases hat2 with a | a <;> rcases hat with b | b <;> omega
    exact h.ne (by rw [e, this])
  · have b1 : Below w.heap.size w x1 := (b0.trans (hW.mono b0.size)).grown hg (Nat.le_trans b0.size hW.size) (fun k hk => (show g = k from by simpa using hk) ▸ hgb)
    exact (b1.trans (hX.mono b1.size)).grown hg2 (Nat.le_trans b1.size hX.size) (fun k hk => (show g1 = k from by simpa using hk) ▸ hg1b)
  · simp only [M.St.cut, M.St.plane, List.length_cons]; omega
  · simp at ht
    rcases ht with rfl | rfl | ht
    · exact ⟨hc.1, hc.2.set hbd.1 (by omega)⟩
    · exact ⟨hc.1.set hbd.1 (by omega), hc.2⟩
    · exact h.cub t (by simp [ht])

end Go.Proofs.Ytonmihojfcjmjaa
