/- Contracts of the document's answer: axis, with. -/
import Derived.Test.YthmomcammkbkdaaRef2
import Derived.Test.YthmomcammkbkdaaRd3
namespace Go.Proofs.Ythmomcammkbkdaa
open Go.RowKit
set_option linter.unusedVariables false
attribute [local go_sem] cell_set_off cell_set_blk

set_option maxHeartbeats 1000000 in
theorem raxis_any (p : M.V3) (k c : Int) (w : World) (hk : k = c - 120) (hc : M.planeB c = true) :
    Calls Try.prog 63 #[.agg #[.int .i64 p.x, .int .i64 p.y, .int .i64 p.z], .int .i64 k] w fun e w' => e = .returned (.int .i64 (M.getAx p c)) ∧ Below w.heap.size w w' := by
  rcases plane3 hc with rfl | rfl | rfl
  · obtain rfl : k = 0 := by omega
    clear hk hc
    go_enter Try.func63, Try.ntmps63
    go_wp2
    go_ret
    exact ⟨rfl, by go_grown⟩
  · obtain rfl : k = 1 := by omega
    clear hk hc
    go_enter Try.func63, Try.ntmps63
    go_wp2
    go_ret
    exact ⟨rfl, by go_grown⟩
  · obtain rfl : k = 2 := by omega
    clear hk hc
    go_enter Try.func63, Try.ntmps63
    go_wp2
    go_ret
    exact ⟨rfl, by go_grown⟩

def WithPost (p : M.V3) (c v : Int) (w : World) (r : Ending) (w' : World) : Prop := r = .returned (.agg #[.int .i64 (M.setAx p c v).x, .int .i64 (M.setAx p c v).y, .int .i64 (M.setAx p c v).z]) ∧ Below w.heap.size w w'

set_option maxHeartbeats 1000000 in
theorem rwith_any (p : M.V3) (k c v : Int) (w : World) (hk : k = c - 120) (hc : M.planeB c = true) :
    Calls Try.prog 64 #[.agg #[.int .i64 p.x, .int .i64 p.y, .int .i64 p.z], .int .i64 k, .int .i64 v] w (WithPost p c v w) := by
  rcases plane3 hc with rfl | rfl | rfl
  · obtain rfl : k = 0 := by omega
    clear hk hc
    go_enter Try.func64, Try.ntmps64
    go_wp2
    exact bodyPost_ret (v := .agg #[.int .i64 v, .int .i64 p.y, .int .i64 p.z]) (by simp [results, Try.results64, go_sem]) rfl ⟨rfl, by go_grown⟩
  · obtain rfl : k = 1 := by omega
    clear hk hc
    go_enter Try.func64, Try.ntmps64
    go_wp2
    exact bodyPost_ret (v := .agg #[.int .i64 p.x, .int .i64 v, .int .i64 p.z]) (by simp [results, Try.results64, go_sem]) rfl ⟨rfl, by go_grown⟩
  · obtain rfl : k = 2 := by omega
    clear hk hc
    go_enter Try.func64, Try.ntmps64
    go_wp2
    exact bodyPost_ret (v := .agg #[.int .i64 p.x, .int .i64 p.y, .int .i64 v]) (by simp [results, Try.results64, go_sem]) rfl ⟨rfl, by go_grown⟩

/-- A stack of regions, as leaves: the next tree last. -/
def dueL (stk : List (Nat × M.V3 × M.V3)) : List M.Lf := stk.reverse.map fun t => ⟨t.2.1, t.2.2, 0⟩
theorem dueL_cons (r : Nat) (lo hi : M.V3) (stk : List (Nat × M.V3 × M.V3)) : dueL ((r, lo, hi) :: stk) = dueL stk ++ [⟨lo, hi, 0⟩] := by simp [dueL]
theorem flat_len (ls : List M.Lf) : (flat ls).length = ls.length * 7 := by
  induction ls with
  | nil => rfl
  | cons l ls ih => simp only [flat, List.flatMap_cons, List.length_append] at ih ⊢; rw [ih]; simp [leafCells]; omega
theorem dueL_len (stk : List (Nat × M.V3 × M.V3)) : (dueL stk).length = stk.length := by simp [dueL]

theorem infoLeaf2 : (Try.prog.info? 114).map (fun i => (i.zero, i.size, i.bytes)) = some (some (.agg #[.int .i64 0, .int .i64 0, .int .i64 0, .int .i64 0, .int .i64 0, .int .i64 0, .int .i64 0]), 7, 56) := by kernel_rfl

/-- An element of a row of leaves. -/
theorem own_leaf {W : World} {base e g n cap : Nat} {ls : List M.Lf} (h : W.ownsRow base e 7 (.slice (some ⟨g, 0, none⟩) n cap) n (flat ls)) {i : Nat} {l : M.Lf} (hi : ls[i]? = some l) :
    (W.cell? ⟨g, i * 7, none⟩ = some (.int .i64 l.lo.x) ∧ W.cell? ⟨g, i * 7 + 1, none⟩ = some (.int .i64 l.lo.y) ∧ W.cell? ⟨g, i * 7 + 2, none⟩ = some (.int .i64 l.lo.z) ∧
     W.cell? ⟨g, i * 7 + 3, none⟩ = some (.int .i64 l.hi.x) ∧ W.cell? ⟨g, i * 7 + 4, none⟩ = some (.int .i64 l.hi.y) ∧ W.cell? ⟨g, i * 7 + 5, none⟩ = some (.int .i64 l.hi.z) ∧
     W.cell? ⟨g, i * 7 + 6, none⟩ = some (.int .i64 l.zone)) ∧ n ≤ cap ∧ cap ≤ maxLen := by
  have hlt : i < ls.length := (List.getElem?_eq_some_iff.1 hi).1
  have hn : ls.length * 7 = n * 7 := by rw [← flat_len]; exact h.1
  rcases h.2 with ⟨h0, _⟩ | ⟨g', cap', cur, hv, _, hh, hc1, hc2, hsz, ht⟩
  · cases h0
  · cases hv
    have key : ∀ j, j < 7 → W.cell? ⟨g, i * 7 + j, none⟩ = (leafCells l)[j]? := by
      intro j hj
      simp only [World.cell?, hh]
      have e1 : (cur.toList.take (n * 7))[i * 7 + j]? = (flat ls)[i * 7 + j]? := by rw [ht]
      rw [List.getElem?_take_of_lt (by omega)] at e1
      have e2 : (flat ls)[i * 7 + j]? = (leafCells l)[j]? := by
        clear h ht hh hsz e1 hn hc1 hc2
        induction ls generalizing i with
        | nil => simp at hlt
        | cons x ls ih =>
          cases i with
          | zero =>
            simp at hi
            subst hi
            simp only [flat, List.flatMap_cons]
            rw [List.getElem?_append_left (by simp [leafCells]; omega)]
            simp
          | succ i =>
            simp only [flat, List.flatMap_cons]
            rw [List.getElem?_append_right (by simp [leafCells]; omega)]
            have : (i + 1) * 7 + j - (leafCells x).length = i * 7 + j := by simp [leafCells]; omega
            rw [this]
            simp only [List.length_cons] at hlt
            exact ih (by simpa using hi) (by omega)
      rw [← e2, ← e1]
      simp
    refine ⟨⟨key 0 (by omega), key 1 (by omega), key 2 (by omega), key 3 (by omega), key 4 (by omega), key 5 (by omega), key 6 (by omega)⟩, hc1, hc2⟩

end Go.Proofs.Ythmomcammkbkdaa
