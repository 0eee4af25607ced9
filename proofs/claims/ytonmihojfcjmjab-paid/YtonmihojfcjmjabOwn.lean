import Derived.Test.YtonmihojfcjmjabRd1
import Derived.Maps.AppendAt
/- Rows of leaves: their elements. -/
namespace Go.Proofs.Ytonmihojfcjmjab
open Go.RowKit

theorem own_last {W : World} {base e g m cap : Nat} {xs : List Value} {x : Value} (h : W.ownsRow base e 1 (.slice (some ⟨g, 0, none⟩) (m + 1) cap) (m + 1) (xs ++ [x])) (hx : xs.length = m) :
    W.cell? ⟨g, m, none⟩ = some x ∧ m + 1 ≤ cap ∧ cap ≤ maxLen := by
  rcases h.2 with ⟨h0, _⟩ | ⟨g', cap', cur, hv, _, hh, hn, hc, hsz, ht⟩
  · cases h0
  · cases hv
    refine ⟨?_, hn, hc⟩
    simp only [World.cell?, hh]
    have hlt : m < cur.toList.length := by simp; omega
    have e1 : (cur.toList.take ((m + 1) * 1))[m]? = some x := by rw [ht, List.getElem?_append_right (by omega), hx]; simp
    rw [List.getElem?_take_of_lt (by omega)] at e1
    simpa using e1

theorem own_ge {W : World} {base e size g n cap m : Nat} {xs : List Value} (h : W.ownsRow base e size (.slice (some ⟨g, 0, none⟩) n cap) m xs) : base ≤ g := by
  rcases h.2 with ⟨h0, _⟩ | ⟨g', cap', cur, hv, hb, _⟩
  · cases h0
  · cases hv; exact hb

theorem own_row {W : World} {base e size g n cap m : Nat} {xs : List Value} (h : W.ownsRow base e size (.slice (some ⟨g, 0, none⟩) n cap) m xs) : ∀ k, (Value.slice (some ⟨g, 0, none⟩) n cap).ownBlock = some k → base ≤ k := by
  intro k hk
  have : g = k := by simpa [Value.ownBlock] using hk
  rw [← this]
  exact own_ge h

theorem flat_len (ls : List M.Lf) : (flat ls).length = ls.length * 7 := by
  induction ls with
  | nil => rfl
  | cons l ls ih => simp only [flat, List.flatMap_cons, List.length_append] at ih ⊢; rw [ih]; simp [leafCells]; omega

/-- An element of a row of leaves. -/
theorem own_leaf {W : World} {base e g n cap : Nat} {ls : List M.Lf} (h : W.ownsRow base e 7 (.slice (some ⟨g, 0, none⟩) n cap) n (flat ls)) {i : Nat} {l : M.Lf} (hi : ls[i]? = some l) :
    (W.cell? ⟨g, i * 7, none⟩ = some (.int .i64 l.lo.x) ∧ W.cell? ⟨g, i * 7 + 1, none⟩ = some (.int .i64 l.lo.y) ∧ W.cell? ⟨g, i * 7 + 2, none⟩ = some (.int .i64 l.lo.z) ∧
     W.cell? ⟨g, i * 7 + 3, none⟩ = some (.int .i64 l.hi.x) ∧ W.cell? ⟨g, i * 7 + 4, none⟩ = some (.int .i64 l.hi.y) ∧ W.cell? ⟨g, i * 7 + 5, none⟩ = some (.int .i64 l.hi.z) ∧
     W.cell? ⟨g, i * 7 + 6, none⟩ = some (.int .i64 l.zone)) ∧ n ≤ cap ∧ cap ≤ maxLen := by
  have hlt : i < ls.length := (List.getElem?_eq_some_iff.1 hi).1
  have hn : ls.length * 7 = n * 7 := by rw [← flat_len]; exact h.1
  rcases h.2 with ⟨h0, _⟩ | ⟨g', cap', cur, hv, _, hh, hc1, hc2, hsz, ht⟩
  · cases h0
  · cases hv
    have key : ∀ j, j < 7 → W.cell? ⟨g, i * 7 + j, none⟩ = (leafCells l)[j]? := by
      intro j hj
      simp only [World.cell?, hh]
      have e1 : (cur.toList.take (n * 7))[i * 7 + j]? = (flat ls)[i * 7 + j]? := by rw [ht]
      rw [List.getElem?_take_of_lt (by omega)] at e1
      have e2 : (flat ls)[i * 7 + j]? = (leafCells l)[j]? := by
        clear h ht hh hsz e1 hn hc1 hc2
        induction ls generalizing i with
        | nil => simp at hlt
        | cons x ls ih =>
          cases i with
          | zero =>
            simp at hi
            subst hi
            simp only [flat, List.flatMap_cons]
            rw [List.getElem?_append_left (by simp [leafCells]; omega)]
            simp
          | succ i =>
            simp only [flat, List.flatMap_cons]
            rw [List.getElem?_append_right (by simp [leafCells]; omega)]
            have : (i + 1) * 7 + j - (leafCells x).length = i * 7 + j := by simp [leafCells]; omega
            rw [this]
            simp only [List.length_cons] at hlt
            exact ih (by simpa using hi) (by omega)
      rw [← e2, ← e1]
      simp
    refine ⟨⟨key 0 (by omega), key 1 (by omega), key 2 (by omega), key 3 (by omega), key 4 (by omega), key 5 (by omega), key 6 (by omega)⟩, hc1, hc2⟩

end Go.Proofs.Ytonmihojfcjmjab
