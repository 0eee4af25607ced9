/- The pairs of a map: what its reader keeps, and what the document sees. -/
import Derived.Test.YtonmihojfcjmjaaTree
namespace Go.Proofs.Ytonmihojfcjmjaa.M

/-- Two zones, in both orders. -/
def pset (ps : Nat → Bool) (a b : Nat) : Nat → Bool := fun i => if i = 8 * b + a then true else if i = 8 * a + b then true else ps i
/-- The zones of the pair at i. -/
def pairA (s : ByteArray) (i : Nat) : Nat := (hexV (byteAt s (i + 1))).toNat
def pairB (s : ByteArray) (i : Nat) : Nat := (hexV (byteAt s (i + 2))).toNat
/-- All pairs from place j on. -/
def pairsT (s : ByteArray) : Nat → Nat → (Nat → Bool) → (Nat → Bool)
  | 0, _, ps => ps
  | k + 1, j, ps => if j < s.size ∧ pairStep s j = none then pairsT s k (j + 3) (pset ps (pairA s j) (pairB s j)) else ps
def noPairs : Nat → Bool := fun _ => false
/-- The pairs of a map. -/
def prs (s : ByteArray) : Nat → Bool := pairsT s (s.size + 1) (top s).2.place noPairs

theorem pairsT_good {s : ByteArray} {k j : Nat} {ps : Nat → Bool} (h : j < s.size) (hk : pairStep s j = none) : pairsT s (k + 1) j ps = pairsT s k (j + 3) (pset ps (pairA s j) (pairB s j)) := by
  conv => lhs; unfold pairsT
  rw [if_pos ⟨h, hk⟩]
theorem pairsT_end {s : ByteArray} {k j : Nat} {ps : Nat → Bool} (h : s.size ≤ j) : pairsT s k j ps = ps := by
  cases k
  · rfl
  · unfold pairsT; rw [if_neg (by omega)]

theorem pairStep_form {s : ByteArray} {i : Nat} (h : pairStep s i = none) : byteAt s i = 59 ∧ (48 ≤ byteAt s (i + 1) ∧ byteAt s (i + 1) ≤ 55) ∧ (48 ≤ byteAt s (i + 2) ∧ byteAt s (i + 2) ≤ 55) := by
  unfold pairStep at h
  by_cases h1 : byteAt s i ≠ 59
  · rw [if_pos h1] at h; cases h
  rw [if_neg h1] at h
  by_cases h2 : ¬ (48 ≤ byteAt s (i + 1) ∧ byteAt s (i + 1) ≤ 55)
  · rw [if_pos h2] at h; cases h
  rw [if_neg h2] at h
  by_cases h3 : ¬ (48 ≤ byteAt s (i + 2) ∧ byteAt s (i + 2) ≤ 55)
  · rw [if_pos h3] at h; cases h
  exact ⟨by omega, by omega, by omega⟩

theorem hexV_digit {c : Int} (h : 48 ≤ c ∧ c ≤ 55) : hexV c = c - 48 := by unfold hexV; rw [if_pos (by omega)]

/-- Do two zones see each other? From place i on. -/
def seesF (m : ByteArray) (a b : Int) : Nat → Nat → Bool
  | 0, _ => false
  | n + 1, i => if i + 2 < m.size then
      (if byteAt m i = 59 ∧ ((byteAt m (i + 1) - 48 = a ∧ byteAt m (i + 2) - 48 = b) ∨ (byteAt m (i + 1) - 48 = b ∧ byteAt m (i + 2) - 48 = a)) then true else seesF m a b n (i + 1))
    else false
def sees (m : ByteArray) (a b : Int) : Bool := decide (a = b) || seesF m a b (m.size + 1) 0

/-- Is there a pair of these at i? -/
def pairHere (m : ByteArray) (a b : Int) (i : Nat) : Prop := byteAt m i = 59 ∧ ((byteAt m (i + 1) - 48 = a ∧ byteAt m (i + 2) - 48 = b) ∨ (byteAt m (i + 1) - 48 = b ∧ byteAt m (i + 2) - 48 = a))

theorem seesF_iff (m : ByteArray) (a b : Int) : ∀ (n i : Nat), m.size ≤ n + i → (seesF m a b n i = true ↔ ∃ j, i ≤ j ∧ j + 2 < m.size ∧ pairHere m a b j)
  | 0, i, h => by
    unfold seesF
    constructor
    · intro x; cases x
    · rintro ⟨j, h1, h2, _⟩; omega
  | n + 1, i, h => by
    unfold seesF
    by_cases h1 : i + 2 < m.size
    · rw [if_pos h1]
      by_cases h2 : pairHere m a b i
      · have h2' := h2
        unfold pairHere at h2'
        rw [if_pos h2']
        exact ⟨fun _ => ⟨i, Nat.le_refl _, h1, h2⟩, fun _ => rfl⟩
      · have h2' := h2
        unfold pairHere at h2'
        rw [if_neg h2', seesF_iff m a b n (i + 1) (by omega)]
        constructor
        · rintro ⟨j, a1, a2, a3⟩; exact ⟨j, by omega, a2, a3⟩
        · rintro ⟨j, a1, a2, a3⟩
          refine ⟨j, ?_, a2, a3⟩
          rcases Nat.eq_or_lt_of_le a1 with e | e
          · subst e; exact absurd a3 h2
          · exact e
    · rw [if_neg h1]
      constructor
      · intro x; cases x
      · rintro ⟨j, a1, a2, _⟩; omega

/-- What the pairs from place j on add. -/
theorem pairsT_iff (s : ByteArray) (a b : Nat) (ha : a < 8) (hb : b < 8) : ∀ (k j : Nat) (ps : Nat → Bool), s.size < k + j → j ≤ s.size → pairsF s k j = none →
    (pairsT s k j ps (8 * a + b) = true ↔ ps (8 * a + b) = true ∨ ∃ i, j ≤ i ∧ i + 2 < s.size ∧ pairHere s a b i)
  | 0, j, ps, h, hj, _ => by omega
  | k + 1, j, ps, h, hj, hn => by
    by_cases hlt : j < s.size
    · cases hst : pairStep s j with
      | some x => rw [pairsF_bad hlt hst] at hn; cases hn
      | none =>
        have h3 := pairStep_in hst
        obtain ⟨f0, f1, f2⟩ := pairStep_form hst
        rw [pairsT_good hlt hst, pairsT_iff s a b ha hb k (j + 3) _ (by omega) (by omega) (by rw [← pairsF_good hlt hst]; exact hn)]
        have eA : ((pairA s j : Nat) : Int) = byteAt s (j + 1) - 48 := by unfold pairA; rw [hexV_digit f1]; omega
        have eB : ((pairB s j : Nat) : Int) = byteAt s (j + 2) - 48 := by unfold pairB; rw [hexV_digit f2]; omega
        have key : pset ps (pairA s j) (pairB s j) (8 * a + b) = true ↔ ps (8 * a + b) = true ∨ pairHere s a b j := by
          unfold pset pairHere
          by_cases c1 : 8 * a + b = 8 * pairB s j + pairA s j
          · rw [if_pos c1]
            have : (a : Int) = byteAt s (j + 2) - 48 ∧ (b : Int) = byteAt s (j + 1) - 48 := by omega
            exact ⟨fun _ => .inr ⟨f0, .inr ⟨by omega, by omega⟩⟩, fun _ => rfl⟩
          · rw [if_neg c1]
            by_cases c2 : 8 * a + b = 8 * pairA s j + pairB s j
            · rw [if_pos c2]
              have : (a : Int) = byteAt s (j + 1) - 48 ∧ (b : Int) = byteAt s (j + 2) - 48 := by omega
              exact ⟨fun _ => .inr ⟨f0, .inl ⟨by omega, by omega⟩⟩, fun _ => rfl⟩
            · rw [if_neg c2]
              constructor
              · exact .inl
              · rintro (x | ⟨_, x | x⟩)
                · exact x
                · omega
                · omega
        rw [key]
        constructor
        · rintro ((x | x) | ⟨i, a1, a2, a3⟩)
          · exact .inl x
          · exact .inr ⟨j, Nat.le_refl _, by omega, x⟩
          · exact .inr ⟨i, by omega, a2, a3⟩
        · rintro (x | ⟨i, a1, a2, a3⟩)
          · exact .inl (.inl x)
          · by_cases e0 : i = j
            · subst e0; exact .inl (.inr a3)
            · have n1 : i ≠ j + 1 := by rintro rfl; have := a3.1; omega
              have n2 : i ≠ j + 2 := by rintro rfl; have := a3.1; omega
              exact .inr ⟨i, by omega, a2, a3⟩
    · rw [pairsT_end (by omega)]
      constructor
      · exact .inl
      · rintro (x | ⟨i, a1, a2, _⟩)
        · exact x
        · omega

theorem hexV_not59 {c : Int} (h : ¬ hexV c < 0) : c ≠ 59 := by
  rintro rfl
  exact h (by decide)

/-- A tree's text has no mark of a pair. -/
theorem tree_no59 (s : ByteArray) : ∀ (r : Nat) (lo hi : V3) (st : St), (tree s r lo hi st).1 = true → st.place ≤ (tree s r lo hi st).2.place ∧ ∀ i, st.place ≤ i → i < (tree s r lo hi st).2.place → byteAt s i ≠ 59
  | r, lo, hi, st, h => by
    by_cases hl : leafB (byteAt s st.place) = true
    · rw [tree_leaf hl]
      refine ⟨by simp [St.leaf], fun i h1 h2 => ?_⟩
      simp [St.leaf] at h2
      obtain rfl : i = st.place := by omega
      intro e
      rw [e] at hl
      exact absurd hl (by decide)
    have hl' : leafB (byteAt s st.place) = false := by simpa using hl
    cases r with
    | zero => rw [tree_deep hl'] at h; cases h
    | succ r =>
      by_cases h2 : planeB (byteAt s st.place) = false
      · rw [tree_none hl' h2] at h; cases h
      have h2' : planeB (byteAt s st.place) = true := by simpa using h2
      by_cases h3 : hexV (byteAt s (st.place + 1)) < 0
      · rw [tree_bad1 hl' h2' h3] at h; cases h
      by_cases h4 : hexV (byteAt s (st.place + 2)) < 0
      · rw [tree_bad2 hl' h2' h3 h4] at h; cases h
      rw [tree_plane hl' h2' h3 h4] at h ⊢
      by_cases hx : (tree s r lo (lowHi s st hi) (st.cut s lo hi)).1 = true
      · rw [if_pos hx] at h ⊢
        obtain ⟨a1, a2⟩ := tree_no59 s r lo (lowHi s st hi) (st.cut s lo hi) hx
        obtain ⟨b1, b2⟩ := tree_no59 s r (upLo s st lo) hi _ h
        have e : (st.cut s lo hi).place = st.place + 3 := rfl
        rw [e] at a1 a2
        refine ⟨by omega, fun i h5 h6 => ?_⟩
        by_cases c0 : i = st.place
        · subst c0; intro e; rw [e] at h2'; exact absurd h2' (by decide)
        by_cases c1 : i = st.place + 1
        · subst c1; exact hexV_not59 h3
        by_cases c2 : i = st.place + 2
        · subst c2; exact hexV_not59 h4
        by_cases c3 : i < (tree s r lo (lowHi s st hi) (st.cut s lo hi)).2.place
        · exact a2 i (by omega) c3
        · exact b2 i (by omega) h6
      · rw [if_neg hx] at h; exact absurd h hx

/-- The reader's pairs are what the document sees. -/
theorem prs_sees {s : ByteArray} (h1 : (top s).1 = true) (h2 : pairsF s (s.size + 1) (top s).2.place = none) (a b : Nat) (ha : a < 8) (hb : b < 8) : (decide (a = b) || prs s (8 * a + b)) = sees s a b := by
  have hno := (tree_no59 s 12 cubeLo cubeHi st0 h1).2
  have hpl := (top_inv s).pl
  have key : prs s (8 * a + b) = seesF s a b (s.size + 1) 0 := by
    rw [Bool.eq_iff_iff, seesF_iff _ _ _ _ _ (by omega)]
    unfold prs
    rw [pairsT_iff s a b ha hb _ _ _ (by omega) hpl h2]
    constructor
    · rintro (x | ⟨i, _, a2, a3⟩)
      · cases x
      · exact ⟨i, Nat.zero_le _, a2, a3⟩
    · rintro ⟨i, _, a2, a3⟩
      refine .inr ⟨i, ?_, a2, a3⟩
      rcases Nat.lt_or_ge i (top s).2.place with x | x
      · exact absurd a3.1 (hno i (Nat.zero_le _) x)
      · exact x
  unfold sees
  rw [key]
  have e : decide (a = b) = decide ((a : Int) = (b : Int)) := decide_eq_decide.2 ⟨fun x => by rw [x], fun x => by omega⟩
  rw [e]

end Go.Proofs.Ytonmihojfcjmjaa.M
