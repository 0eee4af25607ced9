/- Zones: the last leaf that holds a point is the last one that owns it. No Go in sight. -/
import Derived.Test.YtonmihojfcjmjaaTree
namespace Go.Proofs.Ytonmihojfcjmjaa.M

def holdsB2 (l : Lf) (p : V3) : Bool := decide (l.lo.x ≤ p.x) && decide (p.x ≤ l.hi.x) && decide (l.lo.y ≤ p.y) && decide (p.y ≤ l.hi.y) && decide (l.lo.z ≤ p.z) && decide (p.z ≤ l.hi.z)
/-- No border of it belongs to another leaf's zone. -/
def freeB (hi p : V3) : Bool := !(decide (p.x = hi.x) && decide (hi.x < 4096)) && !(decide (p.y = hi.y) && decide (hi.y < 4096)) && !(decide (p.z = hi.z) && decide (hi.z < 4096))
def ownB (l : Lf) (p : V3) : Bool := holdsB2 l p && freeB l.hi p

def zP (p : V3) : List Lf → Int → Int
  | [], z => z
  | l :: ls, z => if holdsB2 l p = true then (if l.zone = -1 then -1 else zP p ls l.zone) else zP p ls z
def zR (p : V3) : List Lf → Int → Int
  | [], z => z
  | l :: ls, z => if holdsB2 l p = true ∧ l.zone < 0 then -1 else zR p ls (if ownB l p = true then l.zone else z)

/-- The last zone among those that a test picks. -/
def lastZ (f : Lf → Bool) : List Lf → Option Int
  | [] => none
  | l :: ls => match lastZ f ls with
    | some z => some z
    | none => if f l = true then some l.zone else none

theorem lastZ_append (f : Lf → Bool) (a b : List Lf) : lastZ f (a ++ b) = match lastZ f b with | some z => some z | none => lastZ f a := by
  induction a with
  | nil => simp [lastZ]; cases lastZ f b <;> rfl
  | cons l ls ih =>
    simp only [List.cons_append, lastZ]
    rw [ih]
    cases lastZ f b <;> rfl
theorem lastZ_none {f : Lf → Bool} {ls : List Lf} (h : ∀ l ∈ ls, f l = false) : lastZ f ls = none := by
  induction ls with
  | nil => rfl
  | cons l ls ih =>
    simp only [lastZ]
    rw [ih (fun x hx => h x (by simp [hx])), h l (by simp)]
    rfl
theorem lastZ_some {f : Lf → Bool} {ls : List Lf} {l : Lf} (hm : l ∈ ls) (h : f l = true) : ∃ z, lastZ f ls = some z := by
  induction ls with
  | nil => cases hm
  | cons x ls ih =>
    simp only [lastZ]
    rcases List.mem_cons.1 hm with rfl | hm
    · cases lastZ f ls with
      | some z => exact ⟨z, rfl⟩
      | none => rw [h]; exact ⟨_, rfl⟩
    · obtain ⟨z, hz⟩ := ih hm
      rw [hz]; exact ⟨z, rfl⟩

theorem zP_solid {p : V3} {ls : List Lf} (h : ∃ l ∈ ls, holdsB2 l p = true ∧ l.zone = -1) : ∀ z, zP p ls z = -1 := by
  induction ls with
  | nil => obtain ⟨l, hm, _⟩ := h; cases hm
  | cons x ls ih =>
    intro z
    simp only [zP]
    by_cases hx : holdsB2 x p = true
    · rw [if_pos hx]
      by_cases hz : x.zone = -1
      · rw [if_pos hz]
      · rw [if_neg hz]
        obtain ⟨l, hm, h1, h2⟩ := h
        rcases List.mem_cons.1 hm with rfl | hm
        · exact absurd h2 hz
        · exact ih ⟨l, hm, h1, h2⟩ _
    · rw [if_neg hx]
      obtain ⟨l, hm, h1, h2⟩ := h
      rcases List.mem_cons.1 hm with rfl | hm
      · exact absurd h1 hx
      · exact ih ⟨l, hm, h1, h2⟩ _
theorem zR_solid {p : V3} {ls : List Lf} (h : ∃ l ∈ ls, holdsB2 l p = true ∧ l.zone = -1) : ∀ z, zR p ls z = -1 := by
  induction ls with
  | nil => obtain ⟨l, hm, _⟩ := h; cases hm
  | cons x ls ih =>
    intro z
    simp only [zR]
    by_cases hx : holdsB2 x p = true ∧ x.zone < 0
    · rw [if_pos hx]
    · rw [if_neg hx]
      obtain ⟨l, hm, h1, h2⟩ := h
      rcases List.mem_cons.1 hm with rfl | hm
      · exact absurd ⟨h1, by omega⟩ hx
      · exact ih ⟨l, hm, h1, h2⟩ _
theorem zP_open {p : V3} {ls : List Lf} (h : ¬ ∃ l ∈ ls, holdsB2 l p = true ∧ l.zone = -1) : ∀ z, zP p ls z = (lastZ (fun l => holdsB2 l p) ls).getD z := by
  induction ls with
  | nil => intro z; rfl
  | cons x ls ih =>
    intro z
    have h' : ¬ ∃ l ∈ ls, holdsB2 l p = true ∧ l.zone = -1 := fun ⟨l, hm, q⟩ => h ⟨l, by simp [hm], q⟩
    simp only [zP, lastZ]
    by_cases hx : holdsB2 x p = true
    · rw [if_pos hx, if_neg (fun hz => h ⟨x, by simp, hx, hz⟩), ih h']
      cases lastZ (fun l => holdsB2 l p) ls <;> simp [hx]
    · rw [if_neg hx, ih h']
      cases lastZ (fun l => holdsB2 l p) ls <;> simp [hx]
theorem zR_open {p : V3} {ls : List Lf} (hz : ∀ l ∈ ls, -1 ≤ l.zone) (h : ¬ ∃ l ∈ ls, holdsB2 l p = true ∧ l.zone = -1) : ∀ z, zR p ls z = (lastZ (fun l => ownB l p) ls).getD z := by
  induction ls with
  | nil => intro z; rfl
  | cons x ls ih =>
    intro z
    have h' : ¬ ∃ l ∈ ls, holdsB2 l p = true ∧ l.zone = -1 := fun ⟨l, hm, q⟩ => h ⟨l, by simp [hm], q⟩
    have hx : ¬ (holdsB2 x p = true ∧ x.zone < 0) := fun ⟨a, b⟩ => h ⟨x, by simp, a, by have := hz x (by simp); omega⟩
    simp only [zR, lastZ]
    rw [if_neg hx, ih (fun l hm => hz l (by simp [hm])) h']
    cases lastZ (fun l => ownB l p) ls with
    | some q => rfl
    | none => by_cases ho : ownB x p = true <;> simp [ho]

/-- The point lies in the region. -/
structure InB (lo hi p : V3) : Prop where
  x1 : lo.x ≤ p.x
  x2 : p.x ≤ hi.x
  y1 : lo.y ≤ p.y
  y2 : p.y ≤ hi.y
  z1 : lo.z ≤ p.z
  z2 : p.z ≤ hi.z
theorem holdsB2_iff {l : Lf} {p : V3} : holdsB2 l p = true ↔ InB l.lo l.hi p := by
  unfold holdsB2
  simp only [Bool.and_eq_true, decide_eq_true_eq]
  exact ⟨fun ⟨⟨⟨⟨⟨a, b⟩, c⟩, d⟩, e⟩, f⟩ => ⟨a, b, c, d, e, f⟩, fun ⟨a, b, c, d, e, f⟩ => ⟨⟨⟨⟨⟨a, b⟩, c⟩, d⟩, e⟩, f⟩⟩

/-- The leaves of a tree with a region. -/
structure Cov (lo hi : V3) (ls : List Lf) : Prop where
  sub : ∀ l ∈ ls, ∀ p, InB l.lo l.hi p → InB lo hi p
  all : ∀ p, InB lo hi p → ∃ l ∈ ls, InB l.lo l.hi p
  own : ∀ p, InB lo hi p → freeB hi p = true → lastZ (fun l => ownB l p) ls = lastZ (fun l => holdsB2 l p) ls

theorem Cov.leaf (lo hi : V3) (z : Int) : Cov lo hi [⟨lo, hi, z⟩] := by
  refine ⟨fun l hm p hp => ?_, fun p hp => ⟨_, List.mem_singleton.2 rfl, hp⟩, fun p hp hf => ?_⟩
  · rw [List.mem_singleton.1 hm] at hp; exact hp
  · have h1 : holdsB2 ⟨lo, hi, z⟩ p = true := holdsB2_iff.2 hp
    have h2 : ownB ⟨lo, hi, z⟩ p = true := by unfold ownB; rw [h1]; simpa using hf
    simp [lastZ, h1, h2]

theorem planes3 {c : Int} (h : planeB c = true) : c = 120 ∨ c = 121 ∨ c = 122 := by unfold planeB at h; simp at h; omega

theorem Cov.split {lo hi : V3} {c v : Int} (hc : planeB c = true) (h1 : getAx lo c < v) (h2 : v < getAx hi c) {a b : List Lf} (ha : Cov lo (setAx hi c v) a) (hb : Cov (setAx lo c v) hi b) : Cov lo hi (a ++ b) := by
  rcases planes3 hc with rfl | rfl | rfl
  · rw [show setAx hi 120 v = ⟨v, hi.y, hi.z⟩ from rfl] at ha
    rw [show setAx lo 120 v = ⟨v, lo.y, lo.z⟩ from rfl] at hb
    rw [show getAx lo 120 = lo.x from rfl] at h1
    rw [show getAx hi 120 = hi.x from rfl] at h2
    refine ⟨fun l hm p hp => ?_, fun p hp => ?_, fun p hp hf => ?_⟩
    · rcases List.mem_append.1 hm with hm | hm
      · obtain ⟨a1, a2, a3, a4, a5, a6⟩ := ha.sub l hm p hp
        simp only at a1 a2 a3 a4 a5 a6
        exact ⟨by omega, by omega, by omega, by omega, by omega, by omega⟩
      · obtain ⟨a1, a2, a3, a4, a5, a6⟩ := hb.sub l hm p hp
        simp only at a1 a2 a3 a4 a5 a6
        exact ⟨by omega, by omega, by omega, by omega, by omega, by omega⟩
    · obtain ⟨a1, a2, a3, a4, a5, a6⟩ := hp
      by_cases hx : p.x < v
      · obtain ⟨l, hm, q⟩ := ha.all p ⟨(by first | omega | (dsimp only; omega)), (by first | omega | (dsimp only; omega)), (by first | omega | (dsimp only; omega)), (by first | omega | (dsimp only; omega)), (by first | omega | (dsimp only; omega)), (by first | omega | (dsimp only; omega))⟩
        exact ⟨l, List.mem_append.2 (.inl hm), q⟩
      · obtain ⟨l, hm, q⟩ := hb.all p ⟨(by first | omega | (dsimp only; omega)), (by first | omega | (dsimp only; omega)), (by first | omega | (dsimp only; omega)), (by first | omega | (dsimp only; omega)), (by first | omega | (dsimp only; omega)), (by first | omega | (dsimp only; omega))⟩
        exact ⟨l, List.mem_append.2 (.inr hm), q⟩
    · obtain ⟨a1, a2, a3, a4, a5, a6⟩ := hp
      rw [lastZ_append, lastZ_append]
      by_cases hx : p.x < v
      · have n1 : ∀ l ∈ b, holdsB2 l p = false := fun l hm => by
          cases hh : holdsB2 l p
          · rfl
          · have := (hb.sub l hm p (holdsB2_iff.1 hh)).x1
            simp only at this
            omega
        have n2 : ∀ l ∈ b, ownB l p = false := fun l hm => by unfold ownB; rw [n1 l hm]; rfl
        rw [lastZ_none n1, lastZ_none n2]
        refine ha.own p ⟨(by first | omega | (dsimp only; omega)), (by first | omega | (dsimp only; omega)), (by first | omega | (dsimp only; omega)), (by first | omega | (dsimp only; omega)), (by first | omega | (dsimp only; omega)), (by first | omega | (dsimp only; omega))⟩ ?_
        unfold freeB at hf ⊢
        simp only [Bool.and_eq_true, Bool.not_eq_true', Bool.and_eq_false_iff, decide_eq_false_iff_not] at hf ⊢
        omega
      · have ip : InB ⟨v, lo.y, lo.z⟩ hi p := ⟨(by first | omega | (dsimp only; omega)), (by first | omega | (dsimp only; omega)), (by first | omega | (dsimp only; omega)), (by first | omega | (dsimp only; omega)), (by first | omega | (dsimp only; omega)), (by first | omega | (dsimp only; omega))⟩
        rw [hb.own p ip hf]
        obtain ⟨l, hm, q⟩ := hb.all p ip
        obtain ⟨z, hz⟩ := lastZ_some (f := fun l => holdsB2 l p) hm (holdsB2_iff.2 q)
        rw [hz]
  · rw [show setAx hi 121 v = ⟨hi.x, v, hi.z⟩ from rfl] at ha
    rw [show setAx lo 121 v = ⟨lo.x, v, lo.z⟩ from rfl] at hb
    rw [show getAx lo 121 = lo.y from rfl] at h1
    rw [show getAx hi 121 = hi.y from rfl] at h2
    refine ⟨fun l hm p hp => ?_, fun p hp => ?_, fun p hp hf => ?_⟩
    · rcases List.mem_append.1 hm with hm | hm
      · obtain ⟨a1, a2, a3, a4, a5, a6⟩ := ha.sub l hm p hp
        simp only at a1 a2 a3 a4 a5 a6
        exact ⟨by omega, by omega, by omega, by omega, by omega, by omega⟩
      · obtain ⟨a1, a2, a3, a4, a5, a6⟩ := hb.sub l hm p hp
        simp only at a1 a2 a3 a4 a5 a6
        exact ⟨by omega, by omega, by omega, by omega, by omega, by omega⟩
    · obtain ⟨a1, a2, a3, a4, a5, a6⟩ := hp
      by_cases hx : p.y < v
      · obtain ⟨l, hm, q⟩ := ha.all p ⟨(by first | omega | (dsimp only; omega)), (by first | omega | (dsimp only; omega)), (by first | omega | (dsimp only; omega)), (by first | omega | (dsimp only; omega)), (by first | omega | (dsimp only; omega)), (by first | omega | (dsimp only; omega))⟩
        exact ⟨l, List.mem_append.2 (.inl hm), q⟩
      · obtain ⟨l, hm, q⟩ := hb.all p ⟨(by first | omega | (dsimp only; omega)), (by first | omega | (dsimp only; omega)), (by first | omega | (dsimp only; omega)), (by first | omega | (dsimp only; omega)), (by first | omega | (dsimp only; omega)), (by first | omega | (dsimp only; omega))⟩
        exact ⟨l, List.mem_append.2 (.inr hm), q⟩
    · obtain ⟨a1, a2, a3, a4, a5, a6⟩ := hp
      rw [lastZ_append, lastZ_append]
      by_cases hx : p.y < v
      · have n1 : ∀ l ∈ b, holdsB2 l p = false := fun l hm => by
          cases hh : holdsB2 l p
          · rfl
          · have := (hb.sub l hm p (holdsB2_iff.1 hh)).y1
            simp only at this
            omega
        have n2 : ∀ l ∈ b, ownB l p = false := fun l hm => by unfold ownB; rw [n1 l hm]; rfl
        rw [lastZ_none n1, lastZ_none n2]
        refine ha.own p ⟨(by first | omega | (dsimp only; omega)), (by first | omega | (dsimp only; omega)), (by first | omega | (dsimp only; omega)), (by first | omega | (dsimp only; omega)), (by first | omega | (dsimp only; omega)), (by first | omega | (dsimp only; omega))⟩ ?_
        unfold freeB at hf ⊢
        simp only [Bool.and_eq_true, Bool.not_eq_true', Bool.and_eq_false_iff, decide_eq_false_iff_not] at hf ⊢
        omega
      · have ip : InB ⟨lo.x, v, lo.z⟩ hi p := ⟨(by first | omega | (dsimp only; omega)), (by first | omega | (dsimp only; omega)), (by first | omega | (dsimp only; omega)), (by first | omega | (dsimp only; omega)), (by first | omega | (dsimp only; omega)), (by first | omega | (dsimp only; omega))⟩
        rw [hb.own p ip hf]
        obtain ⟨l, hm, q⟩ := hb.all p ip
        obtain ⟨z, hz⟩ := lastZ_some (f := fun l => holdsB2 l p) hm (holdsB2_iff.2 q)
        rw [hz]
  · rw [show setAx hi 122 v = ⟨hi.x, hi.y, v⟩ from rfl] at ha
    rw [show setAx lo 122 v = ⟨lo.x, lo.y, v⟩ from rfl] at hb
    rw [show getAx lo 122 = lo.z from rfl] at h1
    rw [show getAx hi 122 = hi.z from rfl] at h2
    refine ⟨fun l hm p hp => ?_, fun p hp => ?_, fun p hp hf => ?_⟩
    · rcases List.mem_append.1 hm with hm | hm
      · obtain ⟨a1, a2, a3, a4, a5, a6⟩ := ha.sub l hm p hp
        simp only at a1 a2 a3 a4 a5 a6
        exact ⟨by omega, by omega, by omega, by omega, by omega, by omega⟩
      · obtain ⟨a1, a2, a3, a4, a5, a6⟩ := hb.sub l hm p hp
        simp only at a1 a2 a3 a4 a5 a6
        exact ⟨by omega, by omega, by omega, by omega, by omega, by omega⟩
    · obtain ⟨a1, a2, a3, a4, a5, a6⟩ := hp
      by_cases hx : p.z < v
      · obtain ⟨l, hm, q⟩ := ha.all p ⟨(by first | omega | (dsimp only; omega)), (by first | omega | (dsimp only; omega)), (by first | omega | (dsimp only; omega)), (by first | omega | (dsimp only; omega)), (by first | omega | (dsimp only; omega)), (by first | omega | (dsimp only; omega))⟩
        exact ⟨l, List.mem_append.2 (.inl hm), q⟩
      · obtain ⟨l, hm, q⟩ := hb.all p ⟨(by first | omega | (dsimp only; omega)), (by first | omega | (dsimp only; omega)), (by first | omega | (dsimp only; omega)), (by first | omega | (dsimp only; omega)), (by first | omega | (dsimp only; omega)), (by first | omega | (dsimp only; omega))⟩
        exact ⟨l, List.mem_append.2 (.inr hm), q⟩
    · obtain ⟨a1, a2, a3, a4, a5, a6⟩ := hp
      rw [lastZ_append, lastZ_append]
      by_cases hx : p.z < v
      · have n1 : ∀ l ∈ b, holdsB2 l p = false := fun l hm => by
          cases hh : holdsB2 l p
          · rfl
          · have := (hb.sub l hm p (holdsB2_iff.1 hh)).z1
            simp only at this
            omega
        have n2 : ∀ l ∈ b, ownB l p = false := fun l hm => by unfold ownB; rw [n1 l hm]; rfl
        rw [lastZ_none n1, lastZ_none n2]
        refine ha.own p ⟨(by first | omega | (dsimp only; omega)), (by first | omega | (dsimp only; omega)), (by first | omega | (dsimp only; omega)), (by first | omega | (dsimp only; omega)), (by first | omega | (dsimp only; omega)), (by first | omega | (dsimp only; omega))⟩ ?_
        unfold freeB at hf ⊢
        simp only [Bool.and_eq_true, Bool.not_eq_true', Bool.and_eq_false_iff, decide_eq_false_iff_not] at hf ⊢
        omega
      · have ip : InB ⟨lo.x, lo.y, v⟩ hi p := ⟨(by first | omega | (dsimp only; omega)), (by first | omega | (dsimp only; omega)), (by first | omega | (dsimp only; omega)), (by first | omega | (dsimp only; omega)), (by first | omega | (dsimp only; omega)), (by first | omega | (dsimp only; omega))⟩
        rw [hb.own p ip hf]
        obtain ⟨l, hm, q⟩ := hb.all p ip
        obtain ⟨z, hz⟩ := lastZ_some (f := fun l => holdsB2 l p) hm (holdsB2_iff.2 q)
        rw [hz]

theorem wrong_mono (s : ByteArray) : ∀ (r : Nat) (lo hi : V3) (st : St), 0 ≤ st.wrong → 0 ≤ (tree s r lo hi st).2.wrong
  | r, lo, hi, st, h => by
    by_cases hl : leafB (byteAt s st.place) = true
    · rw [tree_leaf hl]; exact h
    have hl' : leafB (byteAt s st.place) = false := by simpa using hl
    cases r with
    | zero => rw [tree_deep hl']; exact h
    | succ r =>
      by_cases h2 : planeB (byteAt s st.place) = false
      · rw [tree_none hl' h2]; exact h
      have h2' : planeB (byteAt s st.place) = true := by simpa using h2
      by_cases h3 : hexV (byteAt s (st.place + 1)) < 0
      · rw [tree_bad1 hl' h2' h3]; exact h
      by_cases h4 : hexV (byteAt s (st.place + 2)) < 0
      · rw [tree_bad2 hl' h2' h3 h4]; exact h
      rw [tree_plane hl' h2' h3 h4]
      have e0 : 0 ≤ (st.cut s lo hi).wrong := by
        unfold St.cut St.plane
        simp only
        split <;> omega
      have e1 := wrong_mono s r lo (lowHi s st hi) (st.cut s lo hi) e0
      split
      · exact wrong_mono s r (upLo s st lo) hi _ e1
      · exact e1

/-- A tree that reads, and whose planes lie inside, covers its region. -/
theorem tree_cov (s : ByteArray) : ∀ (r : Nat) (lo hi : V3) (st : St), (tree s r lo hi st).1 = true → (tree s r lo hi st).2.wrong < 0 → ∃ ls, (tree s r lo hi st).2.leaves = st.leaves ++ ls ∧ Cov lo hi ls
  | r, lo, hi, st, h, hw => by
    by_cases hl : leafB (byteAt s st.place) = true
    · rw [tree_leaf hl]; exact ⟨_, rfl, Cov.leaf _ _ _⟩
    have hl' : leafB (byteAt s st.place) = false := by simpa using hl
    cases r with
    | zero => rw [tree_deep hl'] at h; cases h
    | succ r =>
      by_cases h2 : planeB (byteAt s st.place) = false
      · rw [tree_none hl' h2] at h; cases h
      have h2' : planeB (byteAt s st.place) = true := by simpa using h2
      by_cases h3 : hexV (byteAt s (st.place + 1)) < 0
      · rw [tree_bad1 hl' h2' h3] at h; cases h
      by_cases h4 : hexV (byteAt s (st.place + 2)) < 0
      · rw [tree_bad2 hl' h2' h3 h4] at h; cases h
      rw [tree_plane hl' h2' h3 h4] at h hw ⊢
      by_cases hx : (tree s r lo (lowHi s st hi) (st.cut s lo hi)).1 = true
      · rw [if_pos hx] at h hw ⊢
        have w1 : (tree s r lo (lowHi s st hi) (st.cut s lo hi)).2.wrong < 0 := by
          rcases Int.lt_or_le (tree s r lo (lowHi s st hi) (st.cut s lo hi)).2.wrong 0 with y | y
          · exact y
          · have := wrong_mono s r (upLo s st lo) hi _ y; omega
        have w0 : (st.cut s lo hi).wrong < 0 := by
          rcases Int.lt_or_le (st.cut s lo hi).wrong 0 with y | y
          · exact y
          · have := wrong_mono s r lo (lowHi s st hi) _ y; omega
        have hin : insideB lo hi (byteAt s st.place) (planeAt s st.place) = true := by
          cases hi' : insideB lo hi (byteAt s st.place) (planeAt s st.place)
          · exfalso
            unfold St.cut St.plane at w0
            rw [hi'] at w0
            by_cases y : st.wrong < 0
            · rw [if_pos ⟨y, rfl⟩] at w0; dsimp only at w0; omega
            · rw [if_neg (by simp [y])] at w0; dsimp only at w0; omega
          · rfl
        obtain ⟨a, ea, ca⟩ := tree_cov s r lo (lowHi s st hi) (st.cut s lo hi) hx w1
        obtain ⟨b, eb, cb⟩ := tree_cov s r (upLo s st lo) hi _ h hw
        unfold insideB at hin
        simp only [Bool.and_eq_true, decide_eq_true_eq] at hin
        refine ⟨a ++ b, ?_, Cov.split h2' hin.1 hin.2 ca cb⟩
        rw [eb, ea, List.append_assoc]
        rfl
      · rw [if_neg hx] at h
        exact absurd h hx

/-- The two ways to tell the zone of a point of the cube are one. -/
theorem zones_one {s : ByteArray} (h : (top s).1 = true) (hw : (top s).2.wrong < 0) {p : V3} (hp : InB cubeLo cubeHi p) : zP p (top s).2.leaves (-1) = zR p (top s).2.leaves (-1) := by
  obtain ⟨ls, e, hc⟩ := tree_cov s 12 cubeLo cubeHi st0 h hw
  have e' : (top s).2.leaves = ls := by
    show (tree s 12 cubeLo cubeHi st0).2.leaves = ls
    rw [e]; rfl
  have hz : ∀ l ∈ ls, -1 ≤ l.zone := fun l hm => ((top_inv s).bx l (by rw [e']; exact hm)).2.2.1
  rw [e']
  by_cases hs : ∃ l ∈ ls, holdsB2 l p = true ∧ l.zone = -1
  · rw [zP_solid hs, zR_solid hs]
  · rw [zP_open hs, zR_open hz hs, hc.own p hp]
    unfold freeB cubeHi
    simp

end Go.Proofs.Ytonmihojfcjmjaa.M
