/- What a map's text means: no Go in sight. -/
import Derived.Test.YtonmihojfcjmjaaMath
namespace Go.Proofs.Ytonmihojfcjmjaa.M

/-- A byte of a text; -1 behind its end. -/
def byteAt (s : ByteArray) (i : Nat) : Int := if h : i < s.size then (s[i].toNat : Int) else -1
theorem byteAt_lt {s : ByteArray} {i : Nat} (h : i < s.size) : byteAt s i = (s[i].toNat : Int) := by unfold byteAt; rw [dif_pos h]
theorem byteAt_ge {s : ByteArray} {i : Nat} (h : s.size ≤ i) : byteAt s i = -1 := by unfold byteAt; rw [dif_neg (by omega)]
theorem byteAt_in {s : ByteArray} {i : Nat} (h : 0 ≤ byteAt s i) : i < s.size := by
  rcases Nat.lt_or_ge i s.size with x | x
  · exact x
  · rw [byteAt_ge x] at h; omega
theorem byteAt_bd (s : ByteArray) (i : Nat) : -1 ≤ byteAt s i ∧ byteAt s i ≤ 255 := by
  unfold byteAt
  split
  · have := (s[i]).toNat_lt; omega
  · omega

def hexV (c : Int) : Int := if 48 ≤ c ∧ c ≤ 57 then c - 48 else if 97 ≤ c ∧ c ≤ 102 then c - 97 + 10 else -1
theorem hexV_bd (c : Int) : -1 ≤ hexV c ∧ hexV c ≤ 15 := by unfold hexV; repeat' split <;> omega
theorem hexV_zone (c : Int) : (0 ≤ hexV c ∧ hexV c < 8) ↔ (48 ≤ c ∧ c ≤ 55) := by unfold hexV; repeat' split <;> omega
theorem hexV_in {s : ByteArray} {i : Nat} (h : 0 ≤ hexV (byteAt s i)) : i < s.size := by
  apply byteAt_in
  unfold hexV at h
  split at h
  · omega
  · split at h <;> omega

structure Lf where
  lo : V3
  hi : V3
  zone : Int

/-- The reader's state. -/
structure St where
  place : Nat
  planes : Nat
  wrong : Int
  leaves : List Lf

def leafB (c : Int) : Bool := decide (c = 35) || (decide (48 ≤ c) && decide (c ≤ 55))
def planeB (c : Int) : Bool := decide (120 ≤ c) && decide (c ≤ 122)
def zoneV (c : Int) : Int := if c = 35 then -1 else c - 48
def getAx (p : V3) (c : Int) : Int := if c = 120 then p.x else if c = 121 then p.y else p.z
def setAx (p : V3) (c v : Int) : V3 := if c = 120 then ⟨v, p.y, p.z⟩ else if c = 121 then ⟨p.x, v, p.z⟩ else ⟨p.x, p.y, v⟩
def insideB (lo hi : V3) (c v : Int) : Bool := decide (getAx lo c < v) && decide (v < getAx hi c)
def planeAt (s : ByteArray) (i : Nat) : Int := 16 * (16 * hexV (byteAt s (i + 1)) + hexV (byteAt s (i + 2)))

def St.goto (st : St) (i : Nat) : St := ⟨i, st.planes, st.wrong, st.leaves⟩
def St.leaf (st : St) (lo hi : V3) (c : Int) : St := ⟨st.place + 1, st.planes, st.wrong, st.leaves ++ [⟨lo, hi, zoneV c⟩]⟩
def St.plane (st : St) (ok : Bool) : St := ⟨st.place + 3, st.planes + 1, if st.wrong < 0 ∧ ok = false then (st.planes : Int) else st.wrong, st.leaves⟩

def tree (s : ByteArray) : Nat → V3 → V3 → St → Bool × St
  | 0, lo, hi, st => if leafB (byteAt s st.place) = true then (true, st.leaf lo hi (byteAt s st.place)) else (false, st)
  | r + 1, lo, hi, st =>
    if leafB (byteAt s st.place) = true then (true, st.leaf lo hi (byteAt s st.place)) else
    if planeB (byteAt s st.place) = false then (false, st) else
    if hexV (byteAt s (st.place + 1)) < 0 then (false, st.goto (st.place + 1)) else
    if hexV (byteAt s (st.place + 2)) < 0 then (false, st.goto (st.place + 2)) else
    if (tree s r lo (setAx hi (byteAt s st.place) (planeAt s st.place)) (st.plane (insideB lo hi (byteAt s st.place) (planeAt s st.place)))).1 = true then
      tree s r (setAx lo (byteAt s st.place) (planeAt s st.place)) hi (tree s r lo (setAx hi (byteAt s st.place) (planeAt s st.place)) (st.plane (insideB lo hi (byteAt s st.place) (planeAt s st.place)))).2
    else tree s r lo (setAx hi (byteAt s st.place) (planeAt s st.place)) (st.plane (insideB lo hi (byteAt s st.place) (planeAt s st.place)))

theorem tree_leaf {s : ByteArray} {r : Nat} {lo hi : V3} {st : St} (h : leafB (byteAt s st.place) = true) : tree s r lo hi st = (true, st.leaf lo hi (byteAt s st.place)) := by
  cases r <;> unfold tree <;> rw [if_pos h]
theorem tree_none {s : ByteArray} {r : Nat} {lo hi : V3} {st : St} (h : leafB (byteAt s st.place) = false) (h2 : planeB (byteAt s st.place) = false) : tree s r lo hi st = (false, st) := by
  cases r <;> unfold tree <;> rw [if_neg (by simp [h])]
  rw [if_pos h2]
theorem tree_deep {s : ByteArray} {lo hi : V3} {st : St} (h : leafB (byteAt s st.place) = false) : tree s 0 lo hi st = (false, st) := by
  unfold tree; rw [if_neg (by simp [h])]
theorem tree_bad1 {s : ByteArray} {r : Nat} {lo hi : V3} {st : St} (h : leafB (byteAt s st.place) = false) (h2 : planeB (byteAt s st.place) = true) (h3 : hexV (byteAt s (st.place + 1)) < 0) :
    tree s (r + 1) lo hi st = (false, st.goto (st.place + 1)) := by
  unfold tree; rw [if_neg (by simp [h]), if_neg (by simp [h2]), if_pos h3]
theorem tree_bad2 {s : ByteArray} {r : Nat} {lo hi : V3} {st : St} (h : leafB (byteAt s st.place) = false) (h2 : planeB (byteAt s st.place) = true) (h3 : ¬ hexV (byteAt s (st.place + 1)) < 0) (h4 : hexV (byteAt s (st.place + 2)) < 0) :
    tree s (r + 1) lo hi st = (false, st.goto (st.place + 2)) := by
  unfold tree; rw [if_neg (by simp [h]), if_neg (by simp [h2]), if_neg h3, if_pos h4]

def lowHi (s : ByteArray) (st : St) (hi : V3) : V3 := setAx hi (byteAt s st.place) (planeAt s st.place)
def upLo (s : ByteArray) (st : St) (lo : V3) : V3 := setAx lo (byteAt s st.place) (planeAt s st.place)
def St.cut (s : ByteArray) (st : St) (lo hi : V3) : St := st.plane (insideB lo hi (byteAt s st.place) (planeAt s st.place))
theorem tree_plane {s : ByteArray} {r : Nat} {lo hi : V3} {st : St} (h : leafB (byteAt s st.place) = false) (h2 : planeB (byteAt s st.place) = true) (h3 : ¬ hexV (byteAt s (st.place + 1)) < 0) (h4 : ¬ hexV (byteAt s (st.place + 2)) < 0) :
    tree s (r + 1) lo hi st = if (tree s r lo (lowHi s st hi) (st.cut s lo hi)).1 = true then tree s r (upLo s st lo) hi (tree s r lo (lowHi s st hi) (st.cut s lo hi)).2 else tree s r lo (lowHi s st hi) (st.cut s lo hi) := by
  conv => lhs; unfold tree
  rw [if_neg (by simp [h]), if_neg (by simp [h2]), if_neg h3, if_neg h4]
  rfl

/-- A region within the cube. -/
structure V3.Cub (p : V3) : Prop where
  x1 : 0 ≤ p.x
  x2 : p.x ≤ 4096
  y1 : 0 ≤ p.y
  y2 : p.y ≤ 4096
  z1 : 0 ≤ p.z
  z2 : p.z ≤ 4096

structure St.Inv (st : St) (s : ByteArray) : Prop where
  pl : st.place ≤ s.size
  pn : st.planes ≤ st.place
  lv : st.leaves.length ≤ st.place
  w1 : -1 ≤ st.wrong
  w2 : st.wrong ≤ st.planes
  bx : ∀ l ∈ st.leaves, l.lo.Cub ∧ l.hi.Cub ∧ -1 ≤ l.zone ∧ l.zone ≤ 7

theorem V3.Cub.set {p : V3} (h : p.Cub) {c v : Int} (h0 : 0 ≤ v) (h1 : v ≤ 4096) : (setAx p c v).Cub := by
  unfold setAx
  have := h.x1; have := h.x2; have := h.y1; have := h.y2; have := h.z1; have := h.z2
  split
  · constructor <;> assumption
  · split <;> constructor <;> assumption

theorem planeAt_bd {s : ByteArray} {i : Nat} (h3 : ¬ hexV (byteAt s (i + 1)) < 0) (h4 : ¬ hexV (byteAt s (i + 2)) < 0) : 0 ≤ planeAt s i ∧ planeAt s i ≤ 4080 := by
  unfold planeAt
  have := hexV_bd (byteAt s (i + 1)); have := hexV_bd (byteAt s (i + 2)); omega

theorem Inv_leaf {s : ByteArray} {st : St} {lo hi : V3} (h : st.Inv s) (hlo : lo.Cub) (hhi : hi.Cub) (hl : leafB (byteAt s st.place) = true) : (st.leaf lo hi (byteAt s st.place)).Inv s := by
  have hb : 0 ≤ byteAt s st.place := by unfold leafB at hl; simp at hl; omega
  have hz : -1 ≤ zoneV (byteAt s st.place) ∧ zoneV (byteAt s st.place) ≤ 7 := by
    unfold leafB at hl; simp at hl; unfold zoneV; split <;> omega
  have hp := byteAt_in hb
  refine ⟨by simp [St.leaf]; omega, by simp [St.leaf]; have := h.pn; omega, by simp [St.leaf]; exact h.lv, h.w1, h.w2, ?_⟩
  intro l hm
  simp [St.leaf] at hm
  rcases hm with hm | rfl
  · exact h.bx l hm
  · exact ⟨hlo, hhi, hz.1, hz.2⟩

theorem Inv_cut {s : ByteArray} {st : St} {lo hi : V3} (h : st.Inv s) (h4 : ¬ hexV (byteAt s (st.place + 2)) < 0) : (st.cut s lo hi).Inv s := by
  have hp := hexV_in (s := s) (i := st.place + 2) (by omega)
  have := h.pn; have := h.lv; have := h.w1; have := h.w2
  unfold St.cut St.plane
  refine ⟨by simp; omega, by simp; omega, by simp; omega, ?_, ?_, h.bx⟩
  · simp only; split <;> omega
  · simp only; split <;> omega

theorem tree_inv (s : ByteArray) : ∀ (r : Nat) (lo hi : V3) (st : St), lo.Cub → hi.Cub → st.Inv s → (tree s r lo hi st).2.Inv s
  | r, lo, hi, st, hlo, hhi, h => by
    by_cases hl : leafB (byteAt s st.place) = true
    · rw [tree_leaf hl]; exact Inv_leaf h hlo hhi hl
    have hl' : leafB (byteAt s st.place) = false := by simpa using hl
    cases r with
    | zero => rw [tree_deep hl']; exact h
    | succ r =>
      by_cases h2 : planeB (byteAt s st.place) = false
      · rw [tree_none hl' h2]; exact h
      have h2' : planeB (byteAt s st.place) = true := by simpa using h2
      have hp : st.place < s.size := byteAt_in (by unfold planeB at h2'; simp at h2'; omega)
      have i1 := h.pl; have i2 := h.pn; have i3 := h.lv; have i4 := h.w2
      by_cases h3 : hexV (byteAt s (st.place + 1)) < 0
      · rw [tree_bad1 hl' h2' h3]
        exact ⟨by simp [St.goto]; omega, by simp [St.goto]; omega, by simp [St.goto]; omega, h.w1, by simp [St.goto]; omega, h.bx⟩
      have hp1 := hexV_in (s := s) (i := st.place + 1) (by omega)
      by_cases h4 : hexV (byteAt s (st.place + 2)) < 0
      · rw [tree_bad2 hl' h2' h3 h4]
        exact ⟨by simp [St.goto]; omega, by simp [St.goto]; omega, by simp [St.goto]; omega, h.w1, by simp [St.goto]; omega, h.bx⟩
      have hbd := planeAt_bd h3 h4
      rw [tree_plane hl' h2' h3 h4]
      have e1 := tree_inv s r lo (lowHi s st hi) (st.cut s lo hi) hlo (hhi.set hbd.1 (by omega)) (Inv_cut h h4)
      split
      · exact tree_inv s r (upLo s st lo) hi _ (hlo.set hbd.1 (by omega)) hhi e1
      · exact e1

def pairsF (s : ByteArray) : Nat → Nat → Option Nat
  | 0, _ => none
  | f + 1, i => if i < s.size then
      if byteAt s i ≠ 59 then some i else
      if ¬ (48 ≤ byteAt s (i + 1) ∧ byteAt s (i + 1) ≤ 55) then some (i + 1) else
      if ¬ (48 ≤ byteAt s (i + 2) ∧ byteAt s (i + 2) ≤ 55) then some (i + 2) else pairsF s f (i + 3)
    else none

def pairStep (s : ByteArray) (i : Nat) : Option Nat :=
  if byteAt s i ≠ 59 then some i else
  if ¬ (48 ≤ byteAt s (i + 1) ∧ byteAt s (i + 1) ≤ 55) then some (i + 1) else
  if ¬ (48 ≤ byteAt s (i + 2) ∧ byteAt s (i + 2) ≤ 55) then some (i + 2) else none
theorem pairsF_end {s : ByteArray} {f i : Nat} (h : s.size ≤ i) : pairsF s f i = none := by
  cases f <;> unfold pairsF
  · rfl
  · rw [if_neg (by omega)]
theorem pairsF_bad {s : ByteArray} {f i k : Nat} (h : i < s.size) (hk : pairStep s i = some k) : pairsF s (f + 1) i = some k := by
  unfold pairsF
  rw [if_pos h]
  unfold pairStep at hk
  repeat' split at hk
  · rename_i a; rw [if_pos a]; exact hk
  · rename_i a b; rw [if_neg a, if_pos b]; exact hk
  · rename_i a b c; rw [if_neg a, if_neg b, if_pos c]; exact hk
  · cases hk
theorem pairsF_good {s : ByteArray} {f i : Nat} (h : i < s.size) (hk : pairStep s i = none) : pairsF s (f + 1) i = pairsF s f (i + 3) := by
  conv => lhs; unfold pairsF
  rw [if_pos h]
  unfold pairStep at hk
  repeat' split at hk
  · cases hk
  · cases hk
  · cases hk
  · rename_i a b c; rw [if_neg a, if_neg b, if_neg c]
theorem pairStep_in {s : ByteArray} {i : Nat} (hk : pairStep s i = none) : i + 2 < s.size := by
  unfold pairStep at hk
  repeat' split at hk
  · cases hk
  · cases hk
  · cases hk
  · rename_i a b c; exact byteAt_in (by omega)
theorem pairStep_le {s : ByteArray} {i k : Nat} (h : i < s.size) (hk : pairStep s i = some k) : k ≤ s.size := by
  unfold pairStep at hk
  repeat' split at hk
  · cases hk; omega
  · cases hk; omega
  · rename_i a b c
    have : i + 1 < s.size := byteAt_in (by omega)
    cases hk; omega
  · cases hk

def cubeLo : V3 := ⟨0, 0, 0⟩
def cubeHi : V3 := ⟨4096, 4096, 4096⟩
def st0 : St := ⟨0, 0, -1, []⟩
theorem st0_inv (s : ByteArray) : st0.Inv s := ⟨by simp [st0], by simp [st0], by simp [st0], by simp [st0], by simp [st0], by simp [st0]⟩
theorem cubeLo_cub : cubeLo.Cub := by constructor <;> simp [cubeLo]
theorem cubeHi_cub : cubeHi.Cub := by constructor <;> simp [cubeHi]

/-- The tree of a text. -/
def top (s : ByteArray) : Bool × St := tree s 12 cubeLo cubeHi st0
theorem top_inv (s : ByteArray) : (top s).2.Inv s := tree_inv s 12 _ _ _ cubeLo_cub cubeHi_cub (st0_inv s)
/-- What Check tells: the error and the place; and the leaves. -/
def errS (s : ByteArray) : Int × Int :=
  if 512 < s.size then (2, 0) else
  if (top s).1 = false then (3, (top s).2.place) else
  match pairsF s (s.size + 1) (top s).2.place with
  | some k => (3, (k : Int))
  | none => if 0 ≤ (top s).2.wrong then (4, (top s).2.wrong) else (0, 0)

/-- Several trees, one behind the other. -/
def trees (s : ByteArray) : List (Nat × V3 × V3) → St → Bool × St
  | [], st => (true, st)
  | (r, lo, hi) :: rest, st => if (tree s r lo hi st).1 = true then trees s rest (tree s r lo hi st).2 else tree s r lo hi st

theorem trees_one (s : ByteArray) (r : Nat) (lo hi : V3) (st : St) : trees s [(r, lo, hi)] st = tree s r lo hi st := by
  unfold trees
  split
  · rename_i h
    unfold trees
    exact Prod.ext h.symm rfl
  · rfl
theorem trees_leaf {s : ByteArray} {r : Nat} {lo hi : V3} {rest : List (Nat × V3 × V3)} {st : St} (h : leafB (byteAt s st.place) = true) :
    trees s ((r, lo, hi) :: rest) st = trees s rest (st.leaf lo hi (byteAt s st.place)) := by
  conv => lhs; unfold trees
  rw [tree_leaf h]; rfl
theorem trees_none {s : ByteArray} {r : Nat} {lo hi : V3} {rest : List (Nat × V3 × V3)} {st : St} (h : leafB (byteAt s st.place) = false) (h2 : planeB (byteAt s st.place) = false) :
    trees s ((r, lo, hi) :: rest) st = (false, st) := by
  unfold trees; rw [tree_none h h2]; rfl
theorem trees_deep {s : ByteArray} {lo hi : V3} {rest : List (Nat × V3 × V3)} {st : St} (h : leafB (byteAt s st.place) = false) :
    trees s ((0, lo, hi) :: rest) st = (false, st) := by
  unfold trees; rw [tree_deep h]; rfl
theorem trees_bad1 {s : ByteArray} {r : Nat} {lo hi : V3} {rest : List (Nat × V3 × V3)} {st : St} (h : leafB (byteAt s st.place) = false) (h2 : planeB (byteAt s st.place) = true) (h3 : hexV (byteAt s (st.place + 1)) < 0) :
    trees s ((r + 1, lo, hi) :: rest) st = (false, st.goto (st.place + 1)) := by
  unfold trees; rw [tree_bad1 h h2 h3]; rfl
theorem trees_bad2 {s : ByteArray} {r : Nat} {lo hi : V3} {rest : List (Nat × V3 × V3)} {st : St} (h : leafB (byteAt s st.place) = false) (h2 : planeB (byteAt s st.place) = true) (h3 : ¬ hexV (byteAt s (st.place + 1)) < 0) (h4 : hexV (byteAt s (st.place + 2)) < 0) :
    trees s ((r + 1, lo, hi) :: rest) st = (false, st.goto (st.place + 2)) := by
  unfold trees; rw [tree_bad2 h h2 h3 h4]; rfl
theorem trees_plane {s : ByteArray} {r : Nat} {lo hi : V3} {rest : List (Nat × V3 × V3)} {st : St} (h : leafB (byteAt s st.place) = false) (h2 : planeB (byteAt s st.place) = true) (h3 : ¬ hexV (byteAt s (st.place + 1)) < 0) (h4 : ¬ hexV (byteAt s (st.place + 2)) < 0) :
    trees s ((r + 1, lo, hi) :: rest) st = trees s ((r, lo, lowHi s st hi) :: (r, upLo s st lo, hi) :: rest) (st.cut s lo hi) := by
  conv => lhs; unfold trees
  conv => rhs; unfold trees
  rw [tree_plane h h2 h3 h4]
  by_cases hx : (tree s r lo (lowHi s st hi) (st.cut s lo hi)).1 = true
  · rw [if_pos hx]
    simp only [hx, if_true]
    conv => rhs; unfold trees
  · rw [if_neg hx, if_neg hx, if_neg hx]

end Go.Proofs.Ytonmihojfcjmjaa.M
