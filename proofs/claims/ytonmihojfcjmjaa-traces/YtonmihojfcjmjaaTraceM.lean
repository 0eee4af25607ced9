/- The first of several boxes; the least time is nought or a border's. No Go in sight. -/
import Derived.Test.YtonmihojfcjmjaaTree
namespace Go.Proofs.Ytonmihojfcjmjaa.M

/-- The least time of those that a test lets by, in lowest terms. -/
structure EntG (U : Int → Int → Prop) (i : Bool) (n e : Int) : Prop where
  yes : i = true → 0 ≤ n ∧ 1 ≤ e ∧ n ≤ e ∧ e ≤ 1048576 ∧ Int.gcd n e = 1 ∧ U n e
  least : i = true → ∀ m k, 1 ≤ k → 0 ≤ m → m ≤ k → U m k → n * k ≤ m * e
  no : i = false → n = 0 ∧ e = 0 ∧ ∀ m k, 1 ≤ k → 0 ≤ m → m ≤ k → ¬ U m k

theorem Ent.toG {p d lo hi : V3} {i : Bool} {n e : Int} (h : Ent p d lo hi i n e) : EntG (lies p d lo hi) i n e := ⟨h.yes, h.least, h.no⟩
theorem EntG.congr {U V : Int → Int → Prop} {i : Bool} {n e : Int} (h : EntG U i n e) (c : ∀ m k, U m k ↔ V m k) : EntG V i n e :=
  ⟨fun x => by obtain ⟨a, b, c1, d, f, g⟩ := h.yes x; exact ⟨a, b, c1, d, f, (c _ _).1 g⟩, fun x m k a b c1 g => h.least x m k a b c1 ((c _ _).2 g), fun x => by obtain ⟨a, b, c1⟩ := h.no x; exact ⟨a, b, fun m k q r t g => c1 m k q r t ((c _ _).2 g)⟩⟩

theorem frac_one {n e m k : Int} (a1 : 1 ≤ e) (b1 : 1 ≤ k) (a5 : Int.gcd n e = 1) (b5 : Int.gcd m k = 1) (x3 : n * k = m * e) : n = m ∧ e = k := by
  have d1 : e ∣ k := by
    have : e ∣ k * n := ⟨m, by rw [Int.mul_comm k n, x3, Int.mul_comm]⟩
    exact dvd_of_coprime this (by rw [Int.gcd_comm]; exact a5)
  have d2 : k ∣ e := by
    have : k ∣ e * m := ⟨n, by rw [Int.mul_comm e m, ← x3, Int.mul_comm]⟩
    exact dvd_of_coprime this (by rw [Int.gcd_comm]; exact b5)
  have e1 : e = k := Int.le_antisymm (Int.le_of_dvd (by omega) d1) (Int.le_of_dvd (by omega) d2)
  subst e1
  exact ⟨Int.eq_of_mul_eq_mul_right (by omega) x3, rfl⟩

theorem EntG.one {U : Int → Int → Prop} {i j : Bool} {n e m k : Int} (h : EntG U i n e) (g : EntG U j m k) : i = j ∧ n = m ∧ e = k := by
  cases i <;> cases j
  · obtain ⟨a, b, _⟩ := h.no rfl
    obtain ⟨c, d, _⟩ := g.no rfl
    exact ⟨rfl, by omega, by omega⟩
  · obtain ⟨_, _, x⟩ := h.no rfl
    obtain ⟨a, b, c, _, _, l⟩ := g.yes rfl
    exact absurd l (x _ _ b a c)
  · obtain ⟨_, _, x⟩ := g.no rfl
    obtain ⟨a, b, c, _, _, l⟩ := h.yes rfl
    exact absurd l (x _ _ b a c)
  · obtain ⟨a1, a2, a3, _, a5, a6⟩ := h.yes rfl
    obtain ⟨b1, b2, b3, _, b5, b6⟩ := g.yes rfl
    have x1 := h.least rfl m k b2 b1 b3 b6
    have x2 := g.least rfl n e a2 a1 a3 a6
    exact ⟨rfl, frac_one a2 b2 a5 b5 (by omega)⟩

theorem EntG.none {U V : Int → Int → Prop} {f : Bool} {n e a b : Int} (h : EntG U f n e) (g : EntG V false a b) : EntG (fun m k => U m k ∨ V m k) f n e := by
  obtain ⟨_, _, gn⟩ := g.no rfl
  refine ⟨fun x => ?_, fun x m k q r t u => ?_, fun x => ?_⟩
  · obtain ⟨c1, c2, c3, c4, c5, c6⟩ := h.yes x; exact ⟨c1, c2, c3, c4, c5, .inl c6⟩
  · rcases u with u | u
    · exact h.least x m k q r t u
    · exact absurd u (gn m k q r t)
  · obtain ⟨c1, c2, c3⟩ := h.no x
    exact ⟨c1, c2, fun m k q r t u => by rcases u with u | u; exact c3 m k q r t u; exact gn m k q r t u⟩
theorem EntG.new {U V : Int → Int → Prop} {n e a b : Int} (h : EntG U false n e) (g : EntG V true a b) : EntG (fun m k => U m k ∨ V m k) true a b := by
  obtain ⟨_, _, gn⟩ := h.no rfl
  refine ⟨fun x => ?_, fun x m k q r t u => ?_, fun x => by cases x⟩
  · obtain ⟨c1, c2, c3, c4, c5, c6⟩ := g.yes rfl; exact ⟨c1, c2, c3, c4, c5, .inr c6⟩
  · rcases u with u | u
    · exact absurd u (gn m k q r t)
    · exact g.least rfl m k q r t u
theorem EntG.less {U V : Int → Int → Prop} {n e a b : Int} (h : EntG U true n e) (g : EntG V true a b) (hx : a * e < n * b) : EntG (fun m k => U m k ∨ V m k) true a b := by
  obtain ⟨c1, c2, c3, c4, c5, c6⟩ := h.yes rfl
  obtain ⟨d1, d2, d3, d4, d5, d6⟩ := g.yes rfl
  refine ⟨fun x => ⟨d1, d2, d3, d4, d5, .inr d6⟩, fun x m k q r t u => ?_, fun x => by cases x⟩
  rcases u with u | u
  · exact later d2 c2 q hx (h.least rfl m k q r t u)
  · exact g.least rfl m k q r t u
theorem EntG.more {U V : Int → Int → Prop} {n e a b : Int} (h : EntG U true n e) (g : EntG V true a b) (hx : ¬ a * e < n * b) : EntG (fun m k => U m k ∨ V m k) true n e := by
  obtain ⟨c1, c2, c3, c4, c5, c6⟩ := h.yes rfl
  obtain ⟨d1, d2, d3, d4, d5, d6⟩ := g.yes rfl
  refine ⟨fun x => ⟨c1, c2, c3, c4, c5, .inl c6⟩, fun x m k q r t u => ?_, fun x => by cases x⟩
  rcases u with u | u
  · exact h.least rfl m k q r t u
  · exact later' d2 c2 q (by omega) (g.least rfl m k q r t u)

/-- What is solid at a time: in one of the first leaves. -/
def US (p d : V3) (ls : List Lf) (m k : Int) : Prop := ∃ l ∈ ls, l.zone = -1 ∧ lies p d l.lo l.hi m k
theorem US_nil {p d : V3} : EntG (US p d []) false 0 0 := ⟨(fun x => by cases x), (fun x => by cases x), fun _ => ⟨rfl, rfl, fun m k _ _ _ ⟨l, hm, _⟩ => by cases hm⟩⟩
theorem US_solid {p d : V3} {ls : List Lf} {l : Lf} (hz : l.zone = -1) (m k : Int) : (US p d ls m k ∨ lies p d l.lo l.hi m k) ↔ US p d (ls ++ [l]) m k := by
  unfold US
  constructor
  · rintro (⟨x, hm, q⟩ | q)
    · exact ⟨x, List.mem_append.2 (.inl hm), q⟩
    · exact ⟨l, List.mem_append.2 (.inr (by simp)), hz, q⟩
  · rintro ⟨x, hm, q⟩
    rcases List.mem_append.1 hm with hm | hm
    · exact .inl ⟨x, hm, q⟩
    · rw [List.mem_singleton.1 hm] at q; exact .inr q.2
theorem US_open {p d : V3} {ls : List Lf} {l : Lf} (hz : l.zone ≠ -1) (m k : Int) : US p d ls m k ↔ US p d (ls ++ [l]) m k := by
  unfold US
  constructor
  · rintro ⟨x, hm, q⟩; exact ⟨x, List.mem_append.2 (.inl hm), q⟩
  · rintro ⟨x, hm, q⟩
    rcases List.mem_append.1 hm with hm | hm
    · exact ⟨x, hm, q⟩
    · rw [List.mem_singleton.1 hm] at q; exact absurd q.1 hz

/-! ### There is a least time -/
theorem nar_exists {S : Int → Int → Prop} {a b c e p d lo hi : Int} (h : Sp S a b c e) (hs : a * e ≤ c * b) (p1 : -1048576 ≤ p) (p2 : p ≤ 1048576) (d1 : -1048576 ≤ d) (d2 : d ≤ 1048576) (l1 : -1048576 ≤ lo) (l2 : lo ≤ 1048576) (h1 : -1048576 ≤ hi) (h2 : hi ≤ 1048576) :
    ∃ a' b' c' e' s, Nar S (on1 p d lo hi) a' b' c' e' s := by
  by_cases h0 : d = 0
  · subst h0; exact ⟨_, _, _, _, _, Nar.still h hs⟩
  by_cases hd : d < 0
  · by_cases t1 : a * (-d) < (p - hi) * b
    · by_cases t2 : (p - lo) * e < c * (-d)
      · exact ⟨_, _, _, _, _, Nar.of ((h.first (by omega) (by omega) (by omega) t1).last (by omega) (by omega) (by omega) (by omega) t2) (fun m k => by rw [on1_down]; exact and_assoc)⟩
      · exact ⟨_, _, _, _, _, Nar.of ((h.first (by omega) (by omega) (by omega) t1).last' (by omega) t2) (fun m k => by rw [on1_down]; exact and_assoc)⟩
    · by_cases t2 : (p - lo) * e < c * (-d)
      · exact ⟨_, _, _, _, _, Nar.of ((h.first' (by omega) t1).last (by omega) (by omega) (by omega) (by omega) t2) (fun m k => by rw [on1_down]; exact and_assoc)⟩
      · exact ⟨_, _, _, _, _, Nar.of ((h.first' (by omega) t1).last' (by omega) t2) (fun m k => by rw [on1_down]; exact and_assoc)⟩
  · by_cases t1 : a * d < (lo - p) * b
    · by_cases t2 : (hi - p) * e < c * d
      · exact ⟨_, _, _, _, _, Nar.of ((h.first (by omega) (by omega) (by omega) t1).last (by omega) (by omega) (by omega) (by omega) t2) (fun m k => by rw [on1_up]; exact and_assoc)⟩
      · exact ⟨_, _, _, _, _, Nar.of ((h.first (by omega) (by omega) (by omega) t1).last' (by omega) t2) (fun m k => by rw [on1_up]; exact and_assoc)⟩
    · by_cases t2 : (hi - p) * e < c * d
      · exact ⟨_, _, _, _, _, Nar.of ((h.first' (by omega) t1).last (by omega) (by omega) (by omega) (by omega) t2) (fun m k => by rw [on1_up]; exact and_assoc)⟩
      · exact ⟨_, _, _, _, _, Nar.of ((h.first' (by omega) t1).last' (by omega) t2) (fun m k => by rw [on1_up]; exact and_assoc)⟩

theorem ent_exists {p d lo hi : V3} (hp : p.Near) (hd : d.Near) (hl : lo.Near) (hh : hi.Near) : ∃ i n e, Ent p d lo hi i n e := by
  obtain ⟨a, b, c, e, s, h1⟩ := nar_exists (p := p.x) (d := d.x) (lo := lo.x) (hi := hi.x) whole (by omega) hp.x1 hp.x2 hd.x1 hd.x2 hl.x1 hl.x2 hh.x1 hh.x2
  cases s
  · exact ⟨_, _, _, Ent.mk_no fun m k q r t x => h1.no rfl m k q r t ⟨trivial, x.1⟩⟩
  obtain ⟨s1, q1⟩ := h1.yes rfl
  obtain ⟨a2, b2, c2, e2, s, h2⟩ := nar_exists (p := p.y) (d := d.y) (lo := lo.y) (hi := hi.y) s1 q1 hp.y1 hp.y2 hd.y1 hd.y2 hl.y1 hl.y2 hh.y1 hh.y2
  cases s
  · exact ⟨_, _, _, Ent.mk_no fun m k q r t x => h2.no rfl m k q r t ⟨⟨trivial, x.1⟩, x.2.1⟩⟩
  obtain ⟨s2, q2⟩ := h2.yes rfl
  obtain ⟨a3, b3, c3, e3, s, h3⟩ := nar_exists (p := p.z) (d := d.z) (lo := lo.z) (hi := hi.z) s2 q2 hp.z1 hp.z2 hd.z1 hd.z2 hl.z1 hl.z2 hh.z1 hh.z2
  cases s
  · exact ⟨_, _, _, Ent.mk_no fun m k q r t x => h3.no rfl m k q r t ⟨⟨⟨trivial, x.1⟩, x.2.1⟩, x.2.2⟩⟩
  obtain ⟨s3, q3⟩ := h3.yes rfl
  exact ⟨_, _, _, Ent.mk_yes s3 (fun m k => by unfold lies; exact ⟨fun x => ⟨x.1.1.2, x.1.2, x.2⟩, fun x => ⟨⟨⟨trivial, x.1⟩, x.2.1⟩, x.2.2⟩⟩) q3 rfl rfl⟩

/-- If no border is met, a little earlier will do. -/
theorem early1 {p d lo hi n e : Int} (d1 : -1048576 ≤ d) (d2 : d ≤ 1048576) (h : on1 p d lo hi n e) (hlo : 0 < d → lo * e ≠ p * e + d * n) (hhi : d < 0 → hi * e ≠ p * e + d * n) : on1 p d lo hi (n * 2097152 - 1) (e * 2097152) := by
  obtain ⟨x, y⟩ := h
  have e1 : lo * (e * 2097152) = lo * e * 2097152 := by rw [Int.mul_assoc]
  have e2 : hi * (e * 2097152) = hi * e * 2097152 := by rw [Int.mul_assoc]
  have e3 : p * (e * 2097152) + d * (n * 2097152 - 1) = (p * e + d * n) * 2097152 - d := by rw [Int.mul_sub, Int.mul_one, ← Int.mul_assoc, ← Int.mul_assoc, Int.add_mul]; omega
  unfold on1
  rw [e1, e2, e3]
  generalize p * e + d * n = X at *
  generalize lo * e = Y at *
  generalize hi * e = Z at *
  constructor
  · by_cases c : 0 < d
    · have := hlo c; omega
    · omega
  · by_cases c : d < 0
    · have := hhi c; omega
    · omega

theorem border {p d lo hi : V3} {n e : Int} (hd : d.Near) (hn : 1 ≤ n) (he : 1 ≤ e) (hne : n ≤ e) (hl : lies p d lo hi n e) (least : ∀ m k, 1 ≤ k → 0 ≤ m → m ≤ k → lies p d lo hi m k → n * k ≤ m * e) :
    (0 < d.x ∧ lo.x * e = p.x * e + d.x * n) ∨ (d.x < 0 ∧ hi.x * e = p.x * e + d.x * n) ∨ (0 < d.y ∧ lo.y * e = p.y * e + d.y * n) ∨ (d.y < 0 ∧ hi.y * e = p.y * e + d.y * n) ∨ (0 < d.z ∧ lo.z * e = p.z * e + d.z * n) ∨ (d.z < 0 ∧ hi.z * e = p.z * e + d.z * n) := by
  apply Classical.byContradiction
  intro hc
  simp only [not_or, not_and] at hc
  obtain ⟨c1, c2, c3, c4, c5, c6⟩ := hc
  have q : lies p d lo hi (n * 2097152 - 1) (e * 2097152) := ⟨early1 hd.x1 hd.x2 hl.1 c1 c2, early1 hd.y1 hd.y2 hl.2.1 c3 c4, early1 hd.z1 hd.z2 hl.2.2 c5 c6⟩
  have r := least _ _ (by omega) (by omega) (by omega) q
  rw [Int.sub_mul, Int.one_mul, ← Int.mul_assoc, Int.mul_right_comm n 2097152 e] at r
  omega

/-! ### The six candidates -/
def cS (lo hi : V3) (k : Nat) : Int := if k % 2 = 1 then getAx hi ((k : Int) / 2 + 120) else getAx lo ((k : Int) / 2 + 120)
def cP (p : V3) (k : Nat) : Int := getAx p ((k : Int) / 2 + 120)
def cA (p d lo hi : V3) (k : Nat) : Int := if cP d k < 0 then -(cS lo hi k - cP p k) else cS lo hi k - cP p k
def cB (d : V3) (k : Nat) : Int := if cP d k < 0 then -(cP d k) else cP d k
def cOk (p d lo hi : V3) (k : Nat) : Prop := cB d k ≠ 0 ∧ 0 ≤ cA p d lo hi k ∧ cA p d lo hi k ≤ cB d k

/-- The least of the first candidates. -/
structure CI (p d lo hi : V3) (j : Nat) (f : Bool) (n e : Int) : Prop where
  yes : f = true → 0 ≤ n ∧ 1 ≤ e ∧ n ≤ e ∧ e ≤ 1048576 ∧ lies p d lo hi n e
  min : f = true → ∀ k, k < j → cOk p d lo hi k → lies p d lo hi (cA p d lo hi k) (cB d k) → n * cB d k ≤ cA p d lo hi k * e
  no : f = false → n = 0 ∧ e = 0 ∧ ∀ k, k < j → cOk p d lo hi k → ¬ lies p d lo hi (cA p d lo hi k) (cB d k)

/-- A candidate whose time is the least one. -/
theorem cand {p d lo hi : V3} {n e : Int} (hd : d.Near) (hn : 1 ≤ n) (he : 1 ≤ e) (hne : n ≤ e) (hl : lies p d lo hi n e) (least : ∀ m k, 1 ≤ k → 0 ≤ m → m ≤ k → lies p d lo hi m k → n * k ≤ m * e) :
    ∃ k, k < 6 ∧ 1 ≤ cB d k ∧ cA p d lo hi k * e = n * cB d k := by
  have up : ∀ {x y : Int} {dd : Int}, y * e = x * e + dd * n → (y - x) * e = n * dd := fun h => by rw [Int.sub_mul, Int.mul_comm n]; omega
  have dn : ∀ {x y : Int} {dd : Int}, y * e = x * e + dd * n → -(y - x) * e = n * -dd := fun h => by rw [Int.neg_mul, Int.sub_mul, Int.mul_neg, Int.mul_comm n]; omega
  rcases border hd hn he hne hl least with ⟨c, h⟩ | ⟨c, h⟩ | ⟨c, h⟩ | ⟨c, h⟩ | ⟨c, h⟩ | ⟨c, h⟩
  · refine ⟨0, by omega, ?_⟩
    have z : ¬ cP d 0 < 0 := by show ¬ d.x < 0; omega
    unfold cA cB; rw [if_neg z, if_neg z]; exact ⟨by show 1 ≤ d.x; omega, up h⟩
  · refine ⟨1, by omega, ?_⟩
    have z : cP d 1 < 0 := by show d.x < 0; omega
    unfold cA cB; rw [if_pos z, if_pos z]; exact ⟨by show 1 ≤ -d.x; omega, dn h⟩
  · refine ⟨2, by omega, ?_⟩
    have z : ¬ cP d 2 < 0 := by show ¬ d.y < 0; omega
    unfold cA cB; rw [if_neg z, if_neg z]; exact ⟨by show 1 ≤ d.y; omega, up h⟩
  · refine ⟨3, by omega, ?_⟩
    have z : cP d 3 < 0 := by show d.y < 0; omega
    unfold cA cB; rw [if_pos z, if_pos z]; exact ⟨by show 1 ≤ -d.y; omega, dn h⟩
  · refine ⟨4, by omega, ?_⟩
    have z : ¬ cP d 4 < 0 := by show ¬ d.z < 0; omega
    unfold cA cB; rw [if_neg z, if_neg z]; exact ⟨by show 1 ≤ d.z; omega, up h⟩
  · refine ⟨5, by omega, ?_⟩
    have z : cP d 5 < 0 := by show d.z < 0; omega
    unfold cA cB; rw [if_pos z, if_pos z]; exact ⟨by show 1 ≤ -d.z; omega, dn h⟩

theorem cand_ok {p d lo hi : V3} {n e : Int} {k : Nat} (hn : 1 ≤ n) (he : 1 ≤ e) (hne : n ≤ e) (hl : lies p d lo hi n e) (hb : 1 ≤ cB d k) (hx : cA p d lo hi k * e = n * cB d k) : cOk p d lo hi k ∧ lies p d lo hi (cA p d lo hi k) (cB d k) := by
  have h1 : 0 ≤ n * cB d k := Int.mul_nonneg (by omega) (by omega)
  have h2 : n * cB d k ≤ e * cB d k := Int.mul_le_mul_of_nonneg_right hne (by omega)
  refine ⟨⟨by omega, ?_, ?_⟩, ?_⟩
  · have : 0 * e ≤ cA p d lo hi k * e := by omega
    exact Int.le_of_mul_le_mul_right this (by omega)
  · have : cA p d lo hi k * e ≤ cB d k * e := by rw [Int.mul_comm (cB d k) e]; omega
    exact Int.le_of_mul_le_mul_right this (by omega)
  · have h3 := (lies_scale (p := p) (d := d) (lo := lo) (hi := hi) (n := n) (e := e) hb).2 hl
    rw [← hx, Int.mul_comm e (cB d k)] at h3
    exact (lies_scale he).1 h3

/-- The end of the document's enter. -/
theorem CI.fin {p d lo hi : V3} {f : Bool} {n e : Int} (hp : p.Near) (hd : d.Near) (hlo : lo.Near) (hhi : hi.Near) (h : CI p d lo hi 6 f n e) (h0 : ¬ lies p d lo hi 0 1) :
    (f = false ∧ Ent p d lo hi false 0 0) ∨ (f = true ∧ Ent p d lo hi true (n / Int.gcd n e) (e / Int.gcd n e)) := by
  obtain ⟨i, a, b, hE⟩ := ent_exists hp hd hlo hhi
  cases i
  · obtain ⟨rfl, rfl, hno⟩ := hE.no rfl
    cases f
    · exact .inl ⟨rfl, hE⟩
    · obtain ⟨c1, c2, c3, c4, c5⟩ := h.yes rfl
      exact absurd c5 (hno n e c2 c1 c3)
  · obtain ⟨a1, a2, a3, a4, a5, a6⟩ := hE.yes rfl
    have hn : 1 ≤ a := by
      rcases Int.lt_or_le a 1 with x | x
      · exfalso
        obtain rfl : a = 0 := by omega
        have : b = 1 := by
          have := a5
          rw [Int.gcd_zero_left] at this
          omega
        subst this
        exact h0 a6
      · exact x
    obtain ⟨k, hk, hb, hx⟩ := cand hd hn a2 a3 a6 (hE.least rfl)
    obtain ⟨ho, hlk⟩ := cand_ok hn a2 a3 a6 hb hx
    cases f
    · exact absurd hlk ((h.no rfl).2.2 k hk ho)
    · right
      refine ⟨rfl, ?_⟩
      obtain ⟨c1, c2, c3, c4, c5⟩ := h.yes rfl
      have m1 := h.min rfl k hk ho hlk
      have m2 := hE.least rfl n e c2 c1 c3 c5
      have m3 : n * b ≤ a * e := by
        have y1 : n * cB d k * b ≤ cA p d lo hi k * e * b := Int.mul_le_mul_of_nonneg_right m1 (by omega)
        have y2 : (n * b) * cB d k ≤ (a * e) * cB d k := by
          rw [Int.mul_right_comm n b, Int.mul_right_comm a e, ← hx, Int.mul_right_comm _ b e]
          exact y1
        exact Int.le_of_mul_le_mul_right y2 (by omega)
      obtain ⟨g, hg, hg1, x, y, e1, e2, e3, e4, e5, e6, e7⟩ := div_pos c1 c2
      rw [← hg, e3, e4]
      have m4 : x * b = a * y := by
        have z : n * b = a * e := by omega
        rw [e1, e2, Int.mul_right_comm, ← Int.mul_assoc] at z
        exact Int.eq_of_mul_eq_mul_right (by omega) z
      obtain ⟨rfl, rfl⟩ := frac_one e7 a2 e5 a5 m4
      exact hE

end Go.Proofs.Ytonmihojfcjmjaa.M
