/- Plain mathematics of segments and boxes: no Go in sight. -/
namespace Go.Proofs.Ytonmihojfcjmjaa.M

structure V3 where
  x : Int
  y : Int
  z : Int

/-- All coordinates may be those of a segment or a box. -/
structure V3.Near (p : V3) : Prop where
  x1 : -1048576 ≤ p.x
  x2 : p.x ≤ 1048576
  y1 : -1048576 ≤ p.y
  y2 : p.y ≤ 1048576
  z1 : -1048576 ≤ p.z
  z2 : p.z ≤ 1048576

def on1 (p d lo hi m k : Int) : Prop := lo * k ≤ p * k + d * m ∧ p * k + d * m ≤ hi * k
def lies (p d lo hi : V3) (m k : Int) : Prop := on1 p.x d.x lo.x hi.x m k ∧ on1 p.y d.y lo.y hi.y m k ∧ on1 p.z d.z lo.z hi.z m k

/-- What Enter tells. -/
structure Ent (p d lo hi : V3) (i : Bool) (n e : Int) : Prop where
  yes : i = true → 0 ≤ n ∧ 1 ≤ e ∧ n ≤ e ∧ e ≤ 1048576 ∧ Int.gcd n e = 1 ∧ lies p d lo hi n e
  least : i = true → ∀ m k, 1 ≤ k → 0 ≤ m → m ≤ k → lies p d lo hi m k → n * k ≤ m * e
  no : i = false → n = 0 ∧ e = 0 ∧ ∀ m k, 1 ≤ k → 0 ≤ m → m ≤ k → ¬ lies p d lo hi m k

/-- A span: the times from a/b to c/d, which are just those at which S holds. -/
structure Sp (S : Int → Int → Prop) (a b c d : Int) : Prop where
  a0 : 0 ≤ a
  a1 : a ≤ 2097152
  b1 : 1 ≤ b
  b2 : b ≤ 1048576
  c1 : -2097152 ≤ c
  c2 : c ≤ 2097152
  d1 : 1 ≤ d
  d2 : d ≤ 1048576
  cd : c ≤ d
  iff : ∀ m k, 1 ≤ k → 0 ≤ m → m ≤ k → (S m k ↔ a * k ≤ m * b ∧ m * d ≤ c * k)

theorem mul_bound {a b : Int} {A B : Int} (h1 : -A ≤ a) (h2 : a ≤ A) (h3 : -B ≤ b) (h4 : b ≤ B) : -(A * B) ≤ a * b ∧ a * b ≤ A * B := by
  have hA : 0 ≤ A := by omega
  have hB : 0 ≤ B := by omega
  have e1 : (A - a) * (B + b) ≥ 0 := Int.mul_nonneg (by omega) (by omega)
  have e2 : (A + a) * (B - b) ≥ 0 := Int.mul_nonneg (by omega) (by omega)
  have e3 : (A - a) * (B - b) ≥ 0 := Int.mul_nonneg (by omega) (by omega)
  have e4 : (A + a) * (B + b) ≥ 0 := Int.mul_nonneg (by omega) (by omega)
  rw [Int.sub_mul, Int.mul_add, Int.mul_add] at e1
  rw [Int.add_mul, Int.mul_sub, Int.mul_sub] at e2
  rw [Int.sub_mul, Int.mul_sub, Int.mul_sub] at e3
  rw [Int.add_mul, Int.mul_add, Int.mul_add] at e4
  constructor <;> omega

theorem whole : Sp (fun _ _ => True) 0 1 1 1 := ⟨by omega, by omega, by omega, by omega, by omega, by omega, by omega, by omega, by omega, fun m k _ _ _ => by simp; omega⟩

theorem Sp.still {S : Int → Int → Prop} {a b c d p lo hi : Int} (h : Sp S a b c d) (h1 : lo ≤ p) (h2 : p ≤ hi) : Sp (fun m k => S m k ∧ on1 p 0 lo hi m k) a b c d := by
  refine ⟨h.a0, h.a1, h.b1, h.b2, h.c1, h.c2, h.d1, h.d2, h.cd, fun m k hk h0 hm => ?_⟩
  rw [← h.iff m k hk h0 hm]
  constructor
  · exact fun x => x.1
  · intro x
    refine ⟨x, ?_, ?_⟩
    · have := Int.mul_le_mul_of_nonneg_right h1 (by omega : 0 ≤ k); omega
    · have := Int.mul_le_mul_of_nonneg_right h2 (by omega : 0 ≤ k); omega

theorem still_no {p lo hi m k : Int} (hk : 1 ≤ k) (h : ¬ (lo ≤ p ∧ p ≤ hi)) : ¬ on1 p 0 lo hi m k := by
  rintro ⟨x, y⟩
  apply h
  rw [Int.zero_mul, Int.add_zero] at x y
  exact ⟨Int.le_of_mul_le_mul_right x (by omega), Int.le_of_mul_le_mul_right y (by omega)⟩

/-- The later of two beginnings. -/
theorem later {a b n e m k : Int} (hb : 1 ≤ b) (he : 1 ≤ e) (hk : 1 ≤ k) (h : a * e < n * b) (x : n * k ≤ m * e) : a * k ≤ m * b := by
  have h1 : a * e * k ≤ n * b * k := Int.mul_le_mul_of_nonneg_right (by omega) (by omega)
  have h2 : n * k * b ≤ m * e * b := Int.mul_le_mul_of_nonneg_right x (by omega)
  have h3 : (a * k) * e ≤ (m * b) * e := by
    rw [show a * k * e = a * e * k from by rw [Int.mul_right_comm], show m * b * e = m * e * b from by rw [Int.mul_right_comm]]
    rw [show n * b * k = n * k * b from by rw [Int.mul_right_comm]] at h1
    omega
  exact Int.le_of_mul_le_mul_right h3 (by omega)

theorem later' {a b n e m k : Int} (hb : 1 ≤ b) (he : 1 ≤ e) (hk : 1 ≤ k) (h : n * b ≤ a * e) (x : a * k ≤ m * b) : n * k ≤ m * e := by
  have h1 : n * b * k ≤ a * e * k := Int.mul_le_mul_of_nonneg_right h (by omega)
  have h2 : a * k * e ≤ m * b * e := Int.mul_le_mul_of_nonneg_right x (by omega)
  have h3 : (n * k) * b ≤ (m * e) * b := by
    rw [show n * k * b = n * b * k from by rw [Int.mul_right_comm], show m * e * b = m * b * e from by rw [Int.mul_right_comm]]
    rw [show a * e * k = a * k * e from by rw [Int.mul_right_comm]] at h1
    omega
  exact Int.le_of_mul_le_mul_right h3 (by omega)

/-- The beginning of a span, narrowed by the times from n/e on. -/
theorem Sp.first {S : Int → Int → Prop} {a b c d n e : Int} (h : Sp S a b c d) (hn : n ≤ 2097152) (he : 1 ≤ e) (he2 : e ≤ 1048576) (hab : a * e < n * b) :
    Sp (fun m k => S m k ∧ n * k ≤ m * e) n e c d := by
  have hn0 : 0 ≤ n := by
    have h1 : 0 ≤ a * e := Int.mul_nonneg h.a0 (by omega)
    have h2 : 0 * b < n * b := by omega
    exact Int.le_of_lt (Int.lt_of_mul_lt_mul_right h2 (by have := h.b1; omega))
  refine ⟨hn0, hn, he, he2, h.c1, h.c2, h.d1, h.d2, h.cd, fun m k hk h0 hm => ?_⟩
  rw [h.iff m k hk h0 hm]
  constructor
  · exact fun ⟨⟨_, y⟩, z⟩ => ⟨z, y⟩
  · exact fun ⟨z, y⟩ => ⟨⟨later h.b1 he hk hab z, y⟩, z⟩

theorem Sp.first' {S : Int → Int → Prop} {a b c d n e : Int} (h : Sp S a b c d) (he : 1 ≤ e) (hab : ¬ a * e < n * b) :
    Sp (fun m k => S m k ∧ n * k ≤ m * e) a b c d := by
  refine ⟨h.a0, h.a1, h.b1, h.b2, h.c1, h.c2, h.d1, h.d2, h.cd, fun m k hk h0 hm => ?_⟩
  rw [h.iff m k hk h0 hm]
  constructor
  · exact fun ⟨x, _⟩ => x
  · exact fun x => ⟨x, later' h.b1 he hk (by omega) x.1⟩

theorem Sp.last {S : Int → Int → Prop} {a b c d l e : Int} (h : Sp S a b c d) (hl1 : -2097152 ≤ l) (hl2 : l ≤ 2097152) (he : 1 ≤ e) (he2 : e ≤ 1048576) (hcd : l * d < c * e) :
    Sp (fun m k => S m k ∧ m * e ≤ l * k) a b l e := by
  have hle : l ≤ e := by
    have h1 : c * e ≤ d * e := Int.mul_le_mul_of_nonneg_right h.cd (by omega)
    have h2 : l * d < e * d := by rw [Int.mul_comm e d]; omega
    exact Int.le_of_lt (Int.lt_of_mul_lt_mul_right h2 (by have := h.d1; omega))
  refine ⟨h.a0, h.a1, h.b1, h.b2, hl1, hl2, he, he2, hle, fun m k hk h0 hm => ?_⟩
  rw [h.iff m k hk h0 hm]
  constructor
  · exact fun ⟨⟨y, _⟩, z⟩ => ⟨y, z⟩
  · refine fun ⟨y, z⟩ => ⟨⟨y, ?_⟩, z⟩
    have h3 : -c * e < -l * d := by rw [Int.neg_mul, Int.neg_mul]; omega
    have h4 : -l * k ≤ -m * e := by rw [Int.neg_mul, Int.neg_mul]; omega
    have := later h.d1 he hk h3 h4
    rw [Int.neg_mul, Int.neg_mul] at this
    omega

theorem Sp.last' {S : Int → Int → Prop} {a b c d l e : Int} (h : Sp S a b c d) (he : 1 ≤ e) (hcd : ¬ l * d < c * e) :
    Sp (fun m k => S m k ∧ m * e ≤ l * k) a b c d := by
  refine ⟨h.a0, h.a1, h.b1, h.b2, h.c1, h.c2, h.d1, h.d2, h.cd, fun m k hk h0 hm => ?_⟩
  rw [h.iff m k hk h0 hm]
  constructor
  · exact fun ⟨x, _⟩ => x
  · refine fun x => ⟨x, ?_⟩
    have h3 : -l * d ≤ -c * e := by rw [Int.neg_mul, Int.neg_mul]; omega
    have h4 : -c * k ≤ -m * d := by rw [Int.neg_mul, Int.neg_mul]; omega
    have h5 := later' (a := -c) (b := d) (n := -l) (e := e) (m := -m) h.d1 he hk (by rw [Int.neg_mul, Int.neg_mul]; rw [Int.neg_mul, Int.neg_mul] at h3; omega) h4
    rw [Int.neg_mul, Int.neg_mul] at h5
    omega

theorem on1_up {p d lo hi m k : Int} : on1 p d lo hi m k ↔ (lo - p) * k ≤ m * d ∧ m * d ≤ (hi - p) * k := by
  unfold on1
  rw [Int.sub_mul, Int.sub_mul, Int.mul_comm m d]
  omega

theorem on1_down {p d lo hi m k : Int} : on1 p d lo hi m k ↔ (p - hi) * k ≤ m * (-d) ∧ m * (-d) ≤ (p - lo) * k := by
  unfold on1
  rw [Int.sub_mul, Int.sub_mul, Int.mul_neg, Int.mul_comm m d]
  omega

/-- What narrow leaves. -/
structure Nar (S T : Int → Int → Prop) (a b c d : Int) (s : Bool) : Prop where
  yes : s = true → Sp (fun m k => S m k ∧ T m k) a b c d ∧ a * d ≤ c * b
  no : s = false → ∀ m k, 1 ≤ k → 0 ≤ m → m ≤ k → ¬ (S m k ∧ T m k)

theorem Sp.congr {S T : Int → Int → Prop} {a b c d : Int} (h : Sp S a b c d) (e : ∀ m k, S m k ↔ T m k) : Sp T a b c d :=
  ⟨h.a0, h.a1, h.b1, h.b2, h.c1, h.c2, h.d1, h.d2, h.cd, fun m k hk h0 hm => by rw [← e, h.iff m k hk h0 hm]⟩

theorem Sp.none {S : Int → Int → Prop} {a b c d : Int} (h : Sp S a b c d) (hx : c * b < a * d) (m k : Int) (hk : 1 ≤ k) (h0 : 0 ≤ m) (hm : m ≤ k) : ¬ S m k := by
  intro x
  obtain ⟨y, z⟩ := (h.iff m k hk h0 hm).1 x
  have h1 : a * k * d ≤ m * b * d := Int.mul_le_mul_of_nonneg_right y (by have := h.d1; omega)
  have h2 : m * d * b ≤ c * k * b := Int.mul_le_mul_of_nonneg_right z (by have := h.b1; omega)
  have h3 : a * d * k ≤ c * b * k := by
    rw [show a * d * k = a * k * d from by rw [Int.mul_right_comm], show c * b * k = c * k * b from by rw [Int.mul_right_comm]]
    rw [show m * b * d = m * d * b from by rw [Int.mul_right_comm]] at h1
    omega
  have := Int.le_of_mul_le_mul_right h3 (by omega)
  omega

theorem Nar.of {S T U : Int → Int → Prop} {a b c d : Int} (h : Sp U a b c d) (e : ∀ m k, U m k ↔ S m k ∧ T m k) : Nar S T a b c d (!decide (c * b < a * d)) := by
  constructor
  · intro hs
    have hs' : ¬ c * b < a * d := by simpa using hs
    exact ⟨h.congr e, by omega⟩
  · intro hs m k hk h0 hm x
    have hs' : c * b < a * d := by simpa using hs
    exact h.none hs' m k hk h0 hm ((e m k).2 x)

theorem Nar.still {S : Int → Int → Prop} {a b c d p lo hi : Int} (h : Sp S a b c d) (hs : a * d ≤ c * b) : Nar S (on1 p 0 lo hi) a b c d (decide (lo ≤ p) && decide (p ≤ hi)) := by
  constructor
  · intro x
    simp at x
    exact ⟨h.still x.1 x.2, hs⟩
  · intro x m k hk _ _ y
    simp at x
    exact still_no hk (by omega) y.2

/-- Dividing both numbers of a fraction. -/
theorem div_pos {n e : Int} (hn : 0 ≤ n) (he : 1 ≤ e) : ∃ g : Int, g = (Int.gcd n e : Int) ∧ 1 ≤ g ∧ ∃ n' e', n = n' * g ∧ e = e' * g ∧ n / g = n' ∧ e / g = e' ∧ Int.gcd n' e' = 1 ∧ 0 ≤ n' ∧ 1 ≤ e' := by
  have hg : 1 ≤ (Int.gcd n e : Int) := by
    have : 0 < Int.gcd n e := Int.gcd_pos_of_ne_zero_right _ (by omega)
    omega
  refine ⟨_, rfl, hg, n / Int.gcd n e, e / Int.gcd n e, ?_, ?_, rfl, rfl, ?_, ?_, ?_⟩
  · rw [Int.ediv_mul_cancel (Int.gcd_dvd_left _ _)]
  · rw [Int.ediv_mul_cancel (Int.gcd_dvd_right _ _)]
  · rw [Int.gcd_ediv (Int.gcd_dvd_left _ _) (Int.gcd_dvd_right _ _)]
    simp only [Int.natAbs_natCast]
    exact Nat.div_self (by omega)
  · exact Int.ediv_nonneg hn (by omega)
  · have h1 : e / Int.gcd n e * Int.gcd n e = e := Int.ediv_mul_cancel (Int.gcd_dvd_right _ _)
    have h0 : 0 ≤ e / Int.gcd n e := Int.ediv_nonneg (by omega) (by omega)
    rcases Int.lt_or_eq_of_le h0 with h | h
    · omega
    · rw [← h] at h1; omega

theorem on1_scale {p d lo hi n e g : Int} (hg : 1 ≤ g) : on1 p d lo hi (n * g) (e * g) ↔ on1 p d lo hi n e := by
  unfold on1
  rw [show lo * (e * g) = (lo * e) * g from by rw [Int.mul_assoc], show hi * (e * g) = (hi * e) * g from by rw [Int.mul_assoc], show p * (e * g) + d * (n * g) = (p * e + d * n) * g from by rw [Int.add_mul, Int.mul_assoc, Int.mul_assoc]]
  constructor
  · exact fun ⟨x, y⟩ => ⟨Int.le_of_mul_le_mul_right x (by omega), Int.le_of_mul_le_mul_right y (by omega)⟩
  · exact fun ⟨x, y⟩ => ⟨Int.mul_le_mul_of_nonneg_right x (by omega), Int.mul_le_mul_of_nonneg_right y (by omega)⟩

theorem lies_scale {p d lo hi : V3} {n e g : Int} (hg : 1 ≤ g) : lies p d lo hi (n * g) (e * g) ↔ lies p d lo hi n e := by
  unfold lies
  rw [on1_scale hg, on1_scale hg, on1_scale hg]

/-- The end of Enter: the beginning of what is left, in lowest terms. -/
theorem Ent.mk_yes {p d lo hi : V3} {a b c f n e : Int} {S : Int → Int → Prop} (h : Sp S a b c f) (hS : ∀ m k, S m k ↔ lies p d lo hi m k) (hs : a * f ≤ c * b)
    (hn : n = a / Int.gcd a b) (he : e = b / Int.gcd a b) : Ent p d lo hi true n e := by
  have hb := h.b1
  have hab : a ≤ b := by
    have h1 : c * b ≤ f * b := Int.mul_le_mul_of_nonneg_right h.cd (by omega)
    have h2 : a * f ≤ b * f := by rw [Int.mul_comm b f]; omega
    exact Int.le_of_mul_le_mul_right h2 (by have := h.d1; omega)
  have hl : lies p d lo hi a b := (hS a b).1 ((h.iff a b h.b1 h.a0 hab).2 ⟨Int.le_refl _, hs⟩)
  obtain ⟨g, hg, hg1, n', e', e1, e2, e3, e4, e5, e6, e7⟩ := div_pos h.a0 h.b1
  rw [← hg, e3] at hn
  rw [← hg, e4] at he
  subst hn he
  refine ⟨fun _ => ⟨e6, e7, ?_, ?_, e5, ?_⟩, fun _ m k hk h0 hm x => ?_, fun x => by cases x⟩
  · rw [e1, e2] at hab
    exact Int.le_of_mul_le_mul_right hab (by omega)
  · have := h.b2
    have h4 : e * 1 ≤ e * g := Int.mul_le_mul_of_nonneg_left hg1 (by omega)
    omega
  · rw [e1, e2] at hl
    exact (lies_scale hg1).1 hl
  · have h5 := ((h.iff m k hk h0 hm).1 ((hS m k).2 x)).1
    rw [e1, e2] at h5
    have h6 : n * k * g ≤ m * e * g := by
      rw [show n * k * g = n * g * k from by rw [Int.mul_right_comm], Int.mul_assoc m e g]
      exact h5
    exact Int.le_of_mul_le_mul_right h6 (by omega)

theorem Ent.mk_no {p d lo hi : V3} (h : ∀ m k, 1 ≤ k → 0 ≤ m → m ≤ k → ¬ lies p d lo hi m k) : Ent p d lo hi false 0 0 :=
  ⟨(fun x => by cases x), (fun x => by cases x), fun _ => ⟨rfl, rfl, h⟩⟩

theorem gcd_step {x y : Int} (hx : 0 ≤ x) (hy : 0 < y) : Int.gcd y (x % y) = Int.gcd x y := by
  obtain ⟨n, rfl⟩ := Int.eq_ofNat_of_zero_le hx
  obtain ⟨m, rfl⟩ := Int.eq_ofNat_of_zero_le (Int.le_of_lt hy)
  rw [← Int.natCast_emod, Int.gcd_natCast_natCast, Int.gcd_natCast_natCast, Nat.gcd_comm, Nat.gcd_comm n m, ← Nat.gcd_rec]

theorem dvd_of_coprime {e k n : Int} (h : e ∣ k * n) (hc : Int.gcd e n = 1) : e ∣ k := by
  rw [← Int.natAbs_dvd_natAbs] at h ⊢
  rw [Int.natAbs_mul] at h
  exact Nat.Coprime.dvd_of_dvd_mul_right hc h

/-- Enter's answer is one. -/
theorem Ent.one {p d lo hi : V3} {i j : Bool} {n e m k : Int} (h : Ent p d lo hi i n e) (g : Ent p d lo hi j m k) : i = j ∧ n = m ∧ e = k := by
  cases i <;> cases j
  · obtain ⟨a, b, _⟩ := h.no rfl
    obtain ⟨c, d, _⟩ := g.no rfl
    exact ⟨rfl, by omega, by omega⟩
  · obtain ⟨_, _, x⟩ := h.no rfl
    obtain ⟨a, b, c, _, _, l⟩ := g.yes rfl
    exact absurd l (x _ _ b a c)
  · obtain ⟨_, _, x⟩ := g.no rfl
    obtain ⟨a, b, c, _, _, l⟩ := h.yes rfl
    exact absurd l (x _ _ b a c)
  · obtain ⟨a1, a2, a3, _, a5, a6⟩ := h.yes rfl
    obtain ⟨b1, b2, b3, _, b5, b6⟩ := g.yes rfl
    have x1 := h.least rfl m k b2 b1 b3 b6
    have x2 := g.least rfl n e a2 a1 a3 a6
    have x3 : n * k = m * e := by omega
    -- two fractions in lowest terms that are one
    have d1 : e ∣ k := by
      have : e ∣ k * n := ⟨m, by rw [Int.mul_comm k n, x3, Int.mul_comm]⟩
      exact dvd_of_coprime this (by rw [Int.gcd_comm]; exact a5)
    have d2 : k ∣ e := by
      have : k ∣ e * m := ⟨n, by rw [Int.mul_comm e m, ← x3, Int.mul_comm]⟩
      exact dvd_of_coprime this (by rw [Int.gcd_comm]; exact b5)
    have e1 : e = k := Int.le_antisymm (Int.le_of_dvd (by omega) d1) (Int.le_of_dvd (by omega) d2)
    subst e1
    exact ⟨rfl, Int.eq_of_mul_eq_mul_right (by omega) x3, rfl⟩

end Go.Proofs.Ytonmihojfcjmjaa.M
