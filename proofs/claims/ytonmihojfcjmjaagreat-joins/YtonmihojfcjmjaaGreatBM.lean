
/- Plain mathematics of segments and boxes: no Go in sight. -/
namespace Go.Proofs.YtonmihojfcjmjaaGreat.M

structure V3 where
  x : Int
  y : Int
  z : Int

/-- All coordinates may be those of a segment or a box. -/
structure V3.Near (p : V3) : Prop where
  x1 : -1048576 ≤ p.x
  x2 : p.x ≤ 1048576
  y1 : -1048576 ≤ p.y
  y2 : p.y ≤ 1048576
  z1 : -1048576 ≤ p.z
  z2 : p.z ≤ 1048576

def on1 (p d lo hi m k : Int) : Prop := lo * k ≤ p * k + d * m ∧ p * k + d * m ≤ hi * k
def lies (p d lo hi : V3) (m k : Int) : Prop := on1 p.x d.x lo.x hi.x m k ∧ on1 p.y d.y lo.y hi.y m k ∧ on1 p.z d.z lo.z hi.z m k

/-- What Enter tells. -/
structure Ent (p d lo hi : V3) (i : Bool) (n e : Int) : Prop where
  yes : i = true → 0 ≤ n ∧ 1 ≤ e ∧ n ≤ e ∧ e ≤ 1048576 ∧ Int.gcd n e = 1 ∧ lies p d lo hi n e
  least : i = true → ∀ m k, 1 ≤ k → 0 ≤ m → m ≤ k → lies p d lo hi m k → n * k ≤ m * e
  no : i = false → n = 0 ∧ e = 0 ∧ ∀ m k, 1 ≤ k → 0 ≤ m → m ≤ k → ¬ lies p d lo hi m k

/-- A span: the times from a/b to c/d, which are just those at which S holds. -/
structure Sp (S : Int → Int → Prop) (a b c d : Int) : Prop where
  a0 : 0 ≤ a
  a1 : a ≤ 2097152
  b1 : 1 ≤ b
  b2 : b ≤ 1048576
  c1 : -2097152 ≤ c
  c2 : c ≤ 2097152
  d1 : 1 ≤ d
  d2 : d ≤ 1048576
  cd : c ≤ d
  iff : ∀ m k, 1 ≤ k → 0 ≤ m → m ≤ k → (S m k ↔ a * k ≤ m * b ∧ m * d ≤ c * k)

theorem mul_bound {a b : Int} {A B : Int} (h1 : -A ≤ a) (h2 : a ≤ A) (h3 : -B ≤ b) (h4 : b ≤ B) : -(A * B) ≤ a * b ∧ a * b ≤ A * B := by
  have hA : 0 ≤ A := by omega
  have hB : 0 ≤ B := by omega
  have e1 : (A - a) * (B + b) ≥ 0 := Int.mul_nonneg (by omega) (by omega)
  have e2 : (A + a) * (B - b) ≥ 0 := Int.mul_nonneg (by omega) (by omega)
  have e3 : (A - a) * (B - b) ≥ 0 := Int.mul_nonneg (by omega) (by omega)
  have e4 : (A + a) * (B + b) ≥ 0 := Int.mul_nonneg (by omega) (by omega)
  rw [Int.sub_mul, Int.mul_add, Int.mul_add] at e1
  rw [Int.add_mul, Int.mul_sub, Int.mul_sub] at e2
  rw [Int.sub_mul, Int.mul_sub, Int.mul_sub] at e3
  rw [Int.add_mul, Int.mul_add, Int.mul_add] at e4
  constructor <;> omega

theorem whole : Sp (fun _ _ => True) 0 1 1 1 := ⟨by omega, by omega, by omega, by omega, by omega, by omega, by omega, by omega, by omega, fun m k _ _ _ => by simp; omega⟩

theorem Sp.still {S : Int → Int → Prop} {a b c d p lo hi : Int} (h : Sp S a b c d) (h1 : lo ≤ p) (h2 : p ≤ hi) : Sp (fun m k => S m k ∧ on1 p 0 lo hi m k) a b c d := by
  refine ⟨h.a0, h.a1, h.b1, h.b2, h.c1, h.c2, h.d1, h.d2, h.cd, fun m k hk h0 hm => ?_⟩
  rw [← h.iff m k hk h0 hm]
  constructor
  · exact fun x => x.1
  · intro x
    refine ⟨x, ?_, ?_⟩
    · have := Int.mul_le_mul_of_nonneg_right h1 (by omega : 0 ≤ k); omega
    · have := Int.mul_le_mul_of_nonneg_right h2 (by omega : 0 ≤ k); omega

theorem still_no {p lo hi m k : Int} (hk : 1 ≤ k) (h : ¬ (lo ≤ p ∧ p ≤ hi)) : ¬ on1 p 0 lo hi m k := by
  rintro ⟨x, y⟩
  apply h
  rw [Int.zero_mul, Int.add_zero] at x y
  exact ⟨Int.le_of_mul_le_mul_right x (by omega), Int.le_of_mul_le_mul_right y (by omega)⟩

/-- The later of two beginnings. -/
theorem later {a b n e m k : Int} (hb : 1 ≤ b) (he : 1 ≤ e) (hk : 1 ≤ k) (h : a * e < n * b) (x : n * k ≤ m * e) : a * k ≤ m * b := by
  have h1 : a * e * k ≤ n * b * k := Int.mul_le_mul_of_nonneg_right (by omega) (by omega)
  have h2 : n * k * b ≤ m * e * b := Int.mul_le_mul_of_nonneg_right x (by omega)
  have h3 : (a * k) * e ≤ (m * b) * e := by
    rw [show a * k * e = a * e * k from by rw [Int.mul_right_comm], show m * b * e = m * e * b from by rw [Int.mul_right_comm]]
    rw [show n * b * k = n * k * b from by rw [Int.mul_right_comm]] at h1
    omega
  exact Int.le_of_mul_le_mul_right h3 (by omega)

theorem later' {a b n e m k : Int} (hb : 1 ≤ b) (he : 1 ≤ e) (hk : 1 ≤ k) (h : n * b ≤ a * e) (x : a * k ≤ m * b) : n * k ≤ m * e := by
  have h1 : n * b * k ≤ a * e * k := Int.mul_le_mul_of_nonneg_right h (by omega)
  have h2 : a * k * e ≤ m * b * e := Int.mul_le_mul_of_nonneg_right x (by omega)
  have h3 : (n * k) * b ≤ (m * e) * b := by
    rw [show n * k * b = n * b * k from by rw [Int.mul_right_comm], show m * e * b = m * b * e from by rw [Int.mul_right_comm]]
    rw [show a * e * k = a * k * e from by rw [Int.mul_right_comm]] at h1
    omega
  exact Int.le_of_mul_le_mul_right h3 (by omega)

/-- The beginning of a span, narrowed by the times from n/e on. -/
theorem Sp.first {S : Int → Int → Prop} {a b c d n e : Int} (h : Sp S a b c d) (hn : n ≤ 2097152) (he : 1 ≤ e) (he2 : e ≤ 1048576) (hab : a * e < n * b) :
    Sp (fun m k => S m k ∧ n * k ≤ m * e) n e c d := by
  have hn0 : 0 ≤ n := by
    have h1 : 0 ≤ a * e := Int.mul_nonneg h.a0 (by omega)
    have h2 : 0 * b < n * b := by omega
    exact Int.le_of_lt (Int.lt_of_mul_lt_mul_right h2 (by have := h.b1; omega))
  refine ⟨hn0, hn, he, he2, h.c1, h.c2, h.d1, h.d2, h.cd, fun m k hk h0 hm => ?_⟩
  rw [h.iff m k hk h0 hm]
  constructor
  · exact fun ⟨⟨_, y⟩, z⟩ => ⟨z, y⟩
  · exact fun ⟨z, y⟩ => ⟨⟨later h.b1 he hk hab z, y⟩, z⟩

theorem Sp.first' {S : Int → Int → Prop} {a b c d n e : Int} (h : Sp S a b c d) (he : 1 ≤ e) (hab : ¬ a * e < n * b) :
    Sp (fun m k => S m k ∧ n * k ≤ m * e) a b c d := by
  refine ⟨h.a0, h.a1, h.b1, h.b2, h.c1, h.c2, h.d1, h.d2, h.cd, fun m k hk h0 hm => ?_⟩
  rw [h.iff m k hk h0 hm]
  constructor
  · exact fun ⟨x, _⟩ => x
  · exact fun x => ⟨x, later' h.b1 he hk (by omega) x.1⟩

theorem Sp.last {S : Int → Int → Prop} {a b c d l e : Int} (h : Sp S a b c d) (hl1 : -2097152 ≤ l) (hl2 : l ≤ 2097152) (he : 1 ≤ e) (he2 : e ≤ 1048576) (hcd : l * d < c * e) :
    Sp (fun m k => S m k ∧ m * e ≤ l * k) a b l e := by
  have hle : l ≤ e := by
    have h1 : c * e ≤ d * e := Int.mul_le_mul_of_nonneg_right h.cd (by omega)
    have h2 : l * d < e * d := by rw [Int.mul_comm e d]; omega
    exact Int.le_of_lt (Int.lt_of_mul_lt_mul_right h2 (by have := h.d1; omega))
  refine ⟨h.a0, h.a1, h.b1, h.b2, hl1, hl2, he, he2, hle, fun m k hk h0 hm => ?_⟩
  rw [h.iff m k hk h0 hm]
  constructor
  · exact fun ⟨⟨y, _⟩, z⟩ => ⟨y, z⟩
  · refine fun ⟨y, z⟩ => ⟨⟨y, ?_⟩, z⟩
    have h3 : -c * e < -l * d := by rw [Int.neg_mul, Int.neg_mul]; omega
    have h4 : -l * k ≤ -m * e := by rw [Int.neg_mul, Int.neg_mul]; omega
    have := later h.d1 he hk h3 h4
    rw [Int.neg_mul, Int.neg_mul] at this
    omega

theorem Sp.last' {S : Int → Int → Prop} {a b c d l e : Int} (h : Sp S a b c d) (he : 1 ≤ e) (hcd : ¬ l * d < c * e) :
    Sp (fun m k => S m k ∧ m * e ≤ l * k) a b c d := by
  refine ⟨h.a0, h.a1, h.b1, h.b2, h.c1, h.c2, h.d1, h.d2, h.cd, fun m k hk h0 hm => ?_⟩
  rw [h.iff m k hk h0 hm]
  constructor
  · exact fun ⟨x, _⟩ => x
  · refine fun x => ⟨x, ?_⟩
    have h3 : -l * d ≤ -c * e := by rw [Int.neg_mul, Int.neg_mul]; omega
    have h4 : -c * k ≤ -m * d := by rw [Int.neg_mul, Int.neg_mul]; omega
    have h5 := later' (a := -c) (b := d) (n := -l) (e := e) (m := -m) h.d1 he hk (by rw [Int.neg_mul, Int.neg_mul]; rw [Int.neg_mul, Int.neg_mul] at h3; omega) h4
    rw [Int.neg_mul, Int.neg_mul] at h5
    omega

theorem on1_up {p d lo hi m k : Int} : on1 p d lo hi m k ↔ (lo - p) * k ≤ m * d ∧ m * d ≤ (hi - p) * k := by
  unfold on1
  rw [Int.sub_mul, Int.sub_mul, Int.mul_comm m d]
  omega

theorem on1_down {p d lo hi m k : Int} : on1 p d lo hi m k ↔ (p - hi) * k ≤ m * (-d) ∧ m * (-d) ≤ (p - lo) * k := by
  unfold on1
  rw [Int.sub_mul, Int.sub_mul, Int.mul_neg, Int.mul_comm m d]
  omega

/-- What narrow leaves. -/
structure Nar (S T : Int → Int → Prop) (a b c d : Int) (s : Bool) : Prop where
  yes : s = true → Sp (fun m k => S m k ∧ T m k) a b c d ∧ a * d ≤ c * b
  no : s = false → ∀ m k, 1 ≤ k → 0 ≤ m → m ≤ k → ¬ (S m k ∧ T m k)

theorem Sp.congr {S T : Int → Int → Prop} {a b c d : Int} (h : Sp S a b c d) (e : ∀ m k, S m k ↔ T m k) : Sp T a b c d :=
  ⟨h.a0, h.a1, h.b1, h.b2, h.c1, h.c2, h.d1, h.d2, h.cd, fun m k hk h0 hm => by rw [← e, h.iff m k hk h0 hm]⟩

theorem Sp.none {S : Int → Int → Prop} {a b c d : Int} (h : Sp S a b c d) (hx : c * b < a * d) (m k : Int) (hk : 1 ≤ k) (h0 : 0 ≤ m) (hm : m ≤ k) : ¬ S m k := by
  intro x
  obtain ⟨y, z⟩ := (h.iff m k hk h0 hm).1 x
  have h1 : a * k * d ≤ m * b * d := Int.mul_le_mul_of_nonneg_right y (by have := h.d1; omega)
  have h2 : m * d * b ≤ c * k * b := Int.mul_le_mul_of_nonneg_right z (by have := h.b1; omega)
  have h3 : a * d * k ≤ c * b * k := by
    rw [show a * d * k = a * k * d from by rw [Int.mul_right_comm], show c * b * k = c * k * b from by rw [Int.mul_right_comm]]
    rw [show m * b * d = m * d * b from by rw [Int.mul_right_comm]] at h1
    omega
  have := Int.le_of_mul_le_mul_right h3 (by omega)
  omega

theorem Nar.of {S T U : Int → Int → Prop} {a b c d : Int} (h : Sp U a b c d) (e : ∀ m k, U m k ↔ S m k ∧ T m k) : Nar S T a b c d (!decide (c * b < a * d)) := by
  constructor
  · intro hs
    have hs' : ¬ c * b < a * d := by simpa using hs
    exact ⟨h.congr e, by omega⟩
  · intro hs m k hk h0 hm x
    have hs' : c * b < a * d := by simpa using hs
    exact h.none hs' m k hk h0 hm ((e m k).2 x)

theorem Nar.still {S : Int → Int → Prop} {a b c d p lo hi : Int} (h : Sp S a b c d) (hs : a * d ≤ c * b) : Nar S (on1 p 0 lo hi) a b c d (decide (lo ≤ p) && decide (p ≤ hi)) := by
  constructor
  · intro x
    simp at x
    exact ⟨h.still x.1 x.2, hs⟩
  · intro x m k hk _ _ y
    simp at x
    exact still_no hk (by omega) y.2

/-- Dividing both numbers of a fraction. -/
theorem div_pos {n e : Int} (hn : 0 ≤ n) (he : 1 ≤ e) : ∃ g : Int, g = (Int.gcd n e : Int) ∧ 1 ≤ g ∧ ∃ n' e', n = n' * g ∧ e = e' * g ∧ n / g = n' ∧ e / g = e' ∧ Int.gcd n' e' = 1 ∧ 0 ≤ n' ∧ 1 ≤ e' := by
  have hg : 1 ≤ (Int.gcd n e : Int) := by
    have : 0 < Int.gcd n e := Int.gcd_pos_of_ne_zero_right _ (by omega)
    omega
  refine ⟨_, rfl, hg, n / Int.gcd n e, e / Int.gcd n e, ?_, ?_, rfl, rfl, ?_, ?_, ?_⟩
  · rw [Int.ediv_mul_cancel (Int.gcd_dvd_left _ _)]
  · rw [Int.ediv_mul_cancel (Int.gcd_dvd_right _ _)]
  · rw [Int.gcd_ediv (Int.gcd_dvd_left _ _) (Int.gcd_dvd_right _ _)]
    simp only [Int.natAbs_natCast]
    exact Nat.div_self (by omega)
  · exact Int.ediv_nonneg hn (by omega)
  · have h1 : e / Int.gcd n e * Int.gcd n e = e := Int.ediv_mul_cancel (Int.gcd_dvd_right _ _)
    have h0 : 0 ≤ e / Int.gcd n e := Int.ediv_nonneg (by omega) (by omega)
    rcases Int.lt_or_eq_of_le h0 with h | h
    · omega
    · rw [← h] at h1; omega

theorem on1_scale {p d lo hi n e g : Int} (hg : 1 ≤ g) : on1 p d lo hi (n * g) (e * g) ↔ on1 p d lo hi n e := by
  unfold on1
  rw [show lo * (e * g) = (lo * e) * g from by rw [Int.mul_assoc], show hi * (e * g) = (hi * e) * g from by rw [Int.mul_assoc], show p * (e * g) + d * (n * g) = (p * e + d * n) * g from by rw [Int.add_mul, Int.mul_assoc, Int.mul_assoc]]
  constructor
  · exact fun ⟨x, y⟩ => ⟨Int.le_of_mul_le_mul_right x (by omega), Int.le_of_mul_le_mul_right y (by omega)⟩
  · exact fun ⟨x, y⟩ => ⟨Int.mul_le_mul_of_nonneg_right x (by omega), Int.mul_le_mul_of_nonneg_right y (by omega)⟩

theorem lies_scale {p d lo hi : V3} {n e g : Int} (hg : 1 ≤ g) : lies p d lo hi (n * g) (e * g) ↔ lies p d lo hi n e := by
  unfold lies
  rw [on1_scale hg, on1_scale hg, on1_scale hg]

/-- The end of Enter: the beginning of what is left, in lowest terms. -/
theorem Ent.mk_yes {p d lo hi : V3} {a b c f n e : Int} {S : Int → Int → Prop} (h : Sp S a b c f) (hS : ∀ m k, S m k ↔ lies p d lo hi m k) (hs : a * f ≤ c * b)
    (hn : n = a / Int.gcd a b) (he : e = b / Int.gcd a b) : Ent p d lo hi true n e := by
  have hb := h.b1
  have hab : a ≤ b := by
    have h1 : c * b ≤ f * b := Int.mul_le_mul_of_nonneg_right h.cd (by omega)
    have h2 : a * f ≤ b * f := by rw [Int.mul_comm b f]; omega
    exact Int.le_of_mul_le_mul_right h2 (by have := h.d1; omega)
  have hl : lies p d lo hi a b := (hS a b).1 ((h.iff a b h.b1 h.a0 hab).2 ⟨Int.le_refl _, hs⟩)
  obtain ⟨g, hg, hg1, n', e', e1, e2, e3, e4, e5, e6, e7⟩ := div_pos h.a0 h.b1
  rw [← hg, e3] at hn
  rw [← hg, e4] at he
  subst hn he
  refine ⟨fun _ => ⟨e6, e7, ?_, ?_, e5, ?_⟩, fun _ m k hk h0 hm x => ?_, fun x => by cases x⟩
  · rw [e1, e2] at hab
    exact Int.le_of_mul_le_mul_right hab (by omega)
  · have := h.b2
    have h4 : e * 1 ≤ e * g := Int.mul_le_mul_of_nonneg_left hg1 (by omega)
    omega
  · rw [e1, e2] at hl
    exact (lies_scale hg1).1 hl
  · have h5 := ((h.iff m k hk h0 hm).1 ((hS m k).2 x)).1
    rw [e1, e2] at h5
    have h6 : n * k * g ≤ m * e * g := by
      rw [show n * k * g = n * g * k from by rw [Int.mul_right_comm], Int.mul_assoc m e g]
      exact h5
    exact Int.le_of_mul_le_mul_right h6 (by omega)

theorem Ent.mk_no {p d lo hi : V3} (h : ∀ m k, 1 ≤ k → 0 ≤ m → m ≤ k → ¬ lies p d lo hi m k) : Ent p d lo hi false 0 0 :=
  ⟨(fun x => by cases x), (fun x => by cases x), fun _ => ⟨rfl, rfl, h⟩⟩

theorem gcd_step {x y : Int} (hx : 0 ≤ x) (hy : 0 < y) : Int.gcd y (x % y) = Int.gcd x y := by
  obtain ⟨n, rfl⟩ := Int.eq_ofNat_of_zero_le hx
  obtain ⟨m, rfl⟩ := Int.eq_ofNat_of_zero_le (Int.le_of_lt hy)
  rw [← Int.natCast_emod, Int.gcd_natCast_natCast, Int.gcd_natCast_natCast, Nat.gcd_comm, Nat.gcd_comm n m, ← Nat.gcd_rec]

theorem dvd_of_coprime {e k n : Int} (h : e ∣ k * n) (hc : Int.gcd e n = 1) : e ∣ k := by
  rw [← Int.natAbs_dvd_natAbs] at h ⊢
  rw [Int.natAbs_mul] at h
  exact Nat.Coprime.dvd_of_dvd_mul_right hc h

/-- Enter's answer is one. -/
theorem Ent.one {p d lo hi : V3} {i j : Bool} {n e m k : Int} (h : Ent p d lo hi i n e) (g : Ent p d lo hi j m k) : i = j ∧ n = m ∧ e = k := by
  cases i <;> cases j
  · obtain ⟨a, b, _⟩ := h.no rfl
    obtain ⟨c, d, _⟩ := g.no rfl
    exact ⟨rfl, by omega, by omega⟩
  · obtain ⟨_, _, x⟩ := h.no rfl
    obtain ⟨a, b, c, _, _, l⟩ := g.yes rfl
    exact absurd l (x _ _ b a c)
  · obtain ⟨_, _, x⟩ := g.no rfl
    obtain ⟨a, b, c, _, _, l⟩ := h.yes rfl
    exact absurd l (x _ _ b a c)
  · obtain ⟨a1, a2, a3, _, a5, a6⟩ := h.yes rfl
    obtain ⟨b1, b2, b3, _, b5, b6⟩ := g.yes rfl
    have x1 := h.least rfl m k b2 b1 b3 b6
    have x2 := g.least rfl n e a2 a1 a3 a6
    have x3 : n * k = m * e := by omega
    -- two fractions in lowest terms that are one
    have d1 : e ∣ k := by
      have : e ∣ k * n := ⟨m, by rw [Int.mul_comm k n, x3, Int.mul_comm]⟩
      exact dvd_of_coprime this (by rw [Int.gcd_comm]; exact a5)
    have d2 : k ∣ e := by
      have : k ∣ e * m := ⟨n, by rw [Int.mul_comm e m, ← x3, Int.mul_comm]⟩
      exact dvd_of_coprime this (by rw [Int.gcd_comm]; exact b5)
    have e1 : e = k := Int.le_antisymm (Int.le_of_dvd (by omega) d1) (Int.le_of_dvd (by omega) d2)
    subst e1
    exact ⟨rfl, Int.eq_of_mul_eq_mul_right (by omega) x3, rfl⟩

end Go.Proofs.YtonmihojfcjmjaaGreat.M

/- What a map's text means: no Go in sight. -/
namespace Go.Proofs.YtonmihojfcjmjaaGreat.M

/-- A byte of a text; -1 behind its end. -/
def byteAt (s : ByteArray) (i : Nat) : Int := if h : i < s.size then (s[i].toNat : Int) else -1
theorem byteAt_lt {s : ByteArray} {i : Nat} (h : i < s.size) : byteAt s i = (s[i].toNat : Int) := by unfold byteAt; rw [dif_pos h]
theorem byteAt_ge {s : ByteArray} {i : Nat} (h : s.size ≤ i) : byteAt s i = -1 := by unfold byteAt; rw [dif_neg (by omega)]
theorem byteAt_in {s : ByteArray} {i : Nat} (h : 0 ≤ byteAt s i) : i < s.size := by
  rcases Nat.lt_or_ge i s.size with x | x
  · exact x
  · rw [byteAt_ge x] at h; omega
theorem byteAt_bd (s : ByteArray) (i : Nat) : -1 ≤ byteAt s i ∧ byteAt s i ≤ 255 := by
  unfold byteAt
  split
  · have := (s[i]).toNat_lt; omega
  · omega

def hexV (c : Int) : Int := if 48 ≤ c ∧ c ≤ 57 then c - 48 else if 97 ≤ c ∧ c ≤ 102 then c - 97 + 10 else -1
theorem hexV_bd (c : Int) : -1 ≤ hexV c ∧ hexV c ≤ 15 := by unfold hexV; repeat' split <;> omega
theorem hexV_zone (c : Int) : (0 ≤ hexV c ∧ hexV c < 8) ↔ (48 ≤ c ∧ c ≤ 55) := by unfold hexV; repeat' split <;> omega
theorem hexV_in {s : ByteArray} {i : Nat} (h : 0 ≤ hexV (byteAt s i)) : i < s.size := by
  apply byteAt_in
  unfold hexV at h
  split at h
  · omega
  · split at h <;> omega

structure Lf where
  lo : V3
  hi : V3
  zone : Int

/-- The reader's state. -/
structure St where
  place : Nat
  planes : Nat
  wrong : Int
  leaves : List Lf

def leafB (c : Int) : Bool := decide (c = 35) || (decide (48 ≤ c) && decide (c ≤ 55))
def planeB (c : Int) : Bool := decide (120 ≤ c) && decide (c ≤ 122)
def zoneV (c : Int) : Int := if c = 35 then -1 else c - 48
def getAx (p : V3) (c : Int) : Int := if c = 120 then p.x else if c = 121 then p.y else p.z
def setAx (p : V3) (c v : Int) : V3 := if c = 120 then ⟨v, p.y, p.z⟩ else if c = 121 then ⟨p.x, v, p.z⟩ else ⟨p.x, p.y, v⟩
def insideB (lo hi : V3) (c v : Int) : Bool := decide (getAx lo c < v) && decide (v < getAx hi c)
def planeAt (s : ByteArray) (i : Nat) : Int := 16 * (16 * hexV (byteAt s (i + 1)) + hexV (byteAt s (i + 2)))

def St.goto (st : St) (i : Nat) : St := ⟨i, st.planes, st.wrong, st.leaves⟩
def St.leaf (st : St) (lo hi : V3) (c : Int) : St := ⟨st.place + 1, st.planes, st.wrong, st.leaves ++ [⟨lo, hi, zoneV c⟩]⟩
def St.plane (st : St) (ok : Bool) : St := ⟨st.place + 3, st.planes + 1, if st.wrong < 0 ∧ ok = false then (st.planes : Int) else st.wrong, st.leaves⟩

def tree (s : ByteArray) : Nat → V3 → V3 → St → Bool × St
  | 0, lo, hi, st => if leafB (byteAt s st.place) = true then (true, st.leaf lo hi (byteAt s st.place)) else (false, st)
  | r + 1, lo, hi, st =>
    if leafB (byteAt s st.place) = true then (true, st.leaf lo hi (byteAt s st.place)) else
    if planeB (byteAt s st.place) = false then (false, st) else
    if hexV (byteAt s (st.place + 1)) < 0 then (false, st.goto (st.place + 1)) else
    if hexV (byteAt s (st.place + 2)) < 0 then (false, st.goto (st.place + 2)) else
    if (tree s r lo (setAx hi (byteAt s st.place) (planeAt s st.place)) (st.plane (insideB lo hi (byteAt s st.place) (planeAt s st.place)))).1 = true then
      tree s r (setAx lo (byteAt s st.place) (planeAt s st.place)) hi (tree s r lo (setAx hi (byteAt s st.place) (planeAt s st.place)) (st.plane (insideB lo hi (byteAt s st.place) (planeAt s st.place)))).2
    else tree s r lo (setAx hi (byteAt s st.place) (planeAt s st.place)) (st.plane (insideB lo hi (byteAt s st.place) (planeAt s st.place)))

theorem tree_leaf {s : ByteArray} {r : Nat} {lo hi : V3} {st : St} (h : leafB (byteAt s st.place) = true) : tree s r lo hi st = (true, st.leaf lo hi (byteAt s st.place)) := by
  cases r <;> unfold tree <;> rw [if_pos h]
theorem tree_none {s : ByteArray} {r : Nat} {lo hi : V3} {st : St} (h : leafB (byteAt s st.place) = false) (h2 : planeB (byteAt s st.place) = false) : tree s r lo hi st = (false, st) := by
  cases r <;> unfold tree <;> rw [if_neg (by simp [h])]
  rw [if_pos h2]
theorem tree_deep {s : ByteArray} {lo hi : V3} {st : St} (h : leafB (byteAt s st.place) = false) : tree s 0 lo hi st = (false, st) := by
  unfold tree; rw [if_neg (by simp [h])]
theorem tree_bad1 {s : ByteArray} {r : Nat} {lo hi : V3} {st : St} (h : leafB (byteAt s st.place) = false) (h2 : planeB (byteAt s st.place) = true) (h3 : hexV (byteAt s (st.place + 1)) < 0) :
    tree s (r + 1) lo hi st = (false, st.goto (st.place + 1)) := by
  unfold tree; rw [if_neg (by simp [h]), if_neg (by simp [h2]), if_pos h3]
theorem tree_bad2 {s : ByteArray} {r : Nat} {lo hi : V3} {st : St} (h : leafB (byteAt s st.place) = false) (h2 : planeB (byteAt s st.place) = true) (h3 : ¬ hexV (byteAt s (st.place + 1)) < 0) (h4 : hexV (byteAt s (st.place + 2)) < 0) :
    tree s (r + 1) lo hi st = (false, st.goto (st.place + 2)) := by
  unfold tree; rw [if_neg (by simp [h]), if_neg (by simp [h2]), if_neg h3, if_pos h4]

def lowHi (s : ByteArray) (st : St) (hi : V3) : V3 := setAx hi (byteAt s st.place) (planeAt s st.place)
def upLo (s : ByteArray) (st : St) (lo : V3) : V3 := setAx lo (byteAt s st.place) (planeAt s st.place)
def St.cut (s : ByteArray) (st : St) (lo hi : V3) : St := st.plane (insideB lo hi (byteAt s st.place) (planeAt s st.place))
theorem tree_plane {s : ByteArray} {r : Nat} {lo hi : V3} {st : St} (h : leafB (byteAt s st.place) = false) (h2 : planeB (byteAt s st.place) = true) (h3 : ¬ hexV (byteAt s (st.place + 1)) < 0) (h4 : ¬ hexV (byteAt s (st.place + 2)) < 0) :
    tree s (r + 1) lo hi st = if (tree s r lo (lowHi s st hi) (st.cut s lo hi)).1 = true then tree s r (upLo s st lo) hi (tree s r lo (lowHi s st hi) (st.cut s lo hi)).2 else tree s r lo (lowHi s st hi) (st.cut s lo hi) := by
  conv => lhs; unfold tree
  rw [if_neg (by simp [h]), if_neg (by simp [h2]), if_neg h3, if_neg h4]
  rfl

/-- A region within the cube. -/
structure V3.Cub (p : V3) : Prop where
  x1 : 0 ≤ p.x
  x2 : p.x ≤ 4096
  y1 : 0 ≤ p.y
  y2 : p.y ≤ 4096
  z1 : 0 ≤ p.z
  z2 : p.z ≤ 4096

structure St.Inv (st : St) (s : ByteArray) : Prop where
  pl : st.place ≤ s.size
  pn : st.planes ≤ st.place
  lv : st.leaves.length ≤ st.place
  w1 : -1 ≤ st.wrong
  w2 : st.wrong ≤ st.planes
  bx : ∀ l ∈ st.leaves, l.lo.Cub ∧ l.hi.Cub ∧ -1 ≤ l.zone ∧ l.zone ≤ 7

theorem V3.Cub.set {p : V3} (h : p.Cub) {c v : Int} (h0 : 0 ≤ v) (h1 : v ≤ 4096) : (setAx p c v).Cub := by
  unfold setAx
  have := h.x1; have := h.x2; have := h.y1; have := h.y2; have := h.z1; have := h.z2
  split
  · constructor <;> assumption
  · split <;> constructor <;> assumption

theorem planeAt_bd {s : ByteArray} {i : Nat} (h3 : ¬ hexV (byteAt s (i + 1)) < 0) (h4 : ¬ hexV (byteAt s (i + 2)) < 0) : 0 ≤ planeAt s i ∧ planeAt s i ≤ 4080 := by
  unfold planeAt
  have := hexV_bd (byteAt s (i + 1)); have := hexV_bd (byteAt s (i + 2)); omega

theorem Inv_leaf {s : ByteArray} {st : St} {lo hi : V3} (h : st.Inv s) (hlo : lo.Cub) (hhi : hi.Cub) (hl : leafB (byteAt s st.place) = true) : (st.leaf lo hi (byteAt s st.place)).Inv s := by
  have hb : 0 ≤ byteAt s st.place := by unfold leafB at hl; simp at hl; omega
  have hz : -1 ≤ zoneV (byteAt s st.place) ∧ zoneV (byteAt s st.place) ≤ 7 := by
    unfold leafB at hl; simp at hl; unfold zoneV; split <;> omega
  have hp := byteAt_in hb
  refine ⟨by simp [St.leaf]; omega, by simp [St.leaf]; have := h.pn; omega, by simp [St.leaf]; exact h.lv, h.w1, h.w2, ?_⟩
  intro l hm
  simp [St.leaf] at hm
  rcases hm with hm | rfl
  · exact h.bx l hm
  · exact ⟨hlo, hhi, hz.1, hz.2⟩

theorem Inv_cut {s : ByteArray} {st : St} {lo hi : V3} (h : st.Inv s) (h4 : ¬ hexV (byteAt s (st.place + 2)) < 0) : (st.cut s lo hi).Inv s := by
  have hp := hexV_in (s := s) (i := st.place + 2) (by omega)
  have := h.pn; have := h.lv; have := h.w1; have := h.w2
  unfold St.cut St.plane
  refine ⟨by simp; omega, by simp; omega, by simp; omega, ?_, ?_, h.bx⟩
  · simp only; split <;> omega
  · simp only; split <;> omega

theorem tree_inv (s : ByteArray) : ∀ (r : Nat) (lo hi : V3) (st : St), lo.Cub → hi.Cub → st.Inv s → (tree s r lo hi st).2.Inv s
  | r, lo, hi, st, hlo, hhi, h => by
    by_cases hl : leafB (byteAt s st.place) = true
    · rw [tree_leaf hl]; exact Inv_leaf h hlo hhi hl
    have hl' : leafB (byteAt s st.place) = false := by simpa using hl
    cases r with
    | zero => rw [tree_deep hl']; exact h
    | succ r =>
      by_cases h2 : planeB (byteAt s st.place) = false
      · rw [tree_none hl' h2]; exact h
      have h2' : planeB (byteAt s st.place) = true := by simpa using h2
      have hp : st.place < s.size := byteAt_in (by unfold planeB at h2'; simp at h2'; omega)
      have i1 := h.pl; have i2 := h.pn; have i3 := h.lv; have i4 := h.w2
      by_cases h3 : hexV (byteAt s (st.place + 1)) < 0
      · rw [tree_bad1 hl' h2' h3]
        exact ⟨by simp [St.goto]; omega, by simp [St.goto]; omega, by simp [St.goto]; omega, h.w1, by simp [St.goto]; omega, h.bx⟩
      have hp1 := hexV_in (s := s) (i := st.place + 1) (by omega)
      by_cases h4 : hexV (byteAt s (st.place + 2)) < 0
      · rw [tree_bad2 hl' h2' h3 h4]
        exact ⟨by simp [St.goto]; omega, by simp [St.goto]; omega, by simp [St.goto]; omega, h.w1, by simp [St.goto]; omega, h.bx⟩
      have hbd := planeAt_bd h3 h4
      rw [tree_plane hl' h2' h3 h4]
      have e1 := tree_inv s r lo (lowHi s st hi) (st.cut s lo hi) hlo (hhi.set hbd.1 (by omega)) (Inv_cut h h4)
      split
      · exact tree_inv s r (upLo s st lo) hi _ (hlo.set hbd.1 (by omega)) hhi e1
      · exact e1

def pairsF (s : ByteArray) : Nat → Nat → Option Nat
  | 0, _ => none
  | f + 1, i => if i < s.size then
      if byteAt s i ≠ 59 then some i else
      if ¬ (48 ≤ byteAt s (i + 1) ∧ byteAt s (i + 1) ≤ 55) then some (i + 1) else
      if ¬ (48 ≤ byteAt s (i + 2) ∧ byteAt s (i + 2) ≤ 55) then some (i + 2) else pairsF s f (i + 3)
    else none

def pairStep (s : ByteArray) (i : Nat) : Option Nat :=
  if byteAt s i ≠ 59 then some i else
  if ¬ (48 ≤ byteAt s (i + 1) ∧ byteAt s (i + 1) ≤ 55) then some (i + 1) else
  if ¬ (48 ≤ byteAt s (i + 2) ∧ byteAt s (i + 2) ≤ 55) then some (i + 2) else none
theorem pairsF_end {s : ByteArray} {f i : Nat} (h : s.size ≤ i) : pairsF s f i = none := by
  cases f <;> unfold pairsF
  · rfl
  · rw [if_neg (by omega)]
theorem pairsF_bad {s : ByteArray} {f i k : Nat} (h : i < s.size) (hk : pairStep s i = some k) : pairsF s (f + 1) i = some k := by
  unfold pairsF
  rw [if_pos h]
  unfold pairStep at hk
  repeat' split at hk
  · rename_i a; rw [if_pos a]; exact hk
  · rename_i a b; rw [if_neg a, if_pos b]; exact hk
  · rename_i a b c; rw [if_neg a, if_neg b, if_pos c]; exact hk
  · cases hk
theorem pairsF_good {s : ByteArray} {f i : Nat} (h : i < s.size) (hk : pairStep s i = none) : pairsF s (f + 1) i = pairsF s f (i + 3) := by
  conv => lhs; unfold pairsF
  rw [if_pos h]
  unfold pairStep at hk
  repeat' split at hk
  · cases hk
  · cases hk
  · cases hk
  · rename_i a b c; rw [if_neg a, if_neg b, if_neg c]
theorem pairStep_in {s : ByteArray} {i : Nat} (hk : pairStep s i = none) : i + 2 < s.size := by
  unfold pairStep at hk
  repeat' split at hk
  · cases hk
  · cases hk
  · cases hk
  · rename_i a b c; exact byteAt_in (by omega)
theorem pairStep_le {s : ByteArray} {i k : Nat} (h : i < s.size) (hk : pairStep s i = some k) : k ≤ s.size := by
  unfold pairStep at hk
  repeat' split at hk
  · cases hk; omega
  · cases hk; omega
  · rename_i a b c
    have : i + 1 < s.size := byteAt_in (by omega)
    cases hk; omega
  · cases hk

def cubeLo : V3 := ⟨0, 0, 0⟩
def cubeHi : V3 := ⟨4096, 4096, 4096⟩
def st0 : St := ⟨0, 0, -1, []⟩
theorem st0_inv (s : ByteArray) : st0.Inv s := ⟨by simp [st0], by simp [st0], by simp [st0], by simp [st0], by simp [st0], by simp [st0]⟩
theorem cubeLo_cub : cubeLo.Cub := by constructor <;> simp [cubeLo]
theorem cubeHi_cub : cubeHi.Cub := by constructor <;> simp [cubeHi]

/-- The tree of a text. -/
def top (s : ByteArray) : Bool × St := tree s 12 cubeLo cubeHi st0
theorem top_inv (s : ByteArray) : (top s).2.Inv s := tree_inv s 12 _ _ _ cubeLo_cub cubeHi_cub (st0_inv s)
/-- What Check tells: the error and the place; and the leaves. -/
def errS (s : ByteArray) : Int × Int :=
  if 512 < s.size then (2, 0) else
  if (top s).1 = false then (3, (top s).2.place) else
  match pairsF s (s.size + 1) (top s).2.place with
  | some k => (3, (k : Int))
  | none => if 0 ≤ (top s).2.wrong then (4, (top s).2.wrong) else (0, 0)

/-- Several trees, one behind the other. -/
def trees (s : ByteArray) : List (Nat × V3 × V3) → St → Bool × St
  | [], st => (true, st)
  | (r, lo, hi) :: rest, st => if (tree s r lo hi st).1 = true then trees s rest (tree s r lo hi st).2 else tree s r lo hi st

theorem trees_one (s : ByteArray) (r : Nat) (lo hi : V3) (st : St) : trees s [(r, lo, hi)] st = tree s r lo hi st := by
  unfold trees
  split
  · rename_i h
    unfold trees
    exact Prod.ext h.symm rfl
  · rfl
theorem trees_leaf {s : ByteArray} {r : Nat} {lo hi : V3} {rest : List (Nat × V3 × V3)} {st : St} (h : leafB (byteAt s st.place) = true) :
    trees s ((r, lo, hi) :: rest) st = trees s rest (st.leaf lo hi (byteAt s st.place)) := by
  conv => lhs; unfold trees
  rw [tree_leaf h]; rfl
theorem trees_none {s : ByteArray} {r : Nat} {lo hi : V3} {rest : List (Nat × V3 × V3)} {st : St} (h : leafB (byteAt s st.place) = false) (h2 : planeB (byteAt s st.place) = false) :
    trees s ((r, lo, hi) :: rest) st = (false, st) := by
  unfold trees; rw [tree_none h h2]; rfl
theorem trees_deep {s : ByteArray} {lo hi : V3} {rest : List (Nat × V3 × V3)} {st : St} (h : leafB (byteAt s st.place) = false) :
    trees s ((0, lo, hi) :: rest) st = (false, st) := by
  unfold trees; rw [tree_deep h]; rfl
theorem trees_bad1 {s : ByteArray} {r : Nat} {lo hi : V3} {rest : List (Nat × V3 × V3)} {st : St} (h : leafB (byteAt s st.place) = false) (h2 : planeB (byteAt s st.place) = true) (h3 : hexV (byteAt s (st.place + 1)) < 0) :
    trees s ((r + 1, lo, hi) :: rest) st = (false, st.goto (st.place + 1)) := by
  unfold trees; rw [tree_bad1 h h2 h3]; rfl
theorem trees_bad2 {s : ByteArray} {r : Nat} {lo hi : V3} {rest : List (Nat × V3 × V3)} {st : St} (h : leafB (byteAt s st.place) = false) (h2 : planeB (byteAt s st.place) = true) (h3 : ¬ hexV (byteAt s (st.place + 1)) < 0) (h4 : hexV (byteAt s (st.place + 2)) < 0) :
    trees s ((r + 1, lo, hi) :: rest) st = (false, st.goto (st.place + 2)) := by
  unfold trees; rw [tree_bad2 h h2 h3 h4]; rfl
theorem trees_plane {s : ByteArray} {r : Nat} {lo hi : V3} {rest : List (Nat × V3 × V3)} {st : St} (h : leafB (byteAt s st.place) = false) (h2 : planeB (byteAt s st.place) = true) (h3 : ¬ hexV (byteAt s (st.place + 1)) < 0) (h4 : ¬ hexV (byteAt s (st.place + 2)) < 0) :
    trees s ((r + 1, lo, hi) :: rest) st = trees s ((r, lo, lowHi s st hi) :: (r, upLo s st lo, hi) :: rest) (st.cut s lo hi) := by
  conv => lhs; unfold trees
  conv => rhs; unfold trees
  rw [tree_plane h h2 h3 h4]
  by_cases hx : (tree s r lo (lowHi s st hi) (st.cut s lo hi)).1 = true
  · rw [if_pos hx]
    simp only [hx, if_true]
    conv => rhs; unfold trees
  · rw [if_neg hx, if_neg hx, if_neg hx]

end Go.Proofs.YtonmihojfcjmjaaGreat.M

/- The pairs of a map: what its reader keeps, and what the document sees. -/
namespace Go.Proofs.YtonmihojfcjmjaaGreat.M

/-- Two zones, in both orders. -/
def pset (ps : Nat → Bool) (a b : Nat) : Nat → Bool := fun i => if i = 8 * b + a then true else if i = 8 * a + b then true else ps i
/-- The zones of the pair at i. -/
def pairA (s : ByteArray) (i : Nat) : Nat := (hexV (byteAt s (i + 1))).toNat
def pairB (s : ByteArray) (i : Nat) : Nat := (hexV (byteAt s (i + 2))).toNat
/-- All pairs from place j on. -/
def pairsT (s : ByteArray) : Nat → Nat → (Nat → Bool) → (Nat → Bool)
  | 0, _, ps => ps
  | k + 1, j, ps => if j < s.size ∧ pairStep s j = none then pairsT s k (j + 3) (pset ps (pairA s j) (pairB s j)) else ps
def noPairs : Nat → Bool := fun _ => false
/-- The pairs of a map. -/
def prs (s : ByteArray) : Nat → Bool := pairsT s (s.size + 1) (top s).2.place noPairs

theorem pairsT_good {s : ByteArray} {k j : Nat} {ps : Nat → Bool} (h : j < s.size) (hk : pairStep s j = none) : pairsT s (k + 1) j ps = pairsT s k (j + 3) (pset ps (pairA s j) (pairB s j)) := by
  conv => lhs; unfold pairsT
  rw [if_pos ⟨h, hk⟩]
theorem pairsT_end {s : ByteArray} {k j : Nat} {ps : Nat → Bool} (h : s.size ≤ j) : pairsT s k j ps = ps := by
  cases k
  · rfl
  · unfold pairsT; rw [if_neg (by omega)]

theorem pairStep_form {s : ByteArray} {i : Nat} (h : pairStep s i = none) : byteAt s i = 59 ∧ (48 ≤ byteAt s (i + 1) ∧ byteAt s (i + 1) ≤ 55) ∧ (48 ≤ byteAt s (i + 2) ∧ byteAt s (i + 2) ≤ 55) := by
  unfold pairStep at h
  by_cases h1 : byteAt s i ≠ 59
  · rw [if_pos h1] at h; cases h
  rw [if_neg h1] at h
  by_cases h2 : ¬ (48 ≤ byteAt s (i + 1) ∧ byteAt s (i + 1) ≤ 55)
  · rw [if_pos h2] at h; cases h
  rw [if_neg h2] at h
  by_cases h3 : ¬ (48 ≤ byteAt s (i + 2) ∧ byteAt s (i + 2) ≤ 55)
  · rw [if_pos h3] at h; cases h
  exact ⟨by omega, by omega, by omega⟩

theorem hexV_digit {c : Int} (h : 48 ≤ c ∧ c ≤ 55) : hexV c = c - 48 := by unfold hexV; rw [if_pos (by omega)]

/-- Do two zones see each other? From place i on. -/
def seesF (m : ByteArray) (a b : Int) : Nat → Nat → Bool
  | 0, _ => false
  | n + 1, i => if i + 2 < m.size then
      (if byteAt m i = 59 ∧ ((byteAt m (i + 1) - 48 = a ∧ byteAt m (i + 2) - 48 = b) ∨ (byteAt m (i + 1) - 48 = b ∧ byteAt m (i + 2) - 48 = a)) then true else seesF m a b n (i + 1))
    else false
def sees (m : ByteArray) (a b : Int) : Bool := decide (a = b) || seesF m a b (m.size + 1) 0

/-- Is there a pair of these at i? -/
def pairHere (m : ByteArray) (a b : Int) (i : Nat) : Prop := byteAt m i = 59 ∧ ((byteAt m (i + 1) - 48 = a ∧ byteAt m (i + 2) - 48 = b) ∨ (byteAt m (i + 1) - 48 = b ∧ byteAt m (i + 2) - 48 = a))

theorem seesF_iff (m : ByteArray) (a b : Int) : ∀ (n i : Nat), m.size ≤ n + i → (seesF m a b n i = true ↔ ∃ j, i ≤ j ∧ j + 2 < m.size ∧ pairHere m a b j)
  | 0, i, h => by
    unfold seesF
    constructor
    · intro x; cases x
    · rintro ⟨j, h1, h2, _⟩; omega
  | n + 1, i, h => by
    unfold seesF
    by_cases h1 : i + 2 < m.size
    · rw [if_pos h1]
      by_cases h2 : pairHere m a b i
      · have h2' := h2
        unfold pairHere at h2'
        rw [if_pos h2']
        exact ⟨fun _ => ⟨i, Nat.le_refl _, h1, h2⟩, fun _ => rfl⟩
      · have h2' := h2
        unfold pairHere at h2'
        rw [if_neg h2', seesF_iff m a b n (i + 1) (by omega)]
        constructor
        · rintro ⟨j, a1, a2, a3⟩; exact ⟨j, by omega, a2, a3⟩
        · rintro ⟨j, a1, a2, a3⟩
          refine ⟨j, ?_, a2, a3⟩
          rcases Nat.eq_or_lt_of_le a1 with e | e
          · subst e; exact absurd a3 h2
          · exact e
    · rw [if_neg h1]
      constructor
      · intro x; cases x
      · rintro ⟨j, a1, a2, _⟩; omega

/-- What the pairs from place j on add. -/
theorem pairsT_iff (s : ByteArray) (a b : Nat) (ha : a < 8) (hb : b < 8) : ∀ (k j : Nat) (ps : Nat → Bool), s.size < k + j → j ≤ s.size → pairsF s k j = none →
    (pairsT s k j ps (8 * a + b) = true ↔ ps (8 * a + b) = true ∨ ∃ i, j ≤ i ∧ i + 2 < s.size ∧ pairHere s a b i)
  | 0, j, ps, h, hj, _ => by omega
  | k + 1, j, ps, h, hj, hn => by
    by_cases hlt : j < s.size
    · cases hst : pairStep s j with
      | some x => rw [pairsF_bad hlt hst] at hn; cases hn
      | none =>
        have h3 := pairStep_in hst
        obtain ⟨f0, f1, f2⟩ := pairStep_form hst
        rw [pairsT_good hlt hst, pairsT_iff s a b ha hb k (j + 3) _ (by omega) (by omega) (by rw [← pairsF_good hlt hst]; exact hn)]
        have eA : ((pairA s j : Nat) : Int) = byteAt s (j + 1) - 48 := by unfold pairA; rw [hexV_digit f1]; omega
        have eB : ((pairB s j : Nat) : Int) = byteAt s (j + 2) - 48 := by unfold pairB; rw [hexV_digit f2]; omega
        have key : pset ps (pairA s j) (pairB s j) (8 * a + b) = true ↔ ps (8 * a + b) = true ∨ pairHere s a b j := by
          unfold pset pairHere
          by_cases c1 : 8 * a + b = 8 * pairB s j + pairA s j
          · rw [if_pos c1]
            have : (a : Int) = byteAt s (j + 2) - 48 ∧ (b : Int) = byteAt s (j + 1) - 48 := by omega
            exact ⟨fun _ => .inr ⟨f0, .inr ⟨by omega, by omega⟩⟩, fun _ => rfl⟩
          · rw [if_neg c1]
            by_cases c2 : 8 * a + b = 8 * pairA s j + pairB s j
            · rw [if_pos c2]
              have : (a : Int) = byteAt s (j + 1) - 48 ∧ (b : Int) = byteAt s (j + 2) - 48 := by omega
              exact ⟨fun _ => .inr ⟨f0, .inl ⟨by omega, by omega⟩⟩, fun _ => rfl⟩
            · rw [if_neg c2]
              constructor
              · exact .inl
              · rintro (x | ⟨_, x | x⟩)
                · exact x
                · omega
                · omega
        rw [key]
        constructor
        · rintro ((x | x) | ⟨i, a1, a2, a3⟩)
          · exact .inl x
          · exact .inr ⟨j, Nat.le_refl _, by omega, x⟩
          · exact .inr ⟨i, by omega, a2, a3⟩
        · rintro (x | ⟨i, a1, a2, a3⟩)
          · exact .inl (.inl x)
          · by_cases e0 : i = j
            · subst e0; exact .inl (.inr a3)
            · have n1 : i ≠ j + 1 := by rintro rfl; have := a3.1; omega
              have n2 : i ≠ j + 2 := by rintro rfl; have := a3.1; omega
              exact .inr ⟨i, by omega, a2, a3⟩
    · rw [pairsT_end (by omega)]
      constructor
      · exact .inl
      · rintro (x | ⟨i, a1, a2, _⟩)
        · exact x
        · omega

theorem hexV_not59 {c : Int} (h : ¬ hexV c < 0) : c ≠ 59 := by
  rintro rfl
  exact h (by decide)

/-- A tree's text has no mark of a pair. -/
theorem tree_no59 (s : ByteArray) : ∀ (r : Nat) (lo hi : V3) (st : St), (tree s r lo hi st).1 = true → st.place ≤ (tree s r lo hi st).2.place ∧ ∀ i, st.place ≤ i → i < (tree s r lo hi st).2.place → byteAt s i ≠ 59
  | r, lo, hi, st, h => by
    by_cases hl : leafB (byteAt s st.place) = true
    · rw [tree_leaf hl]
      refine ⟨by simp [St.leaf], fun i h1 h2 => ?_⟩
      simp [St.leaf] at h2
      obtain rfl : i = st.place := by omega
      intro e
      rw [e] at hl
      exact absurd hl (by decide)
    have hl' : leafB (byteAt s st.place) = false := by simpa using hl
    cases r with
    | zero => rw [tree_deep hl'] at h; cases h
    | succ r =>
      by_cases h2 : planeB (byteAt s st.place) = false
      · rw [tree_none hl' h2] at h; cases h
      have h2' : planeB (byteAt s st.place) = true := by simpa using h2
      by_cases h3 : hexV (byteAt s (st.place + 1)) < 0
      · rw [tree_bad1 hl' h2' h3] at h; cases h
      by_cases h4 : hexV (byteAt s (st.place + 2)) < 0
      · rw [tree_bad2 hl' h2' h3 h4] at h; cases h
      rw [tree_plane hl' h2' h3 h4] at h ⊢
      by_cases hx : (tree s r lo (lowHi s st hi) (st.cut s lo hi)).1 = true
      · rw [if_pos hx] at h ⊢
        obtain ⟨a1, a2⟩ := tree_no59 s r lo (lowHi s st hi) (st.cut s lo hi) hx
        obtain ⟨b1, b2⟩ := tree_no59 s r (upLo s st lo) hi _ h
        have e : (st.cut s lo hi).place = st.place + 3 := rfl
        rw [e] at a1 a2
        refine ⟨by omega, fun i h5 h6 => ?_⟩
        by_cases c0 : i = st.place
        · subst c0; intro e; rw [e] at h2'; exact absurd h2' (by decide)
        by_cases c1 : i = st.place + 1
        · subst c1; exact hexV_not59 h3
        by_cases c2 : i = st.place + 2
        · subst c2; exact hexV_not59 h4
        by_cases c3 : i < (tree s r lo (lowHi s st hi) (st.cut s lo hi)).2.place
        · exact a2 i (by omega) c3
        · exact b2 i (by omega) h6
      · rw [if_neg hx] at h; exact absurd h hx

/-- The reader's pairs are what the document sees. -/
theorem prs_sees {s : ByteArray} (h1 : (top s).1 = true) (h2 : pairsF s (s.size + 1) (top s).2.place = none) (a b : Nat) (ha : a < 8) (hb : b < 8) : (decide (a = b) || prs s (8 * a + b)) = sees s a b := by
  have hno := (tree_no59 s 12 cubeLo cubeHi st0 h1).2
  have hpl := (top_inv s).pl
  have key : prs s (8 * a + b) = seesF s a b (s.size + 1) 0 := by
    rw [Bool.eq_iff_iff, seesF_iff _ _ _ _ _ (by omega)]
    unfold prs
    rw [pairsT_iff s a b ha hb _ _ _ (by omega) hpl h2]
    constructor
    · rintro (x | ⟨i, _, a2, a3⟩)
      · cases x
      · exact ⟨i, Nat.zero_le _, a2, a3⟩
    · rintro ⟨i, _, a2, a3⟩
      refine .inr ⟨i, ?_, a2, a3⟩
      rcases Nat.lt_or_ge i (top s).2.place with x | x
      · exact absurd a3.1 (hno i (Nat.zero_le _) x)
      · exact x
  unfold sees
  rw [key]
  have e : decide (a = b) = decide ((a : Int) = (b : Int)) := decide_eq_decide.2 ⟨fun x => by rw [x], fun x => by omega⟩
  rw [e]

end Go.Proofs.YtonmihojfcjmjaaGreat.M

/- The meaning of packets. -/
namespace Go.Proofs.YtonmihojfcjmjaaGreat

/-- A command. -/
structure M.Cmd where
  seq : Int
  fire : Bool
  mv : M.V3
  aim : M.V3
  time : Int

/-- A number's byte. -/
def M.b8 (n : Int) : UInt8 := UInt8.ofNat (n % 256).toNat
theorem M.b8_nat (n : Int) : ((M.b8 n).toNat : Int) = n % 256 := by
  unfold M.b8
  simp
  omega
theorem M.b8_lt (n : Int) (h : 0 ≤ n) (h2 : n < 256) : ((M.b8 n).toNat : Int) = n := by rw [M.b8_nat]; omega
theorem M.b8_back (c : UInt8) : M.b8 (c.toNat : Int) = c := by
  apply UInt8.toNat_inj.1
  have := M.b8_nat (c.toNat : Int)
  have := c.toNat_lt
  omega

def M.smallB (p : M.V3) : Bool := decide (-128 ≤ p.x) && decide (p.x ≤ 127) && decide (-128 ≤ p.y) && decide (p.y ≤ 127) && decide (-128 ≤ p.z) && decide (p.z ≤ 127)
def M.Cmd.numB (c : M.Cmd) : Bool := decide (1 ≤ c.seq) && decide (c.seq ≤ 65535) && decide (0 ≤ c.time) && decide (c.time ≤ 16777215)
def M.Cmd.fitsB (c : M.Cmd) : Bool := c.numB && M.smallB c.mv && M.smallB c.aim

structure M.Small (p : M.V3) : Prop where
  x1 : -128 ≤ p.x
  x2 : p.x ≤ 127
  y1 : -128 ≤ p.y
  y2 : p.y ≤ 127
  z1 : -128 ≤ p.z
  z2 : p.z ≤ 127
theorem M.smallB_iff (p : M.V3) : M.smallB p = true ↔ M.Small p := by
  unfold M.smallB
  simp
  constructor
  · rintro ⟨⟨⟨⟨⟨a, b⟩, c⟩, d⟩, e⟩, f⟩; exact ⟨a, b, c, d, e, f⟩
  · rintro ⟨a, b, c, d, e, f⟩; exact ⟨⟨⟨⟨⟨a, b⟩, c⟩, d⟩, e⟩, f⟩

structure M.Fits (c : M.Cmd) : Prop where
  s1 : 1 ≤ c.seq
  s2 : c.seq ≤ 65535
  t1 : 0 ≤ c.time
  t2 : c.time ≤ 16777215
  mv : M.Small c.mv
  aim : M.Small c.aim
theorem M.fitsB_iff (c : M.Cmd) : c.fitsB = true ↔ M.Fits c := by
  unfold M.Cmd.fitsB M.Cmd.numB
  simp [M.smallB_iff]
  constructor
  · rintro ⟨⟨⟨⟨⟨a, b⟩, c⟩, d⟩, e⟩, f⟩; exact ⟨a, b, c, d, e, f⟩
  · rintro ⟨a, b, c, d, e, f⟩; exact ⟨⟨⟨⟨⟨a, b⟩, c⟩, d⟩, e⟩, f⟩

/-- The mark of fire as a number. -/
def M.fireN (b : Bool) : Int := if b then 1 else 0

/-- The first thirteen bytes, as numbers. -/
def M.Cmd.body (c : M.Cmd) : List Int := [67, c.seq % 256, c.seq / 256 % 256, M.fireN c.fire, c.mv.x % 256, c.mv.y % 256, c.mv.z % 256, c.aim.x % 256, c.aim.y % 256, c.aim.z % 256, c.time % 256, c.time / 256 % 256, c.time / 65536 % 256]
def M.Cmd.chk (c : M.Cmd) : Int := c.body.sum % 256
/-- The packet. -/
def M.Cmd.pack (c : M.Cmd) : ByteArray := ⟨#[67, M.b8 c.seq, M.b8 (c.seq / 256), M.b8 (M.fireN c.fire), M.b8 c.mv.x, M.b8 c.mv.y, M.b8 c.mv.z, M.b8 c.aim.x, M.b8 c.aim.y, M.b8 c.aim.z, M.b8 c.time, M.b8 (c.time / 256), M.b8 (c.time / 65536), M.b8 c.chk]⟩

theorem M.fireN_01 (b : Bool) : 0 ≤ M.fireN b ∧ M.fireN b ≤ 1 := by cases b <;> decide

/-- A byte with its sign. -/
def M.sg (n : Int) : Int := if 127 < n then n - 256 else n
theorem M.sg_back {n : Int} (h1 : -128 ≤ n) (h2 : n ≤ 127) : M.sg (n % 256) = n := by unfold M.sg; split <;> omega

/-- The command whose numbers stand in these bytes. -/
def M.rd (b : Nat → Int) : M.Cmd :=
  ⟨b 1 + 256 * b 2, decide (b 3 = 1), ⟨M.sg (b 4), M.sg (b 5), M.sg (b 6)⟩, ⟨M.sg (b 7), M.sg (b 8), M.sg (b 9)⟩, b 10 + 256 * b 11 + 65536 * b 12⟩

theorem M.str14 (p : ByteArray) (h : p.size = 14) : ∃ b0 b1 b2 b3 b4 b5 b6 b7 b8 b9 b10 b11 b12 b13 : UInt8, p = ⟨#[b0, b1, b2, b3, b4, b5, b6, b7, b8, b9, b10, b11, b12, b13]⟩ := by
  obtain ⟨⟨l⟩⟩ := p
  replace h : l.length = 14 := h
  match l, h with
  | [b0, b1, b2, b3, b4, b5, b6, b7, b8, b9, b10, b11, b12, b13], _ => exact ⟨b0, b1, b2, b3, b4, b5, b6, b7, b8, b9, b10, b11, b12, b13, rfl⟩

/-- The sum is right. -/
def M.sumOk (b0 b1 b2 b3 b4 b5 b6 b7 b8 b9 b10 b11 b12 b13 : UInt8) : Prop :=
  ((b0.toNat : Int) + b1.toNat + b2.toNat + b3.toNat + b4.toNat + b5.toNat + b6.toNat + b7.toNat + b8.toNat + b9.toNat + b10.toNat + b11.toNat + b12.toNat) % 256 = b13.toNat

theorem M.chk_eq (c : M.Cmd) : c.chk = (67 + c.seq % 256 + c.seq / 256 % 256 + M.fireN c.fire + c.mv.x % 256 + c.mv.y % 256 + c.mv.z % 256 + c.aim.x % 256 + c.aim.y % 256 + c.aim.z % 256 + c.time % 256 + c.time / 256 % 256 + c.time / 65536 % 256) % 256 := by
  unfold M.Cmd.chk M.Cmd.body
  simp only [List.sum_cons, List.sum_nil]
  congr 1
  omega

theorem M.pack_sum (c : M.Cmd) (b0 b1 b2 b3 b4 b5 b6 b7 b8 b9 b10 b11 b12 b13 : UInt8) (h : c.pack = ⟨#[b0, b1, b2, b3, b4, b5, b6, b7, b8, b9, b10, b11, b12, b13]⟩) : M.sumOk b0 b1 b2 b3 b4 b5 b6 b7 b8 b9 b10 b11 b12 b13 := by
  unfold M.Cmd.pack at h
  injection h with h
  simp only [Array.mk.injEq, List.cons.injEq, and_true] at h
  obtain ⟨rfl, rfl, rfl, rfl, rfl, rfl, rfl, rfl, rfl, rfl, rfl, rfl, rfl, rfl⟩ := h
  unfold M.sumOk
  have := M.fireN_01 c.fire
  have e : ((67 : UInt8).toNat : Int) = 67 := rfl
  rw [e]
  simp only [M.b8_nat]
  rw [M.chk_eq]
  omega

theorem M.pack_size (c : M.Cmd) : c.pack.size = 14 := rfl
theorem M.pack_at (c : M.Cmd) (i : Nat) (b : UInt8) (h : i < 14) (e : c.pack.data[i]'h = b) : M.byteAt c.pack i = (b.toNat : Int) := by
  rw [M.byteAt_lt (s := c.pack) (i := i) h, ← e]
  rfl

/-- What was packed is read again. -/
theorem M.rd_pack (c : M.Cmd) (h : M.Fits c) : M.rd (M.byteAt c.pack) = c := by
  obtain ⟨s1, s2, t1, t2, ⟨x1, x2, y1, y2, z1, z2⟩, ⟨u1, u2, v1, v2, w1, w2⟩⟩ := h
  unfold M.rd
  rw [M.pack_at c 1 (M.b8 c.seq) (by omega) rfl, M.pack_at c 2 (M.b8 (c.seq / 256)) (by omega) rfl, M.pack_at c 3 (M.b8 (M.fireN c.fire)) (by omega) rfl, M.pack_at c 4 (M.b8 c.mv.x) (by omega) rfl, M.pack_at c 5 (M.b8 c.mv.y) (by omega) rfl, M.pack_at c 6 (M.b8 c.mv.z) (by omega) rfl, M.pack_at c 7 (M.b8 c.aim.x) (by omega) rfl,
    M.pack_at c 8 (M.b8 c.aim.y) (by omega) rfl, M.pack_at c 9 (M.b8 c.aim.z) (by omega) rfl, M.pack_at c 10 (M.b8 c.time) (by omega) rfl, M.pack_at c 11 (M.b8 (c.time / 256)) (by omega) rfl, M.pack_at c 12 (M.b8 (c.time / 65536)) (by omega) rfl]
  simp only [M.b8_nat]
  rw [M.sg_back x1 x2, M.sg_back y1 y2, M.sg_back z1 z2, M.sg_back u1 u2, M.sg_back v1 v2, M.sg_back w1 w2]
  have e1 : c.seq % 256 + 256 * (c.seq / 256 % 256) = c.seq := by omega
  have e2 : c.time % 256 + 256 * (c.time / 256 % 256) + 65536 * (c.time / 65536 % 256) = c.time := by omega
  have e3 : decide (M.fireN c.fire % 256 = 1) = c.fire := by cases c.fire <;> decide
  rw [e1, e2, e3]

/-- The command that Decode tells. -/
def M.decC (p : ByteArray) : M.Cmd := M.rd (M.byteAt p)

end Go.Proofs.YtonmihojfcjmjaaGreat

/- The meaning of poses. -/
namespace Go.Proofs.YtonmihojfcjmjaaGreat.M

/-- A record. -/
structure Rec where
  tick : Int
  pos : V3

/-- In the cube. -/
structure Cube (p : V3) : Prop where
  x1 : 0 ≤ p.x
  x2 : p.x ≤ 4096
  y1 : 0 ≤ p.y
  y2 : p.y ≤ 4096
  z1 : 0 ≤ p.z
  z2 : p.z ≤ 4096

/-- The greatest whole number that is not above the part of the way. -/
def blend (a b gone left : Int) : Int := (a * left + b * gone) / (gone + left)

theorem mul_bd {a b A B : Int} (a1 : 0 ≤ a) (a2 : a ≤ A) (b1 : 0 ≤ b) (b2 : b ≤ B) : 0 ≤ a * b ∧ a * b ≤ A * B :=
  ⟨Int.mul_nonneg a1 b1, Int.mul_le_mul a2 b2 b1 (by omega)⟩

theorem blend_bd {a b gone left : Int} (a1 : 0 ≤ a) (a2 : a ≤ 4096) (b1 : 0 ≤ b) (b2 : b ≤ 4096) (g1 : 0 ≤ gone) (l1 : 0 ≤ left) (h : 0 < gone + left) : 0 ≤ blend a b gone left ∧ blend a b gone left ≤ 4096 := by
  unfold blend
  have e1 : 0 ≤ a * left := Int.mul_nonneg a1 l1
  have e2 : 0 ≤ b * gone := Int.mul_nonneg b1 g1
  have e3 : a * left ≤ 4096 * left := Int.mul_le_mul_of_nonneg_right a2 l1
  have e4 : b * gone ≤ 4096 * gone := Int.mul_le_mul_of_nonneg_right b2 g1
  constructor
  · exact Int.ediv_nonneg (by omega) (by omega)
  · apply Int.ediv_le_of_le_mul h
    rw [Int.mul_add]
    omega

/-- Where it stood between two records. -/
def mid (a b : Rec) (t : Int) : V3 :=
  ⟨blend a.pos.x b.pos.x (t - 256 * a.tick) (256 * b.tick - t), blend a.pos.y b.pos.y (t - 256 * a.tick) (256 * b.tick - t), blend a.pos.z b.pos.z (t - 256 * a.tick) (256 * b.tick - t)⟩

/-- Where it stood by the records behind 'a', t not below a's time. -/
def poseF (a : Rec) (t : Int) : List Rec → V3
  | [] => a.pos
  | r :: rs => if t < 256 * r.tick then mid a r t else poseF r t rs
/-- Where it stood. -/
def pose (t : Int) : List Rec → V3
  | [] => ⟨0, 0, 0⟩
  | r :: rs => if t ≤ 256 * r.tick then r.pos else poseF r t (r :: rs)

/-- May this be a record behind the tick 'last'? -/
def recB (last : Int) (r : Rec) : Bool := decide (last < r.tick) && decide (r.tick ≤ 3000) && decide (0 ≤ r.pos.x) && decide (r.pos.x ≤ 4096) && decide (0 ≤ r.pos.y) && decide (r.pos.y ≤ 4096) && decide (0 ≤ r.pos.z) && decide (r.pos.z ≤ 4096)
def risingB (last : Int) : List Rec → Bool
  | [] => true
  | r :: rs => recB last r && risingB r.tick rs


/-- A record that may be. -/
structure Ok (r : Rec) : Prop where
  t1 : 0 ≤ r.tick
  t2 : r.tick ≤ 3000
  c : Cube r.pos

theorem recB_iff (last : Int) (r : Rec) : recB last r = true ↔ last < r.tick ∧ r.tick ≤ 3000 ∧ Cube r.pos := by
  unfold recB
  simp
  constructor
  · rintro ⟨⟨⟨⟨⟨⟨⟨a, b⟩, c⟩, d⟩, e⟩, f⟩, g⟩, h⟩; exact ⟨a, b, ⟨c, d, e, f, g, h⟩⟩
  · rintro ⟨a, b, ⟨c, d, e, f, g, h⟩⟩; exact ⟨⟨⟨⟨⟨⟨⟨a, b⟩, c⟩, d⟩, e⟩, f⟩, g⟩, h⟩

theorem rising_ok : ∀ (rs : List Rec) (last : Int), -1 ≤ last → risingB last rs = true → ∀ r ∈ rs, Ok r
  | [], _, _, _, r, h => by cases h
  | x :: rs, last, hl, h, r, hr => by
    unfold risingB at h
    rw [Bool.and_eq_true] at h
    obtain ⟨h1, h2, h3⟩ := (recB_iff last x).1 h.1
    rcases List.mem_cons.1 hr with rfl | hr
    · exact ⟨by omega, h2, h3⟩
    · exact rising_ok rs x.tick (by omega) h.2 r hr

end Go.Proofs.YtonmihojfcjmjaaGreat.M

/- Zones: the last leaf that holds a point is the last one that owns it. No Go in sight. -/
namespace Go.Proofs.YtonmihojfcjmjaaGreat.M

def holdsB2 (l : Lf) (p : V3) : Bool := decide (l.lo.x ≤ p.x) && decide (p.x ≤ l.hi.x) && decide (l.lo.y ≤ p.y) && decide (p.y ≤ l.hi.y) && decide (l.lo.z ≤ p.z) && decide (p.z ≤ l.hi.z)
/-- No border of it belongs to another leaf's zone. -/
def freeB (hi p : V3) : Bool := !(decide (p.x = hi.x) && decide (hi.x < 4096)) && !(decide (p.y = hi.y) && decide (hi.y < 4096)) && !(decide (p.z = hi.z) && decide (hi.z < 4096))
def ownB (l : Lf) (p : V3) : Bool := holdsB2 l p && freeB l.hi p

def zP (p : V3) : List Lf → Int → Int
  | [], z => z
  | l :: ls, z => if holdsB2 l p = true then (if l.zone = -1 then -1 else zP p ls l.zone) else zP p ls z
def zR (p : V3) : List Lf → Int → Int
  | [], z => z
  | l :: ls, z => if holdsB2 l p = true ∧ l.zone < 0 then -1 else zR p ls (if ownB l p = true then l.zone else z)

/-- The last zone among those that a test picks. -/
def lastZ (f : Lf → Bool) : List Lf → Option Int
  | [] => none
  | l :: ls => match lastZ f ls with
    | some z => some z
    | none => if f l = true then some l.zone else none

theorem lastZ_append (f : Lf → Bool) (a b : List Lf) : lastZ f (a ++ b) = match lastZ f b with | some z => some z | none => lastZ f a := by
  induction a with
  | nil => simp [lastZ]; cases lastZ f b <;> rfl
  | cons l ls ih =>
    simp only [List.cons_append, lastZ]
    rw [ih]
    cases lastZ f b <;> rfl
theorem lastZ_none {f : Lf → Bool} {ls : List Lf} (h : ∀ l ∈ ls, f l = false) : lastZ f ls = none := by
  induction ls with
  | nil => rfl
  | cons l ls ih =>
    simp only [lastZ]
    rw [ih (fun x hx => h x (by simp [hx])), h l (by simp)]
    rfl
theorem lastZ_some {f : Lf → Bool} {ls : List Lf} {l : Lf} (hm : l ∈ ls) (h : f l = true) : ∃ z, lastZ f ls = some z := by
  induction ls with
  | nil => cases hm
  | cons x ls ih =>
    simp only [lastZ]
    rcases List.mem_cons.1 hm with rfl | hm
    · cases lastZ f ls with
      | some z => exact ⟨z, rfl⟩
      | none => rw [h]; exact ⟨_, rfl⟩
    · obtain ⟨z, hz⟩ := ih hm
      rw [hz]; exact ⟨z, rfl⟩

theorem zP_solid {p : V3} {ls : List Lf} (h : ∃ l ∈ ls, holdsB2 l p = true ∧ l.zone = -1) : ∀ z, zP p ls z = -1 := by
  induction ls with
  | nil => obtain ⟨l, hm, _⟩ := h; cases hm
  | cons x ls ih =>
    intro z
    simp only [zP]
    by_cases hx : holdsB2 x p = true
    · rw [if_pos hx]
      by_cases hz : x.zone = -1
      · rw [if_pos hz]
      · rw [if_neg hz]
        obtain ⟨l, hm, h1, h2⟩ := h
        rcases List.mem_cons.1 hm with rfl | hm
        · exact absurd h2 hz
        · exact ih ⟨l, hm, h1, h2⟩ _
    · rw [if_neg hx]
      obtain ⟨l, hm, h1, h2⟩ := h
      rcases List.mem_cons.1 hm with rfl | hm
      · exact absurd h1 hx
      · exact ih ⟨l, hm, h1, h2⟩ _
theorem zR_solid {p : V3} {ls : List Lf} (h : ∃ l ∈ ls, holdsB2 l p = true ∧ l.zone = -1) : ∀ z, zR p ls z = -1 := by
  induction ls with
  | nil => obtain ⟨l, hm, _⟩ := h; cases hm
  | cons x ls ih =>
    intro z
    simp only [zR]
    by_cases hx : holdsB2 x p = true ∧ x.zone < 0
    · rw [if_pos hx]
    · rw [if_neg hx]
      obtain ⟨l, hm, h1, h2⟩ := h
      rcases List.mem_cons.1 hm with rfl | hm
      · exact absurd ⟨h1, by omega⟩ hx
      · exact ih ⟨l, hm, h1, h2⟩ _
theorem zP_open {p : V3} {ls : List Lf} (h : ¬ ∃ l ∈ ls, holdsB2 l p = true ∧ l.zone = -1) : ∀ z, zP p ls z = (lastZ (fun l => holdsB2 l p) ls).getD z := by
  induction ls with
  | nil => intro z; rfl
  | cons x ls ih =>
    intro z
    have h' : ¬ ∃ l ∈ ls, holdsB2 l p = true ∧ l.zone = -1 := fun ⟨l, hm, q⟩ => h ⟨l, by simp [hm], q⟩
    simp only [zP, lastZ]
    by_cases hx : holdsB2 x p = true
    · rw [if_pos hx, if_neg (fun hz => h ⟨x, by simp, hx, hz⟩), ih h']
      cases lastZ (fun l => holdsB2 l p) ls <;> simp [hx]
    · rw [if_neg hx, ih h']
      cases lastZ (fun l => holdsB2 l p) ls <;> simp [hx]
theorem zR_open {p : V3} {ls : List Lf} (hz : ∀ l ∈ ls, -1 ≤ l.zone) (h : ¬ ∃ l ∈ ls, holdsB2 l p = true ∧ l.zone = -1) : ∀ z, zR p ls z = (lastZ (fun l => ownB l p) ls).getD z := by
  induction ls with
  | nil => intro z; rfl
  | cons x ls ih =>
    intro z
    have h' : ¬ ∃ l ∈ ls, holdsB2 l p = true ∧ l.zone = -1 := fun ⟨l, hm, q⟩ => h ⟨l, by simp [hm], q⟩
    have hx : ¬ (holdsB2 x p = true ∧ x.zone < 0) := fun ⟨a, b⟩ => h ⟨x, by simp, a, by have := hz x (by simp); omega⟩
    simp only [zR, lastZ]
    rw [if_neg hx, ih (fun l hm => hz l (by simp [hm])) h']
    cases lastZ (fun l => ownB l p) ls with
    | some q => rfl
    | none => by_cases ho : ownB x p = true <;> simp [ho]

/-- The point lies in the region. -/
structure InB (lo hi p : V3) : Prop where
  x1 : lo.x ≤ p.x
  x2 : p.x ≤ hi.x
  y1 : lo.y ≤ p.y
  y2 : p.y ≤ hi.y
  z1 : lo.z ≤ p.z
  z2 : p.z ≤ hi.z
theorem holdsB2_iff {l : Lf} {p : V3} : holdsB2 l p = true ↔ InB l.lo l.hi p := by
  unfold holdsB2
  simp only [Bool.and_eq_true, decide_eq_true_eq]
  exact ⟨fun ⟨⟨⟨⟨⟨a, b⟩, c⟩, d⟩, e⟩, f⟩ => ⟨a, b, c, d, e, f⟩, fun ⟨a, b, c, d, e, f⟩ => ⟨⟨⟨⟨⟨a, b⟩, c⟩, d⟩, e⟩, f⟩⟩

/-- The leaves of a tree with a region. -/
structure Cov (lo hi : V3) (ls : List Lf) : Prop where
  sub : ∀ l ∈ ls, ∀ p, InB l.lo l.hi p → InB lo hi p
  all : ∀ p, InB lo hi p → ∃ l ∈ ls, InB l.lo l.hi p
  own : ∀ p, InB lo hi p → freeB hi p = true → lastZ (fun l => ownB l p) ls = lastZ (fun l => holdsB2 l p) ls

theorem Cov.leaf (lo hi : V3) (z : Int) : Cov lo hi [⟨lo, hi, z⟩] := by
  refine ⟨fun l hm p hp => ?_, fun p hp => ⟨_, List.mem_singleton.2 rfl, hp⟩, fun p hp hf => ?_⟩
  · rw [List.mem_singleton.1 hm] at hp; exact hp
  · have h1 : holdsB2 ⟨lo, hi, z⟩ p = true := holdsB2_iff.2 hp
    have h2 : ownB ⟨lo, hi, z⟩ p = true := by unfold ownB; rw [h1]; simpa using hf
    simp [lastZ, h1, h2]

theorem planes3 {c : Int} (h : planeB c = true) : c = 120 ∨ c = 121 ∨ c = 122 := by unfold planeB at h; simp at h; omega

theorem Cov.split {lo hi : V3} {c v : Int} (hc : planeB c = true) (h1 : getAx lo c < v) (h2 : v < getAx hi c) {a b : List Lf} (ha : Cov lo (setAx hi c v) a) (hb : Cov (setAx lo c v) hi b) : Cov lo hi (a ++ b) := by
  rcases planes3 hc with rfl | rfl | rfl
  · rw [show setAx hi 120 v = ⟨v, hi.y, hi.z⟩ from rfl] at ha
    rw [show setAx lo 120 v = ⟨v, lo.y, lo.z⟩ from rfl] at hb
    rw [show getAx lo 120 = lo.x from rfl] at h1
    rw [show getAx hi 120 = hi.x from rfl] at h2
    refine ⟨fun l hm p hp => ?_, fun p hp => ?_, fun p hp hf => ?_⟩
    · rcases List.mem_append.1 hm with hm | hm
      · obtain ⟨a1, a2, a3, a4, a5, a6⟩ := ha.sub l hm p hp
        simp only at a1 a2 a3 a4 a5 a6
        exact ⟨by omega, by omega, by omega, by omega, by omega, by omega⟩
      · obtain ⟨a1, a2, a3, a4, a5, a6⟩ := hb.sub l hm p hp
        simp only at a1 a2 a3 a4 a5 a6
        exact ⟨by omega, by omega, by omega, by omega, by omega, by omega⟩
    · obtain ⟨a1, a2, a3, a4, a5, a6⟩ := hp
      by_cases hx : p.x < v
      · obtain ⟨l, hm, q⟩ := ha.all p ⟨(by first | omega | (dsimp only; omega)), (by first | omega | (dsimp only; omega)), (by first | omega | (dsimp only; omega)), (by first | omega | (dsimp only; omega)), (by first | omega | (dsimp only; omega)), (by first | omega | (dsimp only; omega))⟩
        exact ⟨l, List.mem_append.2 (.inl hm), q⟩
      · obtain ⟨l, hm, q⟩ := hb.all p ⟨(by first | omega | (dsimp only; omega)), (by first | omega | (dsimp only; omega)), (by first | omega | (dsimp only; omega)), (by first | omega | (dsimp only; omega)), (by first | omega | (dsimp only; omega)), (by first | omega | (dsimp only; omega))⟩
        exact ⟨l, List.mem_append.2 (.inr hm), q⟩
    · obtain ⟨a1, a2, a3, a4, a5, a6⟩ := hp
      rw [lastZ_append, lastZ_append]
      by_cases hx : p.x < v
      · have n1 : ∀ l ∈ b, holdsB2 l p = false := fun l hm => by
          cases hh : holdsB2 l p
          · rfl
          · have := (hb.sub l hm p (holdsB2_iff.1 hh)).x1
            simp only at this
            omega
        have n2 : ∀ l ∈ b, ownB l p = false := fun l hm => by unfold ownB; rw [n1 l hm]; rfl
        rw [lastZ_none n1, lastZ_none n2]
        refine ha.own p ⟨(by first | omega | (dsimp only; omega)), (by first | omega | (dsimp only; omega)), (by first | omega | (dsimp only; omega)), (by first | omega | (dsimp only; omega)), (by first | omega | (dsimp only; omega)), (by first | omega | (dsimp only; omega))⟩ ?_
        unfold freeB at hf ⊢
        simp only [Bool.and_eq_true, Bool.not_eq_true', Bool.and_eq_false_iff, decide_eq_false_iff_not] at hf ⊢
        omega
      · have ip : InB ⟨v, lo.y, lo.z⟩ hi p := ⟨(by first | omega | (dsimp only; omega)), (by first | omega | (dsimp only; omega)), (by first | omega | (dsimp only; omega)), (by first | omega | (dsimp only; omega)), (by first | omega | (dsimp only; omega)), (by first | omega | (dsimp only; omega))⟩
        rw [hb.own p ip hf]
        obtain ⟨l, hm, q⟩ := hb.all p ip
        obtain ⟨z, hz⟩ := lastZ_some (f := fun l => holdsB2 l p) hm (holdsB2_iff.2 q)
        rw [hz]
  · rw [show setAx hi 121 v = ⟨hi.x, v, hi.z⟩ from rfl] at ha
    rw [show setAx lo 121 v = ⟨lo.x, v, lo.z⟩ from rfl] at hb
    rw [show getAx lo 121 = lo.y from rfl] at h1
    rw [show getAx hi 121 = hi.y from rfl] at h2
    refine ⟨fun l hm p hp => ?_, fun p hp => ?_, fun p hp hf => ?_⟩
    · rcases List.mem_append.1 hm with hm | hm
      · obtain ⟨a1, a2, a3, a4, a5, a6⟩ := ha.sub l hm p hp
        simp only at a1 a2 a3 a4 a5 a6
        exact ⟨by omega, by omega, by omega, by omega, by omega, by omega⟩
      · obtain ⟨a1, a2, a3, a4, a5, a6⟩ := hb.sub l hm p hp
        simp only at a1 a2 a3 a4 a5 a6
        exact ⟨by omega, by omega, by omega, by omega, by omega, by omega⟩
    · obtain ⟨a1, a2, a3, a4, a5, a6⟩ := hp
      by_cases hx : p.y < v
      · obtain ⟨l, hm, q⟩ := ha.all p ⟨(by first | omega | (dsimp only; omega)), (by first | omega | (dsimp only; omega)), (by first | omega | (dsimp only; omega)), (by first | omega | (dsimp only; omega)), (by first | omega | (dsimp only; omega)), (by first | omega | (dsimp only; omega))⟩
        exact ⟨l, List.mem_append.2 (.inl hm), q⟩
      · obtain ⟨l, hm, q⟩ := hb.all p ⟨(by first | omega | (dsimp only; omega)), (by first | omega | (dsimp only; omega)), (by first | omega | (dsimp only; omega)), (by first | omega | (dsimp only; omega)), (by first | omega | (dsimp only; omega)), (by first | omega | (dsimp only; omega))⟩
        exact ⟨l, List.mem_append.2 (.inr hm), q⟩
    · obtain ⟨a1, a2, a3, a4, a5, a6⟩ := hp
      rw [lastZ_append, lastZ_append]
      by_cases hx : p.y < v
      · have n1 : ∀ l ∈ b, holdsB2 l p = false := fun l hm => by
          cases hh : holdsB2 l p
          · rfl
          · have := (hb.sub l hm p (holdsB2_iff.1 hh)).y1
            simp only at this
            omega
        have n2 : ∀ l ∈ b, ownB l p = false := fun l hm => by unfold ownB; rw [n1 l hm]; rfl
        rw [lastZ_none n1, lastZ_none n2]
        refine ha.own p ⟨(by first | omega | (dsimp only; omega)), (by first | omega | (dsimp only; omega)), (by first | omega | (dsimp only; omega)), (by first | omega | (dsimp only; omega)), (by first | omega | (dsimp only; omega)), (by first | omega | (dsimp only; omega))⟩ ?_
        unfold freeB at hf ⊢
        simp only [Bool.and_eq_true, Bool.not_eq_true', Bool.and_eq_false_iff, decide_eq_false_iff_not] at hf ⊢
        omega
      · have ip : InB ⟨lo.x, v, lo.z⟩ hi p := ⟨(by first | omega | (dsimp only; omega)), (by first | omega | (dsimp only; omega)), (by first | omega | (dsimp only; omega)), (by first | omega | (dsimp only; omega)), (by first | omega | (dsimp only; omega)), (by first | omega | (dsimp only; omega))⟩
        rw [hb.own p ip hf]
        obtain ⟨l, hm, q⟩ := hb.all p ip
        obtain ⟨z, hz⟩ := lastZ_some (f := fun l => holdsB2 l p) hm (holdsB2_iff.2 q)
        rw [hz]
  · rw [show setAx hi 122 v = ⟨hi.x, hi.y, v⟩ from rfl] at ha
    rw [show setAx lo 122 v = ⟨lo.x, lo.y, v⟩ from rfl] at hb
    rw [show getAx lo 122 = lo.z from rfl] at h1
    rw [show getAx hi 122 = hi.z from rfl] at h2
    refine ⟨fun l hm p hp => ?_, fun p hp => ?_, fun p hp hf => ?_⟩
    · rcases List.mem_append.1 hm with hm | hm
      · obtain ⟨a1, a2, a3, a4, a5, a6⟩ := ha.sub l hm p hp
        simp only at a1 a2 a3 a4 a5 a6
        exact ⟨by omega, by omega, by omega, by omega, by omega, by omega⟩
      · obtain ⟨a1, a2, a3, a4, a5, a6⟩ := hb.sub l hm p hp
        simp only at a1 a2 a3 a4 a5 a6
        exact ⟨by omega, by omega, by omega, by omega, by omega, by omega⟩
    · obtain ⟨a1, a2, a3, a4, a5, a6⟩ := hp
      by_cases hx : p.z < v
      · obtain ⟨l, hm, q⟩ := ha.all p ⟨(by first | omega | (dsimp only; omega)), (by first | omega | (dsimp only; omega)), (by first | omega | (dsimp only; omega)), (by first | omega | (dsimp only; omega)), (by first | omega | (dsimp only; omega)), (by first | omega | (dsimp only; omega))⟩
        exact ⟨l, List.mem_append.2 (.inl hm), q⟩
      · obtain ⟨l, hm, q⟩ := hb.all p ⟨(by first | omega | (dsimp only; omega)), (by first | omega | (dsimp only; omega)), (by first | omega | (dsimp only; omega)), (by first | omega | (dsimp only; omega)), (by first | omega | (dsimp only; omega)), (by first | omega | (dsimp only; omega))⟩
        exact ⟨l, List.mem_append.2 (.inr hm), q⟩
    · obtain ⟨a1, a2, a3, a4, a5, a6⟩ := hp
      rw [lastZ_append, lastZ_append]
      by_cases hx : p.z < v
      · have n1 : ∀ l ∈ b, holdsB2 l p = false := fun l hm => by
          cases hh : holdsB2 l p
          · rfl
          · have := (hb.sub l hm p (holdsB2_iff.1 hh)).z1
            simp only at this
            omega
        have n2 : ∀ l ∈ b, ownB l p = false := fun l hm => by unfold ownB; rw [n1 l hm]; rfl
        rw [lastZ_none n1, lastZ_none n2]
        refine ha.own p ⟨(by first | omega | (dsimp only; omega)), (by first | omega | (dsimp only; omega)), (by first | omega | (dsimp only; omega)), (by first | omega | (dsimp only; omega)), (by first | omega | (dsimp only; omega)), (by first | omega | (dsimp only; omega))⟩ ?_
        unfold freeB at hf ⊢
        simp only [Bool.and_eq_true, Bool.not_eq_true', Bool.and_eq_false_iff, decide_eq_false_iff_not] at hf ⊢
        omega
      · have ip : InB ⟨lo.x, lo.y, v⟩ hi p := ⟨(by first | omega | (dsimp only; omega)), (by first | omega | (dsimp only; omega)), (by first | omega | (dsimp only; omega)), (by first | omega | (dsimp only; omega)), (by first | omega | (dsimp only; omega)), (by first | omega | (dsimp only; omega))⟩
        rw [hb.own p ip hf]
        obtain ⟨l, hm, q⟩ := hb.all p ip
        obtain ⟨z, hz⟩ := lastZ_some (f := fun l => holdsB2 l p) hm (holdsB2_iff.2 q)
        rw [hz]

theorem wrong_mono (s : ByteArray) : ∀ (r : Nat) (lo hi : V3) (st : St), 0 ≤ st.wrong → 0 ≤ (tree s r lo hi st).2.wrong
  | r, lo, hi, st, h => by
    by_cases hl : leafB (byteAt s st.place) = true
    · rw [tree_leaf hl]; exact h
    have hl' : leafB (byteAt s st.place) = false := by simpa using hl
    cases r with
    | zero => rw [tree_deep hl']; exact h
    | succ r =>
      by_cases h2 : planeB (byteAt s st.place) = false
      · rw [tree_none hl' h2]; exact h
      have h2' : planeB (byteAt s st.place) = true := by simpa using h2
      by_cases h3 : hexV (byteAt s (st.place + 1)) < 0
      · rw [tree_bad1 hl' h2' h3]; exact h
      by_cases h4 : hexV (byteAt s (st.place + 2)) < 0
      · rw [tree_bad2 hl' h2' h3 h4]; exact h
      rw [tree_plane hl' h2' h3 h4]
      have e0 : 0 ≤ (st.cut s lo hi).wrong := by
        unfold St.cut St.plane
        simp only
        split <;> omega
      have e1 := wrong_mono s r lo (lowHi s st hi) (st.cut s lo hi) e0
      split
      · exact wrong_mono s r (upLo s st lo) hi _ e1
      · exact e1

/-- A tree that reads, and whose planes lie inside, covers its region. -/
theorem tree_cov (s : ByteArray) : ∀ (r : Nat) (lo hi : V3) (st : St), (tree s r lo hi st).1 = true → (tree s r lo hi st).2.wrong < 0 → ∃ ls, (tree s r lo hi st).2.leaves = st.leaves ++ ls ∧ Cov lo hi ls
  | r, lo, hi, st, h, hw => by
    by_cases hl : leafB (byteAt s st.place) = true
    · rw [tree_leaf hl]; exact ⟨_, rfl, Cov.leaf _ _ _⟩
    have hl' : leafB (byteAt s st.place) = false := by simpa using hl
    cases r with
    | zero => rw [tree_deep hl'] at h; cases h
    | succ r =>
      by_cases h2 : planeB (byteAt s st.place) = false
      · rw [tree_none hl' h2] at h; cases h
      have h2' : planeB (byteAt s st.place) = true := by simpa using h2
      by_cases h3 : hexV (byteAt s (st.place + 1)) < 0
      · rw [tree_bad1 hl' h2' h3] at h; cases h
      by_cases h4 : hexV (byteAt s (st.place + 2)) < 0
      · rw [tree_bad2 hl' h2' h3 h4] at h; cases h
      rw [tree_plane hl' h2' h3 h4] at h hw ⊢
      by_cases hx : (tree s r lo (lowHi s st hi) (st.cut s lo hi)).1 = true
      · rw [if_pos hx] at h hw ⊢
        have w1 : (tree s r lo (lowHi s st hi) (st.cut s lo hi)).2.wrong < 0 := by
          rcases Int.lt_or_le (tree s r lo (lowHi s st hi) (st.cut s lo hi)).2.wrong 0 with y | y
          · exact y
          · have := wrong_mono s r (upLo s st lo) hi _ y; omega
        have w0 : (st.cut s lo hi).wrong < 0 := by
          rcases Int.lt_or_le (st.cut s lo hi).wrong 0 with y | y
          · exact y
          · have := wrong_mono s r lo (lowHi s st hi) _ y; omega
        have hin : insideB lo hi (byteAt s st.place) (planeAt s st.place) = true := by
          cases hi' : insideB lo hi (byteAt s st.place) (planeAt s st.place)
          · exfalso
            unfold St.cut St.plane at w0
            rw [hi'] at w0
            by_cases y : st.wrong < 0
            · rw [if_pos ⟨y, rfl⟩] at w0; dsimp only at w0; omega
            · rw [if_neg (by simp [y])] at w0; dsimp only at w0; omega
          · rfl
        obtain ⟨a, ea, ca⟩ := tree_cov s r lo (lowHi s st hi) (st.cut s lo hi) hx w1
        obtain ⟨b, eb, cb⟩ := tree_cov s r (upLo s st lo) hi _ h hw
        unfold insideB at hin
        simp only [Bool.and_eq_true, decide_eq_true_eq] at hin
        refine ⟨a ++ b, ?_, Cov.split h2' hin.1 hin.2 ca cb⟩
        rw [eb, ea, List.append_assoc]
        rfl
      · rw [if_neg hx] at h
        exact absurd h hx

/-- The two ways to tell the zone of a point of the cube are one. -/
theorem zones_one {s : ByteArray} (h : (top s).1 = true) (hw : (top s).2.wrong < 0) {p : V3} (hp : InB cubeLo cubeHi p) : zP p (top s).2.leaves (-1) = zR p (top s).2.leaves (-1) := by
  obtain ⟨ls, e, hc⟩ := tree_cov s 12 cubeLo cubeHi st0 h hw
  have e' : (top s).2.leaves = ls := by
    show (tree s 12 cubeLo cubeHi st0).2.leaves = ls
    rw [e]; rfl
  have hz : ∀ l ∈ ls, -1 ≤ l.zone := fun l hm => ((top_inv s).bx l (by rw [e']; exact hm)).2.2.1
  rw [e']
  by_cases hs : ∃ l ∈ ls, holdsB2 l p = true ∧ l.zone = -1
  · rw [zP_solid hs, zR_solid hs]
  · rw [zP_open hs, zR_open hz hs, hc.own p hp]
    unfold freeB cubeHi
    simp

def cubB (p : V3) : Bool := decide (0 ≤ p.x) && decide (p.x ≤ 4096) && decide (0 ≤ p.y) && decide (p.y ≤ 4096) && decide (0 ≤ p.z) && decide (p.z ≤ 4096)

end Go.Proofs.YtonmihojfcjmjaaGreat.M

/- The program's game, as plain data: no memory in sight. -/
namespace Go.Proofs.YtonmihojfcjmjaaGreat.M

def V3.zero : V3 := ⟨0, 0, 0⟩
def Cmd.nought : Cmd := ⟨0, false, V3.zero, V3.zero, 0⟩
def Rec.zero : Rec := ⟨0, V3.zero⟩

/-- A slot, as the program keeps it. -/
structure PSeat where
  taken : Bool
  gen : Int
  last : Int
  q : Nat → Cmd
  waiting : Int
  home : V3
  place : V3
  health : Int
  ammo : Int
  ready : Int
  back : Int
  track : Nat → Rec
  count : Int

/-- A game. -/
structure PGame where
  tick : Int
  seat : Nat → PSeat

def PSeat.empty (gen : Int) : PSeat := ⟨false, gen, 0, fun _ => Cmd.nought, 0, V3.zero, V3.zero, 0, 0, 0, 0, fun _ => Rec.zero, 0⟩
/-- A new player. -/
def PSeat.enter (s : PSeat) (p : V3) : PSeat := { s with gen := (s.gen + 1) % 256, home := p, place := p, health := 100, ammo := 6, ready := 0, back := 0, track := fun _ => Rec.zero, count := 0 }
/-- The seat is given. -/
def PSeat.give (s : PSeat) (p : V3) : PSeat := ({ s with taken := true } : PSeat).enter p
def PGame.put (g : PGame) (i : Nat) (s : PSeat) : PGame := { g with seat := fun j => if j = i then s else g.seat j }
theorem PGame.put_at (g : PGame) (i : Nat) (s : PSeat) : (g.put i s).seat i = s := by simp [PGame.put]
theorem PGame.put_ne (g : PGame) {i j : Nat} (s : PSeat) (h : j ≠ i) : (g.put i s).seat j = g.seat j := by simp [PGame.put, h]
def PGame.fresh : PGame := ⟨0, fun _ => PSeat.empty 0⟩

/-- Has the slot a client? -/
def PGame.takenB (g : PGame) (slot : Int) : Bool := decide (0 ≤ slot) && decide (slot < 8) && (g.seat slot.toNat).taken
/-- The lowest free slot, from i on. -/
def PGame.freeFrom (g : PGame) : Nat → Nat → Option Nat
  | 0, _ => Option.none
  | n + 1, i => if (g.seat i).taken = false then some i else g.freeFrom n (i + 1)
def PGame.free (g : PGame) : Option Nat := g.freeFrom 8 0

/-- Connect: the answer, the error, the game behind it. -/
def PGame.connect (g : PGame) (can : Bool) (p : V3) : Int × Int × PGame :=
  if can = false then (0, 5, g)
  else match g.free with
    | some i => ((i : Int), 0, g.put i ((g.seat i).give p))
    | Option.none => (0, 6, g)

/-- Do two zones see each other? -/
def seesP (ps : Nat → Bool) (a b : Int) : Bool := decide (0 ≤ a) && decide (a < 8) && decide (0 ≤ b) && decide (b < 8) && (decide (a = b) || ps (8 * a.toNat + b.toNat))
def nearP (p q : V3) : Bool := decide ((p.x - q.x) * (p.x - q.x) + (p.y - q.y) * (p.y - q.y) + (p.z - q.z) * (p.z - q.z) ≤ 1048576)
/-- Is the client of own told of other? -/
def showsP (ls : List Lf) (ps : Nat → Bool) (own other : PSeat) : Bool :=
  decide (0 < other.health) && nearP own.place other.place && seesP ps (zP own.place ls (-1)) (zP other.place ls (-1))

/-- A number's two bytes. -/
def twoP (n : Int) : List UInt8 := [b8 n, b8 (n / 256)]
/-- What is told of a player. -/
def PSeat.row (s : PSeat) (j : Nat) : List UInt8 := [b8 j, b8 s.gen, b8 s.health] ++ twoP s.place.x ++ twoP s.place.y ++ twoP s.place.z
def PGame.toldB (g : PGame) (ls : List Lf) (ps : Nat → Bool) (i j : Nat) : Bool := decide (j = i) || showsP ls ps (g.seat i) (g.seat j)
def PGame.rows (g : PGame) (ls : List Lf) (ps : Nat → Bool) (i : Nat) : Nat → Nat → List UInt8
  | 0, _ => []
  | n + 1, j => (if g.toldB ls ps i j then (g.seat j).row j else []) ++ g.rows ls ps i n (j + 1)
def PGame.count (g : PGame) (ls : List Lf) (ps : Nat → Bool) (i : Nat) : Nat → Nat → Nat
  | 0, _ => 0
  | n + 1, j => (if g.toldB ls ps i j then 1 else 0) + g.count ls ps i n (j + 1)
/-- Ticks until it may shoot. -/
def PSeat.cooling (s : PSeat) (tick : Int) : Int := if s.ready ≤ tick then 0 else s.ready - tick
def PSeat.liveN (s : PSeat) : Int := if 0 < s.health then 1 else 0
def PGame.headP (g : PGame) (i : Nat) (n : Int) : List UInt8 :=
  [83] ++ twoP g.tick ++ [b8 i, b8 (g.seat i).liveN, b8 (g.seat i).health, b8 (g.seat i).ammo, b8 ((g.seat i).cooling g.tick), b8 n]
def PGame.snap (g : PGame) (ls : List Lf) (ps : Nat → Bool) (i : Nat) : List UInt8 := g.headP i (g.count ls ps i 8 0) ++ g.rows ls ps i 8 0

end Go.Proofs.YtonmihojfcjmjaaGreat.M

/- The first of several boxes; the least time is nought or a border's. No Go in sight. -/
namespace Go.Proofs.YtonmihojfcjmjaaGreat.M

/-- The least time of those that a test lets by, in lowest terms. -/
structure EntG (U : Int → Int → Prop) (i : Bool) (n e : Int) : Prop where
  yes : i = true → 0 ≤ n ∧ 1 ≤ e ∧ n ≤ e ∧ e ≤ 1048576 ∧ Int.gcd n e = 1 ∧ U n e
  least : i = true → ∀ m k, 1 ≤ k → 0 ≤ m → m ≤ k → U m k → n * k ≤ m * e
  no : i = false → n = 0 ∧ e = 0 ∧ ∀ m k, 1 ≤ k → 0 ≤ m → m ≤ k → ¬ U m k

theorem Ent.toG {p d lo hi : V3} {i : Bool} {n e : Int} (h : Ent p d lo hi i n e) : EntG (lies p d lo hi) i n e := ⟨h.yes, h.least, h.no⟩
theorem EntG.congr {U V : Int → Int → Prop} {i : Bool} {n e : Int} (h : EntG U i n e) (c : ∀ m k, U m k ↔ V m k) : EntG V i n e :=
  ⟨fun x => by obtain ⟨a, b, c1, d, f, g⟩ := h.yes x; exact ⟨a, b, c1, d, f, (c _ _).1 g⟩, fun x m k a b c1 g => h.least x m k a b c1 ((c _ _).2 g), fun x => by obtain ⟨a, b, c1⟩ := h.no x; exact ⟨a, b, fun m k q r t g => c1 m k q r t ((c _ _).2 g)⟩⟩

theorem frac_one {n e m k : Int} (a1 : 1 ≤ e) (b1 : 1 ≤ k) (a5 : Int.gcd n e = 1) (b5 : Int.gcd m k = 1) (x3 : n * k = m * e) : n = m ∧ e = k := by
  have d1 : e ∣ k := by
    have : e ∣ k * n := ⟨m, by rw [Int.mul_comm k n, x3, Int.mul_comm]⟩
    exact dvd_of_coprime this (by rw [Int.gcd_comm]; exact a5)
  have d2 : k ∣ e := by
    have : k ∣ e * m := ⟨n, by rw [Int.mul_comm e m, ← x3, Int.mul_comm]⟩
    exact dvd_of_coprime this (by rw [Int.gcd_comm]; exact b5)
  have e1 : e = k := Int.le_antisymm (Int.le_of_dvd (by omega) d1) (Int.le_of_dvd (by omega) d2)
  subst e1
  exact ⟨Int.eq_of_mul_eq_mul_right (by omega) x3, rfl⟩

theorem EntG.one {U : Int → Int → Prop} {i j : Bool} {n e m k : Int} (h : EntG U i n e) (g : EntG U j m k) : i = j ∧ n = m ∧ e = k := by
  cases i <;> cases j
  · obtain ⟨a, b, _⟩ := h.no rfl
    obtain ⟨c, d, _⟩ := g.no rfl
    exact ⟨rfl, by omega, by omega⟩
  · obtain ⟨_, _, x⟩ := h.no rfl
    obtain ⟨a, b, c, _, _, l⟩ := g.yes rfl
    exact absurd l (x _ _ b a c)
  · obtain ⟨_, _, x⟩ := g.no rfl
    obtain ⟨a, b, c, _, _, l⟩ := h.yes rfl
    exact absurd l (x _ _ b a c)
  · obtain ⟨a1, a2, a3, _, a5, a6⟩ := h.yes rfl
    obtain ⟨b1, b2, b3, _, b5, b6⟩ := g.yes rfl
    have x1 := h.least rfl m k b2 b1 b3 b6
    have x2 := g.least rfl n e a2 a1 a3 a6
    exact ⟨rfl, frac_one a2 b2 a5 b5 (by omega)⟩

theorem EntG.none {U V : Int → Int → Prop} {f : Bool} {n e a b : Int} (h : EntG U f n e) (g : EntG V false a b) : EntG (fun m k => U m k ∨ V m k) f n e := by
  obtain ⟨_, _, gn⟩ := g.no rfl
  refine ⟨fun x => ?_, fun x m k q r t u => ?_, fun x => ?_⟩
  · obtain ⟨c1, c2, c3, c4, c5, c6⟩ := h.yes x; exact ⟨c1, c2, c3, c4, c5, .inl c6⟩
  · rcases u with u | u
    · exact h.least x m k q r t u
    · exact absurd u (gn m k q r t)
  · obtain ⟨c1, c2, c3⟩ := h.no x
    exact ⟨c1, c2, fun m k q r t u => by rcases u with u | u; exact c3 m k q r t u; exact gn m k q r t u⟩
theorem EntG.new {U V : Int → Int → Prop} {n e a b : Int} (h : EntG U false n e) (g : EntG V true a b) : EntG (fun m k => U m k ∨ V m k) true a b := by
  obtain ⟨_, _, gn⟩ := h.no rfl
  refine ⟨fun x => ?_, fun x m k q r t u => ?_, fun x => by cases x⟩
  · obtain ⟨c1, c2, c3, c4, c5, c6⟩ := g.yes rfl; exact ⟨c1, c2, c3, c4, c5, .inr c6⟩
  · rcases u with u | u
    · exact absurd u (gn m k q r t)
    · exact g.least rfl m k q r t u
theorem EntG.less {U V : Int → Int → Prop} {n e a b : Int} (h : EntG U true n e) (g : EntG V true a b) (hx : a * e < n * b) : EntG (fun m k => U m k ∨ V m k) true a b := by
  obtain ⟨c1, c2, c3, c4, c5, c6⟩ := h.yes rfl
  obtain ⟨d1, d2, d3, d4, d5, d6⟩ := g.yes rfl
  refine ⟨fun x => ⟨d1, d2, d3, d4, d5, .inr d6⟩, fun x m k q r t u => ?_, fun x => by cases x⟩
  rcases u with u | u
  · exact later d2 c2 q hx (h.least rfl m k q r t u)
  · exact g.least rfl m k q r t u
theorem EntG.more {U V : Int → Int → Prop} {n e a b : Int} (h : EntG U true n e) (g : EntG V true a b) (hx : ¬ a * e < n * b) : EntG (fun m k => U m k ∨ V m k) true n e := by
  obtain ⟨c1, c2, c3, c4, c5, c6⟩ := h.yes rfl
  obtain ⟨d1, d2, d3, d4, d5, d6⟩ := g.yes rfl
  refine ⟨fun x => ⟨c1, c2, c3, c4, c5, .inl c6⟩, fun x m k q r t u => ?_, fun x => by cases x⟩
  rcases u with u | u
  · exact h.least rfl m k q r t u
  · exact later' d2 c2 q (by omega) (g.least rfl m k q r t u)

/-- What is solid at a time: in one of the first leaves. -/
def US (p d : V3) (ls : List Lf) (m k : Int) : Prop := ∃ l ∈ ls, l.zone = -1 ∧ lies p d l.lo l.hi m k
theorem US_nil {p d : V3} : EntG (US p d []) false 0 0 := ⟨(fun x => by cases x), (fun x => by cases x), fun _ => ⟨rfl, rfl, fun m k _ _ _ ⟨l, hm, _⟩ => by cases hm⟩⟩
theorem US_solid {p d : V3} {ls : List Lf} {l : Lf} (hz : l.zone = -1) (m k : Int) : (US p d ls m k ∨ lies p d l.lo l.hi m k) ↔ US p d (ls ++ [l]) m k := by
  unfold US
  constructor
  · rintro (⟨x, hm, q⟩ | q)
    · exact ⟨x, List.mem_append.2 (.inl hm), q⟩
    · exact ⟨l, List.mem_append.2 (.inr (by simp)), hz, q⟩
  · rintro ⟨x, hm, q⟩
    rcases List.mem_append.1 hm with hm | hm
    · exact .inl ⟨x, hm, q⟩
    · rw [List.mem_singleton.1 hm] at q; exact .inr q.2
theorem US_open {p d : V3} {ls : List Lf} {l : Lf} (hz : l.zone ≠ -1) (m k : Int) : US p d ls m k ↔ US p d (ls ++ [l]) m k := by
  unfold US
  constructor
  · rintro ⟨x, hm, q⟩; exact ⟨x, List.mem_append.2 (.inl hm), q⟩
  · rintro ⟨x, hm, q⟩
    rcases List.mem_append.1 hm with hm | hm
    · exact ⟨x, hm, q⟩
    · rw [List.mem_singleton.1 hm] at q; exact absurd q.1 hz

/-! ### There is a least time -/
theorem nar_exists {S : Int → Int → Prop} {a b c e p d lo hi : Int} (h : Sp S a b c e) (hs : a * e ≤ c * b) (p1 : -1048576 ≤ p) (p2 : p ≤ 1048576) (d1 : -1048576 ≤ d) (d2 : d ≤ 1048576) (l1 : -1048576 ≤ lo) (l2 : lo ≤ 1048576) (h1 : -1048576 ≤ hi) (h2 : hi ≤ 1048576) :
    ∃ a' b' c' e' s, Nar S (on1 p d lo hi) a' b' c' e' s := by
  by_cases h0 : d = 0
  · subst h0; exact ⟨_, _, _, _, _, Nar.still h hs⟩
  by_cases hd : d < 0
  · by_cases t1 : a * (-d) < (p - hi) * b
    · by_cases t2 : (p - lo) * e < c * (-d)
      · exact ⟨_, _, _, _, _, Nar.of ((h.first (by omega) (by omega) (by omega) t1).last (by omega) (by omega) (by omega) (by omega) t2) (fun m k => by rw [on1_down]; exact and_assoc)⟩
      · exact ⟨_, _, _, _, _, Nar.of ((h.first (by omega) (by omega) (by omega) t1).last' (by omega) t2) (fun m k => by rw [on1_down]; exact and_assoc)⟩
    · by_cases t2 : (p - lo) * e < c * (-d)
      · exact ⟨_, _, _, _, _, Nar.of ((h.first' (by omega) t1).last (by omega) (by omega) (by omega) (by omega) t2) (fun m k => by rw [on1_down]; exact and_assoc)⟩
      · exact ⟨_, _, _, _, _, Nar.of ((h.first' (by omega) t1).last' (by omega) t2) (fun m k => by rw [on1_down]; exact and_assoc)⟩
  · by_cases t1 : a * d < (lo - p) * b
    · by_cases t2 : (hi - p) * e < c * d
      · exact ⟨_, _, _, _, _, Nar.of ((h.first (by omega) (by omega) (by omega) t1).last (by omega) (by omega) (by omega) (by omega) t2) (fun m k => by rw [on1_up]; exact and_assoc)⟩
      · exact ⟨_, _, _, _, _, Nar.of ((h.first (by omega) (by omega) (by omega) t1).last' (by omega) t2) (fun m k => by rw [on1_up]; exact and_assoc)⟩
    · by_cases t2 : (hi - p) * e < c * d
      · exact ⟨_, _, _, _, _, Nar.of ((h.first' (by omega) t1).last (by omega) (by omega) (by omega) (by omega) t2) (fun m k => by rw [on1_up]; exact and_assoc)⟩
      · exact ⟨_, _, _, _, _, Nar.of ((h.first' (by omega) t1).last' (by omega) t2) (fun m k => by rw [on1_up]; exact and_assoc)⟩

theorem ent_exists {p d lo hi : V3} (hp : p.Near) (hd : d.Near) (hl : lo.Near) (hh : hi.Near) : ∃ i n e, Ent p d lo hi i n e := by
  obtain ⟨a, b, c, e, s, h1⟩ := nar_exists (p := p.x) (d := d.x) (lo := lo.x) (hi := hi.x) whole (by omega) hp.x1 hp.x2 hd.x1 hd.x2 hl.x1 hl.x2 hh.x1 hh.x2
  cases s
  · exact ⟨_, _, _, Ent.mk_no fun m k q r t x => h1.no rfl m k q r t ⟨trivial, x.1⟩⟩
  obtain ⟨s1, q1⟩ := h1.yes rfl
  obtain ⟨a2, b2, c2, e2, s, h2⟩ := nar_exists (p := p.y) (d := d.y) (lo := lo.y) (hi := hi.y) s1 q1 hp.y1 hp.y2 hd.y1 hd.y2 hl.y1 hl.y2 hh.y1 hh.y2
  cases s
  · exact ⟨_, _, _, Ent.mk_no fun m k q r t x => h2.no rfl m k q r t ⟨⟨trivial, x.1⟩, x.2.1⟩⟩
  obtain ⟨s2, q2⟩ := h2.yes rfl
  obtain ⟨a3, b3, c3, e3, s, h3⟩ := nar_exists (p := p.z) (d := d.z) (lo := lo.z) (hi := hi.z) s2 q2 hp.z1 hp.z2 hd.z1 hd.z2 hl.z1 hl.z2 hh.z1 hh.z2
  cases s
  · exact ⟨_, _, _, Ent.mk_no fun m k q r t x => h3.no rfl m k q r t ⟨⟨⟨trivial, x.1⟩, x.2.1⟩, x.2.2⟩⟩
  obtain ⟨s3, q3⟩ := h3.yes rfl
  exact ⟨_, _, _, Ent.mk_yes s3 (fun m k => by unfold lies; exact ⟨fun x => ⟨x.1.1.2, x.1.2, x.2⟩, fun x => ⟨⟨⟨trivial, x.1⟩, x.2.1⟩, x.2.2⟩⟩) q3 rfl rfl⟩

/-- If no border is met, a little earlier will do. -/
theorem early1 {p d lo hi n e : Int} (d1 : -1048576 ≤ d) (d2 : d ≤ 1048576) (h : on1 p d lo hi n e) (hlo : 0 < d → lo * e ≠ p * e + d * n) (hhi : d < 0 → hi * e ≠ p * e + d * n) : on1 p d lo hi (n * 2097152 - 1) (e * 2097152) := by
  obtain ⟨x, y⟩ := h
  have e1 : lo * (e * 2097152) = lo * e * 2097152 := by rw [Int.mul_assoc]
  have e2 : hi * (e * 2097152) = hi * e * 2097152 := by rw [Int.mul_assoc]
  have e3 : p * (e * 2097152) + d * (n * 2097152 - 1) = (p * e + d * n) * 2097152 - d := by rw [Int.mul_sub, Int.mul_one, ← Int.mul_assoc, ← Int.mul_assoc, Int.add_mul]; omega
  unfold on1
  rw [e1, e2, e3]
  generalize p * e + d * n = X at *
  generalize lo * e = Y at *
  generalize hi * e = Z at *
  constructor
  · by_cases c : 0 < d
    · have := hlo c; omega
    · omega
  · by_cases c : d < 0
    · have := hhi c; omega
    · omega

theorem border {p d lo hi : V3} {n e : Int} (hd : d.Near) (hn : 1 ≤ n) (he : 1 ≤ e) (hne : n ≤ e) (hl : lies p d lo hi n e) (least : ∀ m k, 1 ≤ k → 0 ≤ m → m ≤ k → lies p d lo hi m k → n * k ≤ m * e) :
    (0 < d.x ∧ lo.x * e = p.x * e + d.x * n) ∨ (d.x < 0 ∧ hi.x * e = p.x * e + d.x * n) ∨ (0 < d.y ∧ lo.y * e = p.y * e + d.y * n) ∨ (d.y < 0 ∧ hi.y * e = p.y * e + d.y * n) ∨ (0 < d.z ∧ lo.z * e = p.z * e + d.z * n) ∨ (d.z < 0 ∧ hi.z * e = p.z * e + d.z * n) := by
  apply Classical.byContradiction
  intro hc
  simp only [not_or, not_and] at hc
  obtain ⟨c1, c2, c3, c4, c5, c6⟩ := hc
  have q : lies p d lo hi (n * 2097152 - 1) (e * 2097152) := ⟨early1 hd.x1 hd.x2 hl.1 c1 c2, early1 hd.y1 hd.y2 hl.2.1 c3 c4, early1 hd.z1 hd.z2 hl.2.2 c5 c6⟩
  have r := least _ _ (by omega) (by omega) (by omega) q
  rw [Int.sub_mul, Int.one_mul, ← Int.mul_assoc, Int.mul_right_comm n 2097152 e] at r
  omega

/-! ### The six candidates -/
def cS (lo hi : V3) (k : Nat) : Int := if k % 2 = 1 then getAx hi ((k : Int) / 2 + 120) else getAx lo ((k : Int) / 2 + 120)
def cP (p : V3) (k : Nat) : Int := getAx p ((k : Int) / 2 + 120)
def cA (p d lo hi : V3) (k : Nat) : Int := if cP d k < 0 then -(cS lo hi k - cP p k) else cS lo hi k - cP p k
def cB (d : V3) (k : Nat) : Int := if cP d k < 0 then -(cP d k) else cP d k
def cOk (p d lo hi : V3) (k : Nat) : Prop := cB d k ≠ 0 ∧ 0 ≤ cA p d lo hi k ∧ cA p d lo hi k ≤ cB d k

/-- The least of the first candidates. -/
structure CI (p d lo hi : V3) (j : Nat) (f : Bool) (n e : Int) : Prop where
  yes : f = true → 0 ≤ n ∧ 1 ≤ e ∧ n ≤ e ∧ e ≤ 1048576 ∧ lies p d lo hi n e
  min : f = true → ∀ k, k < j → cOk p d lo hi k → lies p d lo hi (cA p d lo hi k) (cB d k) → n * cB d k ≤ cA p d lo hi k * e
  no : f = false → n = 0 ∧ e = 0 ∧ ∀ k, k < j → cOk p d lo hi k → ¬ lies p d lo hi (cA p d lo hi k) (cB d k)

/-- A candidate whose time is the least one. -/
theorem cand {p d lo hi : V3} {n e : Int} (hd : d.Near) (hn : 1 ≤ n) (he : 1 ≤ e) (hne : n ≤ e) (hl : lies p d lo hi n e) (least : ∀ m k, 1 ≤ k → 0 ≤ m → m ≤ k → lies p d lo hi m k → n * k ≤ m * e) :
    ∃ k, k < 6 ∧ 1 ≤ cB d k ∧ cA p d lo hi k * e = n * cB d k := by
  have up : ∀ {x y : Int} {dd : Int}, y * e = x * e + dd * n → (y - x) * e = n * dd := fun h => by rw [Int.sub_mul, Int.mul_comm n]; omega
  have dn : ∀ {x y : Int} {dd : Int}, y * e = x * e + dd * n → -(y - x) * e = n * -dd := fun h => by rw [Int.neg_mul, Int.sub_mul, Int.mul_neg, Int.mul_comm n]; omega
  rcases border hd hn he hne hl least with ⟨c, h⟩ | ⟨c, h⟩ | ⟨c, h⟩ | ⟨c, h⟩ | ⟨c, h⟩ | ⟨c, h⟩
  · refine ⟨0, by omega, ?_⟩
    have z : ¬ cP d 0 < 0 := by show ¬ d.x < 0; omega
    unfold cA cB; rw [if_neg z, if_neg z]; exact ⟨by show 1 ≤ d.x; omega, up h⟩
  · refine ⟨1, by omega, ?_⟩
    have z : cP d 1 < 0 := by show d.x < 0; omega
    unfold cA cB; rw [if_pos z, if_pos z]; exact ⟨by show 1 ≤ -d.x; omega, dn h⟩
  · refine ⟨2, by omega, ?_⟩
    have z : ¬ cP d 2 < 0 := by show ¬ d.y < 0; omega
    unfold cA cB; rw [if_neg z, if_neg z]; exact ⟨by show 1 ≤ d.y; omega, up h⟩
  · refine ⟨3, by omega, ?_⟩
    have z : cP d 3 < 0 := by show d.y < 0; omega
    unfold cA cB; rw [if_pos z, if_pos z]; exact ⟨by show 1 ≤ -d.y; omega, dn h⟩
  · refine ⟨4, by omega, ?_⟩
    have z : ¬ cP d 4 < 0 := by show ¬ d.z < 0; omega
    unfold cA cB; rw [if_neg z, if_neg z]; exact ⟨by show 1 ≤ d.z; omega, up h⟩
  · refine ⟨5, by omega, ?_⟩
    have z : cP d 5 < 0 := by show d.z < 0; omega
    unfold cA cB; rw [if_pos z, if_pos z]; exact ⟨by show 1 ≤ -d.z; omega, dn h⟩

theorem cand_ok {p d lo hi : V3} {n e : Int} {k : Nat} (hn : 1 ≤ n) (he : 1 ≤ e) (hne : n ≤ e) (hl : lies p d lo hi n e) (hb : 1 ≤ cB d k) (hx : cA p d lo hi k * e = n * cB d k) : cOk p d lo hi k ∧ lies p d lo hi (cA p d lo hi k) (cB d k) := by
  have h1 : 0 ≤ n * cB d k := Int.mul_nonneg (by omega) (by omega)
  have h2 : n * cB d k ≤ e * cB d k := Int.mul_le_mul_of_nonneg_right hne (by omega)
  refine ⟨⟨by omega, ?_, ?_⟩, ?_⟩
  · have : 0 * e ≤ cA p d lo hi k * e := by omega
    exact Int.le_of_mul_le_mul_right this (by omega)
  · have : cA p d lo hi k * e ≤ cB d k * e := by rw [Int.mul_comm (cB d k) e]; omega
    exact Int.le_of_mul_le_mul_right this (by omega)
  · have h3 := (lies_scale (p := p) (d := d) (lo := lo) (hi := hi) (n := n) (e := e) hb).2 hl
    rw [← hx, Int.mul_comm e (cB d k)] at h3
    exact (lies_scale he).1 h3

/-- The end of the document's enter. -/
theorem CI.fin {p d lo hi : V3} {f : Bool} {n e : Int} (hp : p.Near) (hd : d.Near) (hlo : lo.Near) (hhi : hi.Near) (h : CI p d lo hi 6 f n e) (h0 : ¬ lies p d lo hi 0 1) :
    (f = false ∧ Ent p d lo hi false 0 0) ∨ (f = true ∧ Ent p d lo hi true (n / Int.gcd n e) (e / Int.gcd n e)) := by
  obtain ⟨i, a, b, hE⟩ := ent_exists hp hd hlo hhi
  cases i
  · obtain ⟨rfl, rfl, hno⟩ := hE.no rfl
    cases f
    · exact .inl ⟨rfl, hE⟩
    · obtain ⟨c1, c2, c3, c4, c5⟩ := h.yes rfl
      exact absurd c5 (hno n e c2 c1 c3)
  · obtain ⟨a1, a2, a3, a4, a5, a6⟩ := hE.yes rfl
    have hn : 1 ≤ a := by
      rcases Int.lt_or_le a 1 with x | x
      · exfalso
        obtain rfl : a = 0 := by omega
        have : b = 1 := by
          have := a5
          rw [Int.gcd_zero_left] at this
          omega
        subst this
        exact h0 a6
      · exact x
    obtain ⟨k, hk, hb, hx⟩ := cand hd hn a2 a3 a6 (hE.least rfl)
    obtain ⟨ho, hlk⟩ := cand_ok hn a2 a3 a6 hb hx
    cases f
    · exact absurd hlk ((h.no rfl).2.2 k hk ho)
    · right
      refine ⟨rfl, ?_⟩
      obtain ⟨c1, c2, c3, c4, c5⟩ := h.yes rfl
      have m1 := h.min rfl k hk ho hlk
      have m2 := hE.least rfl n e c2 c1 c3 c5
      have m3 : n * b ≤ a * e := by
        have y1 : n * cB d k * b ≤ cA p d lo hi k * e * b := Int.mul_le_mul_of_nonneg_right m1 (by omega)
        have y2 : (n * b) * cB d k ≤ (a * e) * cB d k := by
          rw [Int.mul_right_comm n b, Int.mul_right_comm a e, ← hx, Int.mul_right_comm _ b e]
          exact y1
        exact Int.le_of_mul_le_mul_right y2 (by omega)
      obtain ⟨g, hg, hg1, x, y, e1, e2, e3, e4, e5, e6, e7⟩ := div_pos c1 c2
      rw [← hg, e3, e4]
      have m4 : x * b = a * y := by
        have z : n * b = a * e := by omega
        rw [e1, e2, Int.mul_right_comm, ← Int.mul_assoc] at z
        exact Int.eq_of_mul_eq_mul_right (by omega) z
      obtain ⟨rfl, rfl⟩ := frac_one e7 a2 e5 a5 m4
      exact hE

end Go.Proofs.YtonmihojfcjmjaaGreat.M

/- Shots, death and return, as plain data: the program's game behind a tick. -/
namespace Go.Proofs.YtonmihojfcjmjaaGreat.M

open Classical in
/-- The least time of a set, in lowest terms, if there is one. -/
noncomputable def entO (U : Int → Int → Prop) : Option (Int × Int) := if h : ∃ q : Int × Int, EntG U true q.1 q.2 then some (Classical.choose h) else Option.none
theorem entO_is {U : Int → Int → Prop} {f : Bool} {n k : Int} (h : EntG U f n k) : entO U = if f = true then some (n, k) else Option.none := by
  unfold entO
  cases f
  · rw [dif_neg]
    · rfl
    · rintro ⟨q, h2⟩
      have := (h.one h2).1
      cases this
  · rw [dif_pos ⟨(n, k), h⟩, if_pos rfl]
    have e := Classical.choose_spec (⟨(n, k), h⟩ : ∃ q : Int × Int, EntG U true q.1 q.2)
    have := (h.one e).2
    exact congrArg some (Prod.ext this.1.symm this.2.symm)

/-- A hit: its time, and what it costs. -/
abbrev Hit := Option (Int × Int × Int)
def Hit.ahead : Hit → Hit → Bool
  | some (a, b, _), some (n, e, _) => decide (a * e < n * b)
  | some _, Option.none => true
  | Option.none, _ => false
noncomputable def boxHit (p d lo hi : V3) (dmg : Int) : Hit := (entO (lies p d lo hi)).map (fun q => (q.1, q.2, dmg))
def bodyLo (q : V3) : V3 := ⟨q.x - 8, q.y - 8, q.z - 16⟩
def bodyHi (q : V3) : V3 := ⟨q.x + 8, q.y + 8, q.z + 8⟩
def headLo (q : V3) : V3 := ⟨q.x - 4, q.y - 4, q.z + 8⟩
def headHi (q : V3) : V3 := ⟨q.x + 4, q.y + 4, q.z + 16⟩
/-- The hit at a player that stood at q. -/
noncomputable def hitAt (p d q : V3) : Hit := if Hit.ahead (boxHit p d (bodyLo q) (bodyHi q) 25) (boxHit p d (headLo q) (headHi q) 60) = true then boxHit p d (bodyLo q) (bodyHi q) 25 else boxHit p d (headLo q) (headHi q) 60

/-- What a track tells. -/
def PSeat.recs (s : PSeat) : List Rec := (List.range s.count.toNat).map s.track
def PSeat.poseAt (s : PSeat) (t : Int) : V3 := pose t s.recs
/-- One more slot is looked at. -/
noncomputable def PGame.look (g : PGame) (sh : Nat) (p d : V3) (t : Int) (i : Nat) (a : Nat × Hit) : Nat × Hit :=
  if i = sh ∨ ¬ 0 < (g.seat i).health then a
  else if Hit.ahead (hitAt p d ((g.seat i).poseAt t)) a.2 = true then (i, hitAt p d ((g.seat i).poseAt t)) else a
noncomputable def PGame.firstTo (g : PGame) (sh : Nat) (p d : V3) (t : Int) : Nat → Nat × Hit
  | 0 => (0, Option.none)
  | n + 1 => g.look sh p d t n (g.firstTo sh p d t n)
theorem boxHit_dmg {p d lo hi : V3} {D a k x : Int} (h : boxHit p d lo hi D = some (a, k, x)) : x = D := by
  unfold boxHit at h
  cases e : entO (lies p d lo hi) with
  | none => rw [e] at h; cases h
  | some q => rw [e] at h; cases h; rfl
theorem hitAt_dmg {p d q : V3} {a k x : Int} (h : hitAt p d q = some (a, k, x)) : x = 25 ∨ x = 60 := by
  unfold hitAt at h
  split at h
  · exact .inl (boxHit_dmg h)
  · exact .inr (boxHit_dmg h)
/-- The one that is found: a live one, not the shooter. -/
theorem firstTo_is (g : PGame) (sh : Nat) (p d : V3) (t : Int) : ∀ (n : Nat), (g.firstTo sh p d t n).2 = Option.none ∨ ∃ i, (g.firstTo sh p d t n).1 = i ∧ i < n ∧ i ≠ sh ∧ 0 < (g.seat i).health ∧ (g.firstTo sh p d t n).2 = hitAt p d ((g.seat i).poseAt t)
  | 0 => .inl rfl
  | n + 1 => by
    have ih := firstTo_is g sh p d t n
    have keep : (g.firstTo sh p d t (n + 1)) = (g.firstTo sh p d t n) → ((g.firstTo sh p d t (n + 1)).2 = Option.none ∨ ∃ i, (g.firstTo sh p d t (n + 1)).1 = i ∧ i < n + 1 ∧ i ≠ sh ∧ 0 < (g.seat i).health ∧ (g.firstTo sh p d t (n + 1)).2 = hitAt p d ((g.seat i).poseAt t)) := fun e => by
      rw [e]
      rcases ih with h | ⟨i, h1, h2, h3⟩
      · exact .inl h
      · exact .inr ⟨i, h1, by omega, h3⟩
    by_cases e1 : n = sh ∨ ¬ 0 < (g.seat n).health
    · exact keep (by show g.look sh p d t n _ = _; unfold PGame.look; rw [if_pos e1])
    · by_cases e2 : Hit.ahead (hitAt p d ((g.seat n).poseAt t)) (g.firstTo sh p d t n).2 = true
      · have e : g.firstTo sh p d t (n + 1) = (n, hitAt p d ((g.seat n).poseAt t)) := by show g.look sh p d t n _ = _; unfold PGame.look; rw [if_neg e1, if_pos e2]
        rw [e]
        refine .inr ⟨n, rfl, by omega, ?_, ?_, rfl⟩
        · intro e; exact e1 (.inl e)
        · by_cases e : 0 < (g.seat n).health
          · exact e
          · exact absurd (.inr e) e1
      · exact keep (by show g.look sh p d t n _ = _; unfold PGame.look; rw [if_neg e1, if_neg e2])
theorem firstTo_dmg {g : PGame} {sh : Nat} {p d : V3} {t : Int} {n : Nat} {a k x : Int} (h : (g.firstTo sh p d t n).2 = some (a, k, x)) : x = 25 ∨ x = 60 := by
  rcases firstTo_is g sh p d t n with e | ⟨i, _, _, _, _, e⟩
  · rw [e] at h; cases h
  · rw [e] at h; exact hitAt_dmg h
/-- Is nothing solid ahead of the time a / k? -/
def reachB (o : Option (Int × Int)) (a k : Int) : Bool := match o with
  | Option.none => true
  | some (n, e) => !decide (n * k < a * e)

def PSeat.hurt (s : PSeat) (dmg tick : Int) : PSeat := if dmg < s.health then { s with health := s.health - dmg } else { s with health := 0, back := tick + 8 }
def wayP (a : V3) : V3 := ⟨16 * a.x, 16 * a.y, 16 * a.z⟩
def timeP (tick t : Int) : Int := if t < 256 * (tick - 16) then 256 * (tick - 16) else if 256 * tick < t then 256 * tick else t
def PSeat.spent (s : PSeat) (tick : Int) : PSeat := { s with ammo := s.ammo - 1, ready := tick + 3 }
def PGame.canShoot (g : PGame) (i : Nat) : Bool := decide (0 < (g.seat i).health) && !decide ((g.seat i).ammo = 0) && decide ((g.seat i).ready ≤ g.tick)
/-- What a shot does to the one that is struck. -/
noncomputable def PGame.strike (g : PGame) (ls : List Lf) (p d : V3) (v : Nat × Hit) : PGame := match v.2 with
  | Option.none => g
  | some (a, k, dmg) => if reachB (entO (US p d ls)) a k = true then g.put v.1 ((g.seat v.1).hurt dmg g.tick) else g
noncomputable def PGame.shoot (g : PGame) (ls : List Lf) (i : Nat) (c : Cmd) : PGame :=
  if g.canShoot i = true then (g.put i ((g.seat i).spent g.tick)).strike ls (g.seat i).place (wayP c.aim) ((g.put i ((g.seat i).spent g.tick)).firstTo i (g.seat i).place (wayP c.aim) (timeP g.tick c.time) 8)
  else g

end Go.Proofs.YtonmihojfcjmjaaGreat.M

/- What holds of every game that the calls leave: the words. -/
namespace Go.Proofs.YtonmihojfcjmjaaGreat.M

/-- A command as it may wait. -/
structure CmdOk (c : Cmd) : Prop where
  aim : Small c.aim
  t0 : 0 ≤ c.time
  t1 : c.time ≤ 16777215
theorem CmdOk.nought : CmdOk Cmd.nought := ⟨⟨by decide, by decide, by decide, by decide, by decide, by decide⟩, by decide, by decide⟩

structure PSeat.Ok (s : PSeat) : Prop where
  g0 : 0 ≤ s.gen
  g1 : s.gen ≤ 255
  w0 : 0 ≤ s.waiting
  w1 : s.waiting ≤ 4
  q : ∀ j, CmdOk (s.q j)
  home : InB cubeLo cubeHi s.home
  place : InB cubeLo cubeHi s.place
  h0 : 0 ≤ s.health
  h1 : s.health ≤ 100
  a0 : 0 ≤ s.ammo
  a1 : s.ammo ≤ 6
  r0 : 0 ≤ s.ready
  r1 : s.ready ≤ 3003
  b0 : 0 ≤ s.back
  b1 : s.back ≤ 3008
  n0 : 0 ≤ s.count
  n1 : s.count ≤ 17
  tr : ∀ i : Nat, (i : Int) < s.count → M.Ok (s.track i)
  free : s.taken = false → s.health = 0

structure PGame.Ok (g : PGame) : Prop where
  t0 : 0 ≤ g.tick
  t1 : g.tick ≤ 3000
  s : ∀ i, (g.seat i).Ok
  r : ∀ i, (g.seat i).ready ≤ g.tick + 3

end Go.Proofs.YtonmihojfcjmjaaGreat.M

/- The map of two zones: its meaning. No Go in sight. -/
namespace Go.Proofs.YtonmihojfcjmjaaGreat.M
set_option linter.unusedVariables false

def seS (b1 b2 : UInt8) : ByteArray := ⟨#[120, b1, b2, 51, 48]⟩
def seT (b1 b2 : UInt8) : ByteArray := ⟨#[120, b1, b2, 51, 48, 59, 48, 51]⟩
def seL (x : Int) : List Lf := [⟨⟨0, 0, 0⟩, ⟨16 * x, 4096, 4096⟩, 3⟩, ⟨⟨16 * x, 0, 0⟩, ⟨4096, 4096, 4096⟩, 0⟩]

theorem se_tree {s : ByteArray} {b1 b2 : UInt8} {x : Int} (e0 : byteAt s 0 = 120) (e1 : byteAt s 1 = (b1.toNat : Int)) (e2 : byteAt s 2 = (b2.toNat : Int)) (e3 : byteAt s 3 = 51) (e4 : byteAt s 4 = 48)
    (x1 : 1 ≤ x) (x2 : x ≤ 255) (h1 : hexV (b1.toNat : Int) = x / 16) (h2 : hexV (b2.toNat : Int) = x % 16) : top s = (true, ⟨5, 1, -1, seL x⟩) := by
  have pa : planeAt s 0 = 16 * x := by unfold planeAt; rw [show (0 + 1 : Nat) = 1 from rfl, show (0 + 2 : Nat) = 2 from rfl, e1, e2, h1, h2]; omega
  have c0 : st0.cut s cubeLo cubeHi = ⟨3, 1, -1, []⟩ := by
    unfold St.cut
    rw [show st0.place = 0 from rfl, e0, pa]
    have : insideB cubeLo cubeHi 120 (16 * x) = true := by unfold insideB getAx cubeLo cubeHi; simp; omega
    rw [this]
    rfl
  have l0 : lowHi s st0 cubeHi = ⟨16 * x, 4096, 4096⟩ := by unfold lowHi; rw [show st0.place = 0 from rfl, e0, pa]; rfl
  have u0 : upLo s st0 cubeLo = ⟨16 * x, 0, 0⟩ := by unfold upLo; rw [show st0.place = 0 from rfl, e0, pa]; rfl
  have t1 : tree s 11 cubeLo ⟨16 * x, 4096, 4096⟩ ⟨3, 1, -1, []⟩ = (true, ⟨4, 1, -1, [⟨⟨0, 0, 0⟩, ⟨16 * x, 4096, 4096⟩, 3⟩]⟩) := by
    rw [tree_leaf (by show leafB (byteAt s 3) = true; rw [e3]; rfl)]
    show (true, St.leaf ⟨3, 1, -1, []⟩ cubeLo ⟨16 * x, 4096, 4096⟩ (byteAt s 3)) = _
    rw [e3]
    rfl
  have t2 : tree s 11 ⟨16 * x, 0, 0⟩ cubeHi ⟨4, 1, -1, [⟨⟨0, 0, 0⟩, ⟨16 * x, 4096, 4096⟩, 3⟩]⟩ = (true, ⟨5, 1, -1, seL x⟩) := by
    rw [tree_leaf (by show leafB (byteAt s 4) = true; rw [e4]; rfl)]
    show (true, St.leaf _ _ _ (byteAt s 4)) = _
    rw [e4]
    rfl
  show tree s 12 cubeLo cubeHi st0 = _
  rw [tree_plane (by show leafB (byteAt s 0) = false; rw [e0]; rfl) (by show planeB (byteAt s 0) = true; rw [e0]; rfl) (by show ¬ hexV (byteAt s 1) < 0; rw [e1, h1]; omega) (by show ¬ hexV (byteAt s 2) < 0; rw [e2, h2]; omega)]
  rw [c0, l0, u0, t1]
  exact t2

theorem se_top {b1 b2 : UInt8} {x : Int} (x1 : 1 ≤ x) (x2 : x ≤ 255) (h1 : hexV (b1.toNat : Int) = x / 16) (h2 : hexV (b2.toNat : Int) = x % 16) : top (seS b1 b2) = (true, ⟨5, 1, -1, seL x⟩) :=
  se_tree (b1 := b1) (b2 := b2) rfl rfl rfl rfl rfl x1 x2 h1 h2
theorem se_top2 {b1 b2 : UInt8} {x : Int} (x1 : 1 ≤ x) (x2 : x ≤ 255) (h1 : hexV (b1.toNat : Int) = x / 16) (h2 : hexV (b2.toNat : Int) = x % 16) : top (seT b1 b2) = (true, ⟨5, 1, -1, seL x⟩) :=
  se_tree (b1 := b1) (b2 := b2) rfl rfl rfl rfl rfl x1 x2 h1 h2

theorem err_of {s : ByteArray} {p n : Nat} {ls : List Lf} (h : top s = (true, ⟨p, n, -1, ls⟩)) (hs : s.size ≤ 512) (hp : pairsF s (s.size + 1) p = none) : errS s = (0, 0) := by
  unfold errS
  rw [h, if_neg (by omega), if_neg (by simp)]
  show (match pairsF s (s.size + 1) p with | some k => ((3 : Int), (k : Int)) | none => if (0 : Int) ≤ -1 then (4, -1) else (0, 0)) = _
  rw [hp]
  rfl

theorem se_err {b1 b2 : UInt8} {x : Int} (h : top (seS b1 b2) = (true, ⟨5, 1, -1, seL x⟩)) : errS (seS b1 b2) = (0, 0) := err_of h (by show 5 ≤ 512; omega) (pairsF_end (by show 5 ≤ 5; omega))
theorem se_step (b1 b2 : UInt8) : pairStep (seT b1 b2) 5 = none := by
  unfold pairStep
  rw [show byteAt (seT b1 b2) 5 = 59 from rfl, show byteAt (seT b1 b2) (5 + 1) = 48 from rfl, show byteAt (seT b1 b2) (5 + 2) = 51 from rfl]
  decide
theorem se_err2 {b1 b2 : UInt8} {x : Int} (h : top (seT b1 b2) = (true, ⟨5, 1, -1, seL x⟩)) : errS (seT b1 b2) = (0, 0) :=
  err_of h (by show 8 ≤ 512; omega) (by rw [pairsF_good (by show 5 < 8; omega) (se_step b1 b2)]; exact pairsF_end (by show 8 ≤ 8; omega))

theorem se_prs {b1 b2 : UInt8} {x : Int} (h : top (seS b1 b2) = (true, ⟨5, 1, -1, seL x⟩)) : prs (seS b1 b2) = noPairs := by
  unfold prs
  rw [h]
  exact pairsT_end (by show 5 ≤ 5; omega)
theorem se_prs2 {b1 b2 : UInt8} {x : Int} (h : top (seT b1 b2) = (true, ⟨5, 1, -1, seL x⟩)) : prs (seT b1 b2) = pset noPairs 0 3 := by
  unfold prs
  rw [h]
  show pairsT (seT b1 b2) (8 + 1) 5 noPairs = _
  rw [pairsT_good (by show 5 < 8; omega) (se_step b1 b2), pairsT_end (by show 8 ≤ 8; omega)]
  rfl

/-- The zone of a point of the cube. -/
theorem se_zone {x : Int} {p : V3} (x1 : 1 ≤ x) (x2 : x ≤ 255) (hp : InB cubeLo cubeHi p) : zP p (seL x) (-1) = if p.x < 16 * x then 3 else 0 := by
  obtain ⟨a1, a2, a3, a4, a5, a6⟩ := hp
  simp only [cubeLo, cubeHi] at a1 a2 a3 a4 a5 a6
  unfold seL
  by_cases c1 : p.x < 16 * x
  · rw [if_pos c1, zP, if_pos (holdsB2_iff.2 ⟨a1, by dsimp only; omega, a3, a4, a5, a6⟩), if_neg (by show ¬ (3 : Int) = -1; omega), zP, if_neg (fun h => by have := (holdsB2_iff.1 h).x1; dsimp only at this; omega), zP]
  · rw [if_neg c1]
    by_cases c2 : p.x ≤ 16 * x
    · rw [zP, if_pos (holdsB2_iff.2 ⟨a1, c2, a3, a4, a5, a6⟩), if_neg (by show ¬ (3 : Int) = -1; omega), zP, if_pos (holdsB2_iff.2 ⟨by dsimp only; omega, a2, a3, a4, a5, a6⟩), if_neg (by show ¬ (0 : Int) = -1; omega), zP]
    · rw [zP, if_neg (fun h => c2 (holdsB2_iff.1 h).x2), zP, if_pos (holdsB2_iff.2 ⟨by dsimp only; omega, a2, a3, a4, a5, a6⟩), if_neg (by show ¬ (0 : Int) = -1; omega), zP]

end Go.Proofs.YtonmihojfcjmjaaGreat.M

/- A segment along x: where it enters a box. No Go in sight. -/
namespace Go.Proofs.YtonmihojfcjmjaaGreat.M

theorem mul_pos_le {a b e : Int} (he : 1 ≤ e) : a * e ≤ b * e ↔ a ≤ b := by
  constructor
  · intro h
    by_cases c : a ≤ b
    · exact c
    · have := Int.mul_lt_mul_of_pos_right (show b < a by omega) (show 0 < e by omega)
      omega
  · intro h
    exact Int.mul_le_mul_of_nonneg_right h (by omega)

/-- What the segment from p by D along x meets. -/
def xMeets (p lo hi : V3) (D : Int) : Prop := (lo.y ≤ p.y ∧ p.y ≤ hi.y) ∧ (lo.z ≤ p.z ∧ p.z ≤ hi.z) ∧ p.x ≤ hi.x ∧ lo.x ≤ p.x + D
def xWay (p lo : V3) : Int := if lo.x ≤ p.x then 0 else lo.x - p.x

theorem still1 {a lo hi m k : Int} (hk : 1 ≤ k) : on1 a 0 lo hi m k ↔ lo ≤ a ∧ a ≤ hi := by
  unfold on1
  rw [Int.zero_mul, Int.add_zero, mul_pos_le hk, mul_pos_le hk]

theorem segX {p lo hi : V3} {D n e : Int} {f : Bool} (hD : 1 ≤ D) (hb : lo.x ≤ hi.x) (h : EntG (lies p ⟨D, 0, 0⟩ lo hi) f n e) :
    (f = true ↔ xMeets p lo hi D) ∧ (f = true → n * D = xWay p lo * e) := by
  have cand : xMeets p lo hi D → 0 ≤ xWay p lo ∧ xWay p lo ≤ D ∧ lies p ⟨D, 0, 0⟩ lo hi (xWay p lo) D := fun hm => by
    obtain ⟨h1, h2, h3, h4⟩ := hm
    unfold xWay
    by_cases c : lo.x ≤ p.x
    · rw [if_pos c]
      refine ⟨by omega, by omega, ⟨?_, ?_⟩, (still1 hD).2 h1, (still1 hD).2 h2⟩
      · simp only [Int.mul_zero, Int.add_zero]; exact (mul_pos_le hD).2 c
      · simp only [Int.mul_zero, Int.add_zero]; exact (mul_pos_le hD).2 h3
    · rw [if_neg c]
      refine ⟨by omega, by omega, ⟨?_, ?_⟩, (still1 hD).2 h1, (still1 hD).2 h2⟩
      · show lo.x * D ≤ p.x * D + D * (lo.x - p.x)
        rw [Int.mul_sub, Int.mul_comm D lo.x, Int.mul_comm D p.x]; omega
      · show p.x * D + D * (lo.x - p.x) ≤ hi.x * D
        have := (mul_pos_le hD).2 hb
        rw [Int.mul_sub, Int.mul_comm D lo.x, Int.mul_comm D p.x]; omega
  have yes : f = true → xMeets p lo hi D ∧ n * D = xWay p lo * e := fun ht => by
    obtain ⟨n0, e1, ne, _, _, hx, hy, hz⟩ := h.yes ht
    obtain ⟨x1, x2⟩ := hx
    dsimp only at x1 x2
    have dn : 0 ≤ D * n := Int.mul_nonneg (by omega) n0
    have dne : D * n ≤ D * e := Int.mul_le_mul_of_nonneg_left ne (by omega)
    have hm : xMeets p lo hi D := by
      refine ⟨(still1 e1).1 hy, (still1 e1).1 hz, (mul_pos_le e1).1 (by omega), (mul_pos_le e1).1 ?_⟩
      rw [Int.add_mul]; omega
    refine ⟨hm, ?_⟩
    obtain ⟨c0, c1, c2⟩ := cand hm
    have l := h.least ht _ _ hD c0 c1 c2
    have : xWay p lo * e ≤ D * n := by
      unfold xWay
      by_cases c : lo.x ≤ p.x
      · rw [if_pos c, Int.zero_mul]; exact dn
      · rw [if_neg c, Int.sub_mul]; omega
    rw [Int.mul_comm n D] at *
    omega
  refine ⟨⟨fun ht => (yes ht).1, fun hm => ?_⟩, fun ht => (yes ht).2⟩
  cases f
  · obtain ⟨c0, c1, c2⟩ := cand hm
    exact absurd c2 ((h.no rfl).2.2 _ _ hD c0 c1)
  · rfl

/-- Two times along one segment. -/
theorem segX_lt {D a k n e A N : Int} (hD : 1 ≤ D) (hk : 1 ≤ k) (he : 1 ≤ e) (h1 : a * D = A * k) (h2 : n * D = N * e) : a * e < n * k ↔ A < N := by
  have ek : 1 ≤ e * k := by have := Int.mul_pos (show 0 < e by omega) (show 0 < k by omega); omega
  have x1 : a * e * D = A * (e * k) := by rw [Int.mul_right_comm, h1, Int.mul_right_comm, Int.mul_assoc]
  have x2 : n * k * D = N * (e * k) := by rw [Int.mul_right_comm, h2, Int.mul_assoc]
  have y : n * k ≤ a * e ↔ N ≤ A := by rw [← mul_pos_le hD, x1, x2, mul_pos_le ek]
  omega

end Go.Proofs.YtonmihojfcjmjaaGreat.M
