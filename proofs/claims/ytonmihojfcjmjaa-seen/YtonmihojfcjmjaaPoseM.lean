/- The meaning of poses. -/
import Derived.Test.YtonmihojfcjmjaaMath
namespace Go.Proofs.Ytonmihojfcjmjaa.M

/-- A record. -/
structure Rec where
  tick : Int
  pos : V3

/-- In the cube. -/
structure Cube (p : V3) : Prop where
  x1 : 0 ≤ p.x
  x2 : p.x ≤ 4096
  y1 : 0 ≤ p.y
  y2 : p.y ≤ 4096
  z1 : 0 ≤ p.z
  z2 : p.z ≤ 4096

/-- The greatest whole number that is not above the part of the way. -/
def blend (a b gone left : Int) : Int := (a * left + b * gone) / (gone + left)

theorem mul_bd {a b A B : Int} (a1 : 0 ≤ a) (a2 : a ≤ A) (b1 : 0 ≤ b) (b2 : b ≤ B) : 0 ≤ a * b ∧ a * b ≤ A * B :=
  ⟨Int.mul_nonneg a1 b1, Int.mul_le_mul a2 b2 b1 (by omega)⟩

theorem blend_bd {a b gone left : Int} (a1 : 0 ≤ a) (a2 : a ≤ 4096) (b1 : 0 ≤ b) (b2 : b ≤ 4096) (g1 : 0 ≤ gone) (l1 : 0 ≤ left) (h : 0 < gone + left) : 0 ≤ blend a b gone left ∧ blend a b gone left ≤ 4096 := by
  unfold blend
  have e1 : 0 ≤ a * left := Int.mul_nonneg a1 l1
  have e2 : 0 ≤ b * gone := Int.mul_nonneg b1 g1
  have e3 : a * left ≤ 4096 * left := Int.mul_le_mul_of_nonneg_right a2 l1
  have e4 : b * gone ≤ 4096 * gone := Int.mul_le_mul_of_nonneg_right b2 g1
  constructor
  · exact Int.ediv_nonneg (by omega) (by omega)
  · apply Int.ediv_le_of_le_mul h
    rw [Int.mul_add]
    omega

/-- Where it stood between two records. -/
def mid (a b : Rec) (t : Int) : V3 :=
  ⟨blend a.pos.x b.pos.x (t - 256 * a.tick) (256 * b.tick - t), blend a.pos.y b.pos.y (t - 256 * a.tick) (256 * b.tick - t), blend a.pos.z b.pos.z (t - 256 * a.tick) (256 * b.tick - t)⟩

/-- Where it stood by the records behind 'a', t not below a's time. -/
def poseF (a : Rec) (t : Int) : List Rec → V3
  | [] => a.pos
  | r :: rs => if t < 256 * r.tick then mid a r t else poseF r t rs
/-- Where it stood. -/
def pose (t : Int) : List Rec → V3
  | [] => ⟨0, 0, 0⟩
  | r :: rs => if t ≤ 256 * r.tick then r.pos else poseF r t (r :: rs)

/-- May this be a record behind the tick 'last'? -/
def recB (last : Int) (r : Rec) : Bool := decide (last < r.tick) && decide (r.tick ≤ 3000) && decide (0 ≤ r.pos.x) && decide (r.pos.x ≤ 4096) && decide (0 ≤ r.pos.y) && decide (r.pos.y ≤ 4096) && decide (0 ≤ r.pos.z) && decide (r.pos.z ≤ 4096)
def risingB (last : Int) : List Rec → Bool
  | [] => true
  | r :: rs => recB last r && risingB r.tick rs


/-- A record that may be. -/
structure Ok (r : Rec) : Prop where
  t1 : 0 ≤ r.tick
  t2 : r.tick ≤ 3000
  c : Cube r.pos

theorem recB_iff (last : Int) (r : Rec) : recB last r = true ↔ last < r.tick ∧ r.tick ≤ 3000 ∧ Cube r.pos := by
  unfold recB
  simp
  constructor
  · rintro ⟨⟨⟨⟨⟨⟨⟨a, b⟩, c⟩, d⟩, e⟩, f⟩, g⟩, h⟩; exact ⟨a, b, ⟨c, d, e, f, g, h⟩⟩
  · rintro ⟨a, b, ⟨c, d, e, f, g, h⟩⟩; exact ⟨⟨⟨⟨⟨⟨⟨a, b⟩, c⟩, d⟩, e⟩, f⟩, g⟩, h⟩

theorem rising_ok : ∀ (rs : List Rec) (last : Int), -1 ≤ last → risingB last rs = true → ∀ r ∈ rs, Ok r
  | [], _, _, _, r, h => by cases h
  | x :: rs, last, hl, h, r, hr => by
    unfold risingB at h
    rw [Bool.and_eq_true] at h
    obtain ⟨h1, h2, h3⟩ := (recB_iff last x).1 h.1
    rcases List.mem_cons.1 hr with rfl | hr
    · exact ⟨by omega, h2, h3⟩
    · exact rising_ok rs x.tick (by omega) h.2 r hr

end Go.Proofs.Ytonmihojfcjmjaa.M
