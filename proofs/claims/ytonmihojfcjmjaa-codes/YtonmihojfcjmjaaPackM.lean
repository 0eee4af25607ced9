/- The meaning of packets. -/
import Derived.Test.YtonmihojfcjmjaaMath
import Derived.Test.YtonmihojfcjmjaaTree
namespace Go.Proofs.Ytonmihojfcjmjaa

/-- A command. -/
structure M.Cmd where
  seq : Int
  fire : Bool
  mv : M.V3
  aim : M.V3
  time : Int

/-- A number's byte. -/
def M.b8 (n : Int) : UInt8 := UInt8.ofNat (n % 256).toNat
theorem M.b8_nat (n : Int) : ((M.b8 n).toNat : Int) = n % 256 := by
  unfold M.b8
  simp
  omega
theorem M.b8_lt (n : Int) (h : 0 ≤ n) (h2 : n < 256) : ((M.b8 n).toNat : Int) = n := by rw [M.b8_nat]; omega
theorem M.b8_back (c : UInt8) : M.b8 (c.toNat : Int) = c := by
  apply UInt8.toNat_inj.1
  have := M.b8_nat (c.toNat : Int)
  have := c.toNat_lt
  omega

def M.smallB (p : M.V3) : Bool := decide (-128 ≤ p.x) && decide (p.x ≤ 127) && decide (-128 ≤ p.y) && decide (p.y ≤ 127) && decide (-128 ≤ p.z) && decide (p.z ≤ 127)
def M.Cmd.numB (c : M.Cmd) : Bool := decide (1 ≤ c.seq) && decide (c.seq ≤ 65535) && decide (0 ≤ c.time) && decide (c.time ≤ 16777215)
def M.Cmd.fitsB (c : M.Cmd) : Bool := c.numB && M.smallB c.mv && M.smallB c.aim

structure M.Small (p : M.V3) : Prop where
  x1 : -128 ≤ p.x
  x2 : p.x ≤ 127
  y1 : -128 ≤ p.y
  y2 : p.y ≤ 127
  z1 : -128 ≤ p.z
  z2 : p.z ≤ 127
theorem M.smallB_iff (p : M.V3) : M.smallB p = true ↔ M.Small p := by
  unfold M.smallB
  simp
  constructor
  · rintro ⟨⟨⟨⟨⟨a, b⟩, c⟩, d⟩, e⟩, f⟩; exact ⟨a, b, c, d, e, f⟩
  · rintro ⟨a, b, c, d, e, f⟩; exact ⟨⟨⟨⟨⟨a, b⟩, c⟩, d⟩, e⟩, f⟩

structure M.Fits (c : M.Cmd) : Prop where
  s1 : 1 ≤ c.seq
  s2 : c.seq ≤ 65535
  t1 : 0 ≤ c.time
  t2 : c.time ≤ 16777215
  mv : M.Small c.mv
  aim : M.Small c.aim
theorem M.fitsB_iff (c : M.Cmd) : c.fitsB = true ↔ M.Fits c := by
  unfold M.Cmd.fitsB M.Cmd.numB
  simp [M.smallB_iff]
  constructor
  · rintro ⟨⟨⟨⟨⟨a, b⟩, c⟩, d⟩, e⟩, f⟩; exact ⟨a, b, c, d, e, f⟩
  · rintro ⟨a, b, c, d, e, f⟩; exact ⟨⟨⟨⟨⟨a, b⟩, c⟩, d⟩, e⟩, f⟩

/-- The mark of fire as a number. -/
def M.fireN (b : Bool) : Int := if b then 1 else 0

/-- The first thirteen bytes, as numbers. -/
def M.Cmd.body (c : M.Cmd) : List Int := [67, c.seq % 256, c.seq / 256 % 256, M.fireN c.fire, c.mv.x % 256, c.mv.y % 256, c.mv.z % 256, c.aim.x % 256, c.aim.y % 256, c.aim.z % 256, c.time % 256, c.time / 256 % 256, c.time / 65536 % 256]
def M.Cmd.chk (c : M.Cmd) : Int := c.body.sum % 256
/-- The packet. -/
def M.Cmd.pack (c : M.Cmd) : ByteArray := ⟨#[67, M.b8 c.seq, M.b8 (c.seq / 256), M.b8 (M.fireN c.fire), M.b8 c.mv.x, M.b8 c.mv.y, M.b8 c.mv.z, M.b8 c.aim.x, M.b8 c.aim.y, M.b8 c.aim.z, M.b8 c.time, M.b8 (c.time / 256), M.b8 (c.time / 65536), M.b8 c.chk]⟩

theorem M.fireN_01 (b : Bool) : 0 ≤ M.fireN b ∧ M.fireN b ≤ 1 := by cases b <;> decide

/-- A byte with its sign. -/
def M.sg (n : Int) : Int := if 127 < n then n - 256 else n
theorem M.sg_back {n : Int} (h1 : -128 ≤ n) (h2 : n ≤ 127) : M.sg (n % 256) = n := by unfold M.sg; split <;> omega

/-- The command whose numbers stand in these bytes. -/
def M.rd (b : Nat → Int) : M.Cmd :=
  ⟨b 1 + 256 * b 2, decide (b 3 = 1), ⟨M.sg (b 4), M.sg (b 5), M.sg (b 6)⟩, ⟨M.sg (b 7), M.sg (b 8), M.sg (b 9)⟩, b 10 + 256 * b 11 + 65536 * b 12⟩

theorem M.str14 (p : ByteArray) (h : p.size = 14) : ∃ b0 b1 b2 b3 b4 b5 b6 b7 b8 b9 b10 b11 b12 b13 : UInt8, p = ⟨#[b0, b1, b2, b3, b4, b5, b6, b7, b8, b9, b10, b11, b12, b13]⟩ := by
  obtain ⟨⟨l⟩⟩ := p
  replace h : l.length = 14 := h
  match l, h with
  | [b0, b1, b2, b3, b4, b5, b6, b7, b8, b9, b10, b11, b12, b13], _ => exact ⟨b0, b1, b2, b3, b4, b5, b6, b7, b8, b9, b10, b11, b12, b13, rfl⟩

/-- The sum is right. -/
def M.sumOk (b0 b1 b2 b3 b4 b5 b6 b7 b8 b9 b10 b11 b12 b13 : UInt8) : Prop :=
  ((b0.toNat : Int) + b1.toNat + b2.toNat + b3.toNat + b4.toNat + b5.toNat + b6.toNat + b7.toNat + b8.toNat + b9.toNat + b10.toNat + b11.toNat + b12.toNat) % 256 = b13.toNat

theorem M.chk_eq (c : M.Cmd) : c.chk = (67 + c.seq % 256 + c.seq / 256 % 256 + M.fireN c.fire + c.mv.x % 256 + c.mv.y % 256 + c.mv.z % 256 + c.aim.x % 256 + c.aim.y % 256 + c.aim.z % 256 + c.time % 256 + c.time / 256 % 256 + c.time / 65536 % 256) % 256 := by
  unfold M.Cmd.chk M.Cmd.body
  simp only [List.sum_cons, List.sum_nil]
  congr 1
  omega

theorem M.pack_sum (c : M.Cmd) (b0 b1 b2 b3 b4 b5 b6 b7 b8 b9 b10 b11 b12 b13 : UInt8) (h : c.pack = ⟨#[b0, b1, b2, b3, b4, b5, b6, b7, b8, b9, b10, b11, b12, b13]⟩) : M.sumOk b0 b1 b2 b3 b4 b5 b6 b7 b8 b9 b10 b11 b12 b13 := by
  unfold M.Cmd.pack at h
  injection h with h
  simp only [Array.mk.injEq, List.cons.injEq, and_true] at h
  obtain ⟨rfl, rfl, rfl, rfl, rfl, rfl, rfl, rfl, rfl, rfl, rfl, rfl, rfl, rfl⟩ := h
  unfold M.sumOk
  have := M.fireN_01 c.fire
  have e : ((67 : UInt8).toNat : Int) = 67 := rfl
  rw [e]
  simp only [M.b8_nat]
  rw [M.chk_eq]
  omega

theorem M.pack_size (c : M.Cmd) : c.pack.size = 14 := rfl
theorem M.pack_at (c : M.Cmd) (i : Nat) (b : UInt8) (h : i < 14) (e : c.pack.data[i]'h = b) : M.byteAt c.pack i = (b.toNat : Int) := by
  rw [M.byteAt_lt (s := c.pack) (i := i) h, ← e]
  rfl

/-- What was packed is read again. -/
theorem M.rd_pack (c : M.Cmd) (h : M.Fits c) : M.rd (M.byteAt c.pack) = c := by
  obtain ⟨s1, s2, t1, t2, ⟨x1, x2, y1, y2, z1, z2⟩, ⟨u1, u2, v1, v2, w1, w2⟩⟩ := h
  unfold M.rd
  rw [M.pack_at c 1 (M.b8 c.seq) (by omega) rfl, M.pack_at c 2 (M.b8 (c.seq / 256)) (by omega) rfl, M.pack_at c 3 (M.b8 (M.fireN c.fire)) (by omega) rfl, M.pack_at c 4 (M.b8 c.mv.x) (by omega) rfl, M.pack_at c 5 (M.b8 c.mv.y) (by omega) rfl, M.pack_at c 6 (M.b8 c.mv.z) (by omega) rfl, M.pack_at c 7 (M.b8 c.aim.x) (by omega) rfl,
    M.pack_at c 8 (M.b8 c.aim.y) (by omega) rfl, M.pack_at c 9 (M.b8 c.aim.z) (by omega) rfl, M.pack_at c 10 (M.b8 c.time) (by omega) rfl, M.pack_at c 11 (M.b8 (c.time / 256)) (by omega) rfl, M.pack_at c 12 (M.b8 (c.time / 65536)) (by omega) rfl]
  simp only [M.b8_nat]
  rw [M.sg_back x1 x2, M.sg_back y1 y2, M.sg_back z1 z2, M.sg_back u1 u2, M.sg_back v1 v2, M.sg_back w1 w2]
  have e1 : c.seq % 256 + 256 * (c.seq / 256 % 256) = c.seq := by omega
  have e2 : c.time % 256 + 256 * (c.time / 256 % 256) + 65536 * (c.time / 65536 % 256) = c.time := by omega
  have e3 : decide (M.fireN c.fire % 256 = 1) = c.fire := by cases c.fire <;> decide
  rw [e1, e2, e3]

/-- The command that Decode tells. -/
def M.decC (p : ByteArray) : M.Cmd := M.rd (M.byteAt p)

end Go.Proofs.Ytonmihojfcjmjaa
