/- Contracts: the helpers of rewindkeep. -/
import Derived.Test.YtonmihojfcjmjaaSeg
import Derived.Test.YtonmihojfcjmjaaBox2
namespace Go.Proofs.Ytonmihojfcjmjaa
open Go.RowKit
attribute [local go_sem] cell_set_off cell_set_blk

def M.V3.ax (p : M.V3) (k : Int) : Int := if k = 0 then p.x else if k = 1 then p.y else p.z

set_option maxHeartbeats 1000000 in
theorem axis_0 (p : M.V3) (w : World) : Calls Try.prog 46 #[.agg #[.int .i64 p.x, .int .i64 p.y, .int .i64 p.z], .int .i64 0] w fun e w' => e = .returned (.int .i64 p.x) ∧ Below w.heap.size w w' := by
  go_enter Try.func46, Try.ntmps46
  go_wp2
  go_ret
  exact ⟨rfl, by go_grown⟩
set_option maxHeartbeats 1000000 in
theorem axis_1 (p : M.V3) (w : World) : Calls Try.prog 46 #[.agg #[.int .i64 p.x, .int .i64 p.y, .int .i64 p.z], .int .i64 1] w fun e w' => e = .returned (.int .i64 p.y) ∧ Below w.heap.size w w' := by
  go_enter Try.func46, Try.ntmps46
  go_wp2
  go_ret
  exact ⟨rfl, by go_grown⟩
set_option maxHeartbeats 1000000 in
theorem axis_2 (p : M.V3) (w : World) : Calls Try.prog 46 #[.agg #[.int .i64 p.x, .int .i64 p.y, .int .i64 p.z], .int .i64 2] w fun e w' => e = .returned (.int .i64 p.z) ∧ Below w.heap.size w w' := by
  go_enter Try.func46, Try.ntmps46
  go_wp2
  go_ret
  exact ⟨rfl, by go_grown⟩

theorem axis_any (p : M.V3) (k : Int) (w : World) (h0 : 0 ≤ k) (h3 : k < 3) : Calls Try.prog 46 #[.agg #[.int .i64 p.x, .int .i64 p.y, .int .i64 p.z], .int .i64 k] w fun e w' => e = .returned (.int .i64 (p.ax k)) ∧ Below w.heap.size w w' := by
  have : k = 0 ∨ k = 1 ∨ k = 2 := by omega
  rcases this with rfl | rfl | rfl
  · exact axis_0 p w
  · exact axis_1 p w
  · exact axis_2 p w

set_option maxHeartbeats 1000000 in
theorem common_any (a b : Int) (w : World) (a1 : 0 ≤ a) (a2 : a ≤ 2097152) (b1 : 0 ≤ b) (b2 : b ≤ 2097152) :
    Calls Try.prog 18 #[.int .i64 a, .int .i64 b] w fun e w' => e = .returned (.int .i64 (Int.gcd a b)) ∧ Below w.heap.size w w' := by
  go_enter Try.func18, Try.ntmps18
  go_wp2
  go_loopw [0, 1] (fun u v wr => ∃ x y : Int, u = .int .i64 x ∧ v = .int .i64 y ∧ 0 ≤ x ∧ x ≤ 2097152 ∧ 0 ≤ y ∧ y ≤ 2097152 ∧ Hid (Int.gcd x y = Int.gcd a b) ∧ Below w.heap.size w wr) (fun _ v _ => (intOf v).toNat)
  case atStart => exact ⟨a, b, rfl, rfl, a1, a2, b1, b2, rfl, Below.refl _ _⟩
  case round =>
    obtain ⟨x, y, rfl, rfl, x1, x2, y1, y2, hg, hb⟩ := hrel
    by_cases h : y = 0
    · subst h
      go_wp2
      go_ret
      have e : x = (Int.gcd a b : Int) := by rw [← hg.out]; simp; omega
      exact ⟨ret_int e, hb⟩
    · have hp : 0 < y := by omega
      have hg' : Hid (Int.gcd y (x % y) = Int.gcd a b) := by
        rw [← hg.out]; exact M.gcd_step x1 hp
      have hm1 : 0 ≤ x % y := Int.emod_nonneg _ h
      have hm2 : x % y < y := Int.emod_lt_of_pos _ hp
      go_wp2
      go_roundw
      case rel => exact ⟨y, x % y, rfl, rfl, y1, y2, hm1, by omega, hg', hb⟩
      case measure => simp [intOf]; omega

/-- Are all coordinates from lo to hi? -/
def M.fromB (p : M.V3) (lo hi : Int) : Bool := decide (lo ≤ p.x) && decide (p.x ≤ hi) && decide (lo ≤ p.y) && decide (p.y ≤ hi) && decide (lo ≤ p.z) && decide (p.z ≤ hi)
/-- The axes from k on are in. -/
def M.fromK (p : M.V3) (lo hi : Int) (k : Int) : Bool := (decide (0 < k) || (decide (lo ≤ p.x) && decide (p.x ≤ hi))) && (decide (1 < k) || (decide (lo ≤ p.y) && decide (p.y ≤ hi))) && (decide (2 < k) || (decide (lo ≤ p.z) && decide (p.z ≤ hi)))

set_option maxHeartbeats 1000000 in
theorem from_any (p : M.V3) (lo hi : Int) (w : World) :
    Calls Try.prog 24 #[.agg #[.int .i64 p.x, .int .i64 p.y, .int .i64 p.z], .int .i64 lo, .int .i64 hi] w fun e w' => e = .returned (.bool (M.fromB p lo hi)) ∧ Below w.heap.size w w' := by
  go_enter Try.func24, Try.ntmps24
  go_wp2
  go_rounds 4
  all_goals (go_ret; exact ⟨ret_bool (by unfold M.fromB; (first | (simp [*]; done) | (simp; omega))), by go_grown⟩)

theorem M.near_from (p : M.V3) : M.fromB p (-1048576) 1048576 = M.nearB p := rfl

set_option maxHeartbeats 1000000 in
theorem near_is (p : M.V3) (w : World) (B : Bool) (h : Hid (M.nearB p = B)) :
    Calls Try.prog 17 #[.agg #[.int .i64 p.x, .int .i64 p.y, .int .i64 p.z]] w fun e w' => e = .returned (.bool B) ∧ Below w.heap.size w w' := by
  go_enter Try.func17, Try.ntmps17
  go_wp2_with fail
  refine (from_any p _ _ _).mono ?_
  rintro r w1 ⟨rfl, hb⟩
  have hb1 : Below w.heap.size w w1 := bl (by go_grown) hb
  clear hb
  rw [M.near_from, h.out]
  go_wp2
  go_ret
  exact ⟨rfl, by go_grown⟩

/-- Does the point lie in the box at the time n/e? -/
def M.on1B (p d lo hi n e : Int) : Bool := decide (lo * e ≤ p * e + d * n) && decide (p * e + d * n ≤ hi * e)
def M.liesB (p d lo hi : M.V3) (n e : Int) : Bool := M.on1B p.x d.x lo.x hi.x n e && M.on1B p.y d.y lo.y hi.y n e && M.on1B p.z d.z lo.z hi.z n e
theorem M.liesB_iff (p d lo hi : M.V3) (n e : Int) : M.liesB p d lo hi n e = true ↔ M.lies p d lo hi n e := by
  unfold M.liesB M.lies M.on1B M.on1
  simp [and_assoc]

theorem wrap_sum {a b c d : Int} (a1 : -1048576 ≤ a) (a2 : a ≤ 1048576) (b1 : -1048576 ≤ b) (b2 : b ≤ 1048576) (c1 : -1048576 ≤ c) (c2 : c ≤ 1048576) (d1 : -1048576 ≤ d) (d2 : d ≤ 1048576) : wrap64 (a * b + c * d) = a * b + c * d := by
  have h1 := M.mul_bound a1 a2 b1 b2
  have h2 := M.mul_bound c1 c2 d1 d2
  exact IntWalk.wrap64_in _ (by omega)

set_option maxHeartbeats 4000000 in
theorem lies_is (p d lo hi : M.V3) (n e : Int) (w : World) (B : Bool) (h : Hid (M.liesB p d lo hi n e = B)) (hp : p.Near) (hd : d.Near) (hlo : lo.Near) (hhi : hi.Near) (n1 : 0 ≤ n) (n2 : n ≤ e) (k1 : 1 ≤ e) (k2 : e ≤ 1048576) :
    Calls Try.prog 19 #[.agg #[.int .i64 p.x, .int .i64 p.y, .int .i64 p.z], .agg #[.int .i64 d.x, .int .i64 d.y, .int .i64 d.z], .agg #[.int .i64 lo.x, .int .i64 lo.y, .int .i64 lo.z], .agg #[.int .i64 hi.x, .int .i64 hi.y, .int .i64 hi.z], .int .i64 n, .int .i64 e] w fun r w' => r = .returned (.bool B) ∧ Below w.heap.size w w' := by
  obtain ⟨p1, p2, p3, p4, p5, p6⟩ := hp
  obtain ⟨d1, d2, d3, d4, d5, d6⟩ := hd
  obtain ⟨l1, l2, l3, l4, l5, l6⟩ := hlo
  obtain ⟨h1, h2, h3, h4, h5, h6⟩ := hhi
  have x1 : wrap64 (p.x * e) = p.x * e := wrap_mul (by omega) (by omega) (by omega) (by omega)
  have x2 : wrap64 (d.x * n) = d.x * n := wrap_mul (by omega) (by omega) (by omega) (by omega)
  have x3 : wrap64 (lo.x * e) = lo.x * e := wrap_mul (by omega) (by omega) (by omega) (by omega)
  have x4 : wrap64 (hi.x * e) = hi.x * e := wrap_mul (by omega) (by omega) (by omega) (by omega)
  have x5 : wrap64 (p.x * e + d.x * n) = p.x * e + d.x * n := wrap_sum (by omega) (by omega) (by omega) (by omega) (by omega) (by omega) (by omega) (by omega)
  have y1 : wrap64 (p.y * e) = p.y * e := wrap_mul (by omega) (by omega) (by omega) (by omega)
  have y2 : wrap64 (d.y * n) = d.y * n := wrap_mul (by omega) (by omega) (by omega) (by omega)
  have y3 : wrap64 (lo.y * e) = lo.y * e := wrap_mul (by omega) (by omega) (by omega) (by omega)
  have y4 : wrap64 (hi.y * e) = hi.y * e := wrap_mul (by omega) (by omega) (by omega) (by omega)
  have y5 : wrap64 (p.y * e + d.y * n) = p.y * e + d.y * n := wrap_sum (by omega) (by omega) (by omega) (by omega) (by omega) (by omega) (by omega) (by omega)
  have z1 : wrap64 (p.z * e) = p.z * e := wrap_mul (by omega) (by omega) (by omega) (by omega)
  have z2 : wrap64 (d.z * n) = d.z * n := wrap_mul (by omega) (by omega) (by omega) (by omega)
  have z3 : wrap64 (lo.z * e) = lo.z * e := wrap_mul (by omega) (by omega) (by omega) (by omega)
  have z4 : wrap64 (hi.z * e) = hi.z * e := wrap_mul (by omega) (by omega) (by omega) (by omega)
  have z5 : wrap64 (p.z * e + d.z * n) = p.z * e + d.z * n := wrap_sum (by omega) (by omega) (by omega) (by omega) (by omega) (by omega) (by omega) (by omega)
  clear p1 p2 p3 p4 p5 p6 d1 d2 d3 d4 d5 d6 l1 l2 l3 l4 l5 l6 h1 h2 h3 h4 h5 h6 n1 n2 k1 k2
  go_enter Try.func19, Try.ntmps19
  go_wp2
  go_rounds 4
  all_goals (go_ret; exact ⟨ret_bool (by rw [← h.out]; unfold M.liesB M.on1B; (first | (simp [*]; done) | (simp; omega))), by go_grown⟩)
end Go.Proofs.Ytonmihojfcjmjaa
