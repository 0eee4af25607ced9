import Derived.Test.YtonmihojfcjmjaaGreatRows
import Derived.Test.YtonmihojfcjmjaaGreatBM
import Derived.Test.YtonmihojfcjmjaaGreatBK
import Derived.Handy
import Derived.WalkKit
import Derived.WalkSpells
import Derived.WalkSmall
import Derived.Deep.QuietTactic
import Derived.Deep.RegionHeld3
import Derived.Deep.RegionWith
import Derived.Deep.DrawnRows
import Derived.BigQuiet
/- Contracts of package space: fractions, spans, boxes. -/
namespace Go.Proofs.YtonmihojfcjmjaaGreat
open Go.RowKit
attribute [local go_sem ↓] Go.wp_at_zero Go.wp_at_succ

attribute [local go_sem] cell_set_off cell_set_blk

theorem wrap_mul {a b : Int} (h1 : -4194304 ≤ a) (h2 : a ≤ 4194304) (h3 : -4194304 ≤ b) (h4 : b ≤ 4194304) : wrap64 (a * b) = a * b := by
  have := M.mul_bound h1 h2 h3 h4
  exact IntWalk.wrap64_in _ (by omega)

set_option maxHeartbeats 400000 in
theorem above_any (a b c d : Int) (w : World) (a1 : -2097152 ≤ a) (a2 : a ≤ 2097152) (b1 : 1 ≤ b) (b2 : b ≤ 1048576) (c1 : -2097152 ≤ c) (c2 : c ≤ 2097152) (d1 : 1 ≤ d) (d2 : d ≤ 1048576) :
    Calls Tryz.prog 115 #[.agg #[.int .i64 a, .int .i64 b], .agg #[.int .i64 c, .int .i64 d]] w fun e w' => e = .returned (.bool (decide (c * b < a * d))) ∧ Below w.heap.size w w' := by
  have e1 : wrap64 (a * d) = a * d := wrap_mul (by omega) (by omega) (by omega) (by omega)
  have e2 : wrap64 (c * b) = c * b := wrap_mul (by omega) (by omega) (by omega) (by omega)
  clear a1 a2 b1 b2 c1 c2 d1 d2
  go_enter Tryz.func115, Tryz.ntmps115
  go_wp2
  go_ret
  exact ⟨rfl, by go_grown⟩

theorem above_is (a b c d : Int) (w : World) (B : Bool) (h : Hid (decide (c * b < a * d) = B)) (a1 : -2097152 ≤ a) (a2 : a ≤ 2097152) (b1 : 1 ≤ b) (b2 : b ≤ 1048576) (c1 : -2097152 ≤ c) (c2 : c ≤ 2097152) (d1 : 1 ≤ d) (d2 : d ≤ 1048576) :
    Calls Tryz.prog 115 #[.agg #[.int .i64 a, .int .i64 b], .agg #[.int .i64 c, .int .i64 d]] w fun e w' => e = .returned (.bool B) ∧ Below w.heap.size w w' := by
  rw [← h.out]
  exact above_any a b c d w a1 a2 b1 b2 c1 c2 d1 d2

set_option maxHeartbeats 400000 in
theorem gcd_any (a b : Int) (w : World) (a1 : 0 ≤ a) (a2 : a ≤ 2097152) (b1 : 0 ≤ b) (b2 : b ≤ 2097152) :
    Calls Tryz.prog 131 #[.int .i64 a, .int .i64 b] w fun e w' => e = .returned (.int .i64 (Int.gcd a b)) ∧ Below w.heap.size w w' := by
  go_enter Tryz.func131, Tryz.ntmps131
  go_wp2
  go_loopw [0, 1] (fun u v wr => ∃ x y : Int, u = .int .i64 x ∧ v = .int .i64 y ∧ 0 ≤ x ∧ x ≤ 2097152 ∧ 0 ≤ y ∧ y ≤ 2097152 ∧ Hid (Int.gcd x y = Int.gcd a b) ∧ Below w.heap.size w wr) (fun _ v _ => (intOf v).toNat)
  case atStart => exact ⟨a, b, rfl, rfl, a1, a2, b1, b2, rfl, Below.refl _ _⟩
  case round =>
    obtain ⟨x, y, rfl, rfl, x1, x2, y1, y2, hg, hb⟩ := hrel
    by_cases h : y = 0
    · subst h
      go_wp2
      go_ret
      have e : x = (Int.gcd a b : Int) := by rw [← hg.out]; simp; omega
      exact ⟨ret_int e, hb⟩
    · have hn : (y != 0) = true := by simpa using h
      have hp : 0 < y := by omega
      have hg' : Hid (Int.gcd y (x % y) = Int.gcd a b) := by
        rw [← hg.out]; exact M.gcd_step x1 hp
      have hm1 : 0 ≤ x % y := Int.emod_nonneg _ h
      have hm2 : x % y < y := Int.emod_lt_of_pos _ hp
      go_wp2
      go_quiet (fail)
      go_wp2
      go_roundw
      case rel => exact ⟨y, x % y, rfl, rfl, y1, y2, hm1, by omega, hg', below_drewN hb _⟩
      case measure => simp [intOf]; omega

set_option maxHeartbeats 400000 in
theorem lowest_any (a b : Int) (w : World) (a1 : 0 ≤ a) (a2 : a ≤ 2097152) (b1 : 1 ≤ b) (b2 : b ≤ 1048576) :
    Calls Tryz.prog 128 #[.agg #[.int .i64 a, .int .i64 b]] w fun e w' => e = .returned (.agg #[.int .i64 (a / Int.gcd a b), .int .i64 (b / Int.gcd a b)]) ∧ Below w.heap.size w w' := by
  have hg : 1 ≤ (Int.gcd a b : Int) := by
    have : 0 < Int.gcd a b := Int.gcd_pos_of_ne_zero_right _ (by omega)
    omega
  generalize hgg : (Int.gcd a b : Int) = g at *
  have Hg : Hid ((Int.gcd a b : Int) = g) := hgg
  clear hgg
  go_enter Tryz.func128, Tryz.ntmps128
  go_wp2_with fail
  refine (gcd_any _ _ _ a1 (by omega) (by omega) (by omega)).mono ?_
  rintro e w1 ⟨rfl, hb⟩
  rw [Hg.out]
  obtain ⟨k0, k1, kf, kl⟩ := (show Blk _ w.heap.size #[.int .i64 a, .int .i64 b] 166 from (by repeat' (first | (with_reducible assumption) | (refine Blk.new ?_; (first | (simp; done) | rfl); done) | (with_reducible refine Blk.alloc ?_) | (with_reducible refine Blk.drew ?_) | (with_reducible refine Blk.drewN ?_)))).after hb |>.two
  obtain ⟨n0, n1, nf, nl⟩ := (show Blk _ (w.heap.size + 1) #[.int .i64 0, .int .i64 0] 166 from (by repeat' (first | (with_reducible assumption) | (refine Blk.new ?_; (first | (simp; done) | rfl); done) | (with_reducible refine Blk.alloc ?_) | (with_reducible refine Blk.drew ?_) | (with_reducible refine Blk.drewN ?_)))).after hb |>.two
  have hb' : Below w.heap.size w w1 := bl (by go_grown) hb
  clear hb
  go_wp2
  go_region
  go_wp2
  exact bodyPost_ret (v := .agg #[.int .i64 (a / g), .int .i64 (b / g)]) (by simp [results, Tryz.results128, go_sem, *]) rfl ⟨rfl, by go_grown⟩

/-- What narrow gives back. -/
def NarPost (S T : Int → Int → Prop) (w : World) (r : Ending) (w' : World) : Prop := ∃ a' b' c' e' : Int, ∃ s : Bool,
  r = .returned (.tuple #[.agg #[.int .i64 a', .int .i64 b', .int .i64 c', .int .i64 e'], .bool s]) ∧ M.Nar S T a' b' c' e' s ∧ Below w.heap.size w w'
theorem NarPost.mk {S T : Int → Int → Prop} {w w' : World} {a b c e : Int} {s : Bool} (h : M.Nar S T a b c e s) (hb : Below w.heap.size w w') :
    NarPost S T w (.returned (.tuple #[.agg #[.int .i64 a, .int .i64 b, .int .i64 c, .int .i64 e], .bool s])) w' := ⟨a, b, c, e, s, rfl, h, hb⟩

set_option maxHeartbeats 1000000 in
theorem narrow_still {S : Int → Int → Prop} (a b c e p lo hi : Int) (w : World) (h : M.Sp S a b c e) (hs : a * e ≤ c * b) :
    Calls Tryz.prog 127 #[.agg #[.int .i64 a, .int .i64 b, .int .i64 c, .int .i64 e], .int .i64 p, .int .i64 0, .int .i64 lo, .int .i64 hi] w (NarPost S (M.on1 p 0 lo hi) w) := by
  have hN := M.Nar.still (p := p) (lo := lo) (hi := hi) h hs
  have HN : Hid (M.Nar S (M.on1 p 0 lo hi) a b c e (decide (lo ≤ p) && decide (p ≤ hi))) := hN
  clear hN h hs
  by_cases h1 : lo ≤ p
  · go_enter Tryz.func127, Tryz.ntmps127
    go_wp2
    exact bodyPost_ret (v := .tuple #[.agg #[.int .i64 a, .int .i64 b, .int .i64 c, .int .i64 e], .bool (decide (p ≤ hi))]) (by simp [results, Tryz.results127, go_sem]) rfl (.mk (by simpa [h1] using HN.out) (by go_grown))
  · go_enter Tryz.func127, Tryz.ntmps127
    go_wp2
    exact bodyPost_ret (v := .tuple #[.agg #[.int .i64 a, .int .i64 b, .int .i64 c, .int .i64 e], .bool false]) (by simp [results, Tryz.results127, go_sem]) rfl (.mk (by have := HN.out; rwa [show decide (lo ≤ p) = false from by simpa using h1, Bool.false_and] at this) (by go_grown))

set_option maxHeartbeats 1000000 in
theorem narrow_up {S : Int → Int → Prop} (a b c e p d lo hi : Int) (w : World) (h : M.Sp S a b c e)
    (p1 : -1048576 ≤ p) (p2 : p ≤ 1048576) (d1 : 0 < d) (d2 : d ≤ 1048576) (lo1 : -1048576 ≤ lo) (lo2 : lo ≤ 1048576) (hi1 : -1048576 ≤ hi) (hi2 : hi ≤ 1048576) :
    Calls Tryz.prog 127 #[.agg #[.int .i64 a, .int .i64 b, .int .i64 c, .int .i64 e], .int .i64 p, .int .i64 d, .int .i64 lo, .int .i64 hi] w (NarPost S (M.on1 p d lo hi) w) := by
  have a0 := h.a0; have a1 := h.a1; have b1 := h.b1; have b2 := h.b2; have c1 := h.c1; have c2 := h.c2; have e1 := h.d1; have e2 := h.d2
  have H : Hid (M.Sp S a b c e) := h
  clear h
  have hd0 : (d == 0) = false := by simp; omega
  by_cases t1 : a * (d) < (lo - p) * b
  · by_cases t2 : (hi - p) * e < c * (d)
    · go_enter Tryz.func127, Tryz.ntmps127
      go_wp2_with fail
      refine (above_any _ _ _ _ _ (by omega) (by omega) (by omega) (by omega) (by omega) (by omega) (by omega) (by omega)).mono ?_
      rintro r w1 ⟨rfl, hb⟩
      have q0 := (show Blk _ w.heap.size #[.int .i64 a, .int .i64 b, .int .i64 c, .int .i64 e] 193 from (by repeat' (first | (with_reducible assumption) | (refine Blk.new ?_; (first | (simp; done) | rfl); done) | (with_reducible refine Blk.alloc ?_) | (with_reducible refine Blk.drew ?_) | (with_reducible refine Blk.drewN ?_)))).after hb
      have q1 := (show Blk _ (w.heap.size + 1) #[.int .i64 0, .int .i64 0, .int .i64 0, .int .i64 0] 193 from (by repeat' (first | (with_reducible assumption) | (refine Blk.new ?_; (first | (simp; done) | rfl); done) | (with_reducible refine Blk.alloc ?_) | (with_reducible refine Blk.drew ?_) | (with_reducible refine Blk.drewN ?_)))).after hb
      have q2 := (show Blk _ (w.heap.size + 1 + 1) #[.int .i64 (lo - p), .int .i64 (d)] 166 from (by repeat' (first | (with_reducible assumption) | (refine Blk.new ?_; (first | (simp; done) | rfl); done) | (with_reducible refine Blk.alloc ?_) | (with_reducible refine Blk.drew ?_) | (with_reducible refine Blk.drewN ?_)))).after hb
      have q3 := (show Blk _ (w.heap.size + 1 + 1 + 1) #[.int .i64 (hi - p), .int .i64 (d)] 166 from (by repeat' (first | (with_reducible assumption) | (refine Blk.new ?_; (first | (simp; done) | rfl); done) | (with_reducible refine Blk.alloc ?_) | (with_reducible refine Blk.drew ?_) | (with_reducible refine Blk.drewN ?_)))).after hb
      have hb' : Below w.heap.size w w1 := bl (by go_grown) hb
      clear hb
      obtain ⟨k0, k1, k2, k3, kf, kl⟩ := q0.four
      obtain ⟨n0, n1, n2, n3, nf, nl⟩ := q1.four
      obtain ⟨f0, f1, ff, fl⟩ := q2.two
      obtain ⟨l0, l1, lf, ll⟩ := q3.two
      go_wp2_with fail
      refine (above_any _ _ _ _ _ (by omega) (by omega) (by omega) (by omega) (by omega) (by omega) (by omega) (by omega)).mono ?_
      rintro r w2 ⟨rfl, hb⟩
      replace q0 : Blk w2 w.heap.size #[.int .i64 (lo - p), .int .i64 (d), .int .i64 c, .int .i64 e] 193 := ((q0.set 0 (.int .i64 (lo - p))).set 1 (.int .i64 (d))).after hb
      replace q1 := ((q1.other (c := w.heap.size) 0 (.int .i64 (lo - p)) (by omega)).other (c := w.heap.size) 1 (.int .i64 (d)) (by omega)).after hb
      replace q3 := ((q3.other (c := w.heap.size) 0 (.int .i64 (lo - p)) (by omega)).other (c := w.heap.size) 1 (.int .i64 (d)) (by omega)).after hb
      have hb2 : Below w.heap.size w w2 := bl (by go_grown) hb
      clear hb hb' k0 k1 k2 k3 kf kl n0 n1 n2 n3 nf nl f0 f1 ff fl l0 l1 lf ll q2
      skip
      obtain ⟨k0, k1, k2, k3, kf, kl⟩ := q0.four
      obtain ⟨n0, n1, n2, n3, nf, nl⟩ := q1.four
      obtain ⟨l0, l1, lf, ll⟩ := q3.two
      go_wp2_with fail
      replace q0 : Blk ((w2.setCell ⟨w.heap.size, 2, none⟩ (.int .i64 (hi - p))).setCell ⟨w.heap.size, 3, none⟩ (.int .i64 (d))) w.heap.size #[.int .i64 (lo - p), .int .i64 (d), .int .i64 (hi - p), .int .i64 (d)] 193 := (q0.set 2 (.int .i64 (hi - p))).set 3 (.int .i64 (d))
      replace q1 := (q1.other (c := w.heap.size) 2 (.int .i64 (hi - p)) (by omega)).other (c := w.heap.size) 3 (.int .i64 (d)) (by omega)
      have hb3 : Below w.heap.size w ((w2.setCell ⟨w.heap.size, 2, none⟩ (.int .i64 (hi - p))).setCell ⟨w.heap.size, 3, none⟩ (.int .i64 (d))) := by go_grown
      clear hb2 k0 k1 k2 k3 kf kl n0 n1 n2 n3 nf nl l0 l1 lf ll q3
      generalize ((w2.setCell ⟨w.heap.size, 2, none⟩ (.int .i64 (hi - p))).setCell ⟨w.heap.size, 3, none⟩ (.int .i64 (d))) = W at q0 q1 hb3 ⊢
      obtain ⟨k0, k1, k2, k3, kf, kl⟩ := q0.four
      obtain ⟨n0, n1, n2, n3, nf, nl⟩ := q1.four
      obtain ⟨B, hB⟩ : ∃ B : Bool, decide ((hi - p) * (d) < (lo - p) * (d)) = B := ⟨_, rfl⟩
      have HB : Hid (decide ((hi - p) * (d) < (lo - p) * (d)) = B) := hB
      clear hB
      go_region_held3 (fun w' => w'.cell? ⟨w.heap.size, 0, none⟩ = some (.int .i64 (lo - p)) ∧ w'.cell? ⟨w.heap.size, 1, none⟩ = some (.int .i64 (d)) ∧ w'.cell? ⟨w.heap.size, 2, none⟩ = some (.int .i64 (hi - p)) ∧ w'.cell? ⟨w.heap.size, 3, none⟩ = some (.int .i64 (d))) (go_keep) ((go_at_call 115; refine (above_is _ _ _ _ _ B HB (by omega) (by omega) (by omega) (by omega) (by omega) (by omega) (by omega) (by omega)).mono ?_; rintro r w3 ⟨rfl, hb⟩; obtain ⟨j0, j1, j2, j3, jf, jl⟩ := (show Blk _ w.heap.size #[.int .i64 (lo - p), .int .i64 (d), .int .i64 (hi - p), .int .i64 (d)] 193 from (by repeat' (first | (with_reducible assumption) | (refine Blk.new ?_; (first | (simp; done) | rfl); done) | (with_reducible refine Blk.alloc ?_) | (with_reducible refine Blk.drew ?_) | (with_reducible refine Blk.drewN ?_)))).after hb |>.four; obtain ⟨m0, m1, m2, m3, mf, ml⟩ := (show Blk _ (w.heap.size + 1) #[.int .i64 0, .int .i64 0, .int .i64 0, .int .i64 0] 193 from (by repeat' (first | (with_reducible assumption) | (refine Blk.new ?_; (first | (simp; done) | rfl); done) | (with_reducible refine Blk.alloc ?_) | (with_reducible refine Blk.drew ?_) | (with_reducible refine Blk.drewN ?_)))).after hb |>.four; have hb4 : Below w.heap.size w w3 := bl (by go_grown) hb; clear hb))
      go_wp2
      have hN : M.Nar S (M.on1 p d lo hi) (lo - p) (d) (hi - p) (d) (!B) := by
        rw [← HB.out]
        exact M.Nar.of ((H.out.first (n := lo - p) (e := d) (by omega) (by omega) (by omega) (by omega)).last (l := hi - p) (e := d) (by omega) (by omega) (by omega) (by omega) (by omega)) (fun m k => by rw [M.on1_up]; exact and_assoc)
      clear t1 t2 H HB
      exact bodyPost_ret (v := .tuple #[.agg #[.int .i64 (lo - p), .int .i64 (d), .int .i64 (hi - p), .int .i64 (d)], .bool (!B)]) (by simp [results, Tryz.results127, go_sem, m0, m1, m2, m3]) rfl (.mk hN (by go_grown))
    · go_enter Tryz.func127, Tryz.ntmps127
      go_wp2_with fail
      refine (above_any _ _ _ _ _ (by omega) (by omega) (by omega) (by omega) (by omega) (by omega) (by omega) (by omega)).mono ?_
      rintro r w1 ⟨rfl, hb⟩
      have q0 := (show Blk _ w.heap.size #[.int .i64 a, .int .i64 b, .int .i64 c, .int .i64 e] 193 from (by repeat' (first | (with_reducible assumption) | (refine Blk.new ?_; (first | (simp; done) | rfl); done) | (with_reducible refine Blk.alloc ?_) | (with_reducible refine Blk.drew ?_) | (with_reducible refine Blk.drewN ?_)))).after hb
      have q1 := (show Blk _ (w.heap.size + 1) #[.int .i64 0, .int .i64 0, .int .i64 0, .int .i64 0] 193 from (by repeat' (first | (with_reducible assumption) | (refine Blk.new ?_; (first | (simp; done) | rfl); done) | (with_reducible refine Blk.alloc ?_) | (with_reducible refine Blk.drew ?_) | (with_reducible refine Blk.drewN ?_)))).after hb
      have q2 := (show Blk _ (w.heap.size + 1 + 1) #[.int .i64 (lo - p), .int .i64 (d)] 166 from (by repeat' (first | (with_reducible assumption) | (refine Blk.new ?_; (first | (simp; done) | rfl); done) | (with_reducible refine Blk.alloc ?_) | (with_reducible refine Blk.drew ?_) | (with_reducible refine Blk.drewN ?_)))).after hb
      have q3 := (show Blk _ (w.heap.size + 1 + 1 + 1) #[.int .i64 (hi - p), .int .i64 (d)] 166 from (by repeat' (first | (with_reducible assumption) | (refine Blk.new ?_; (first | (simp; done) | rfl); done) | (with_reducible refine Blk.alloc ?_) | (with_reducible refine Blk.drew ?_) | (with_reducible refine Blk.drewN ?_)))).after hb
      have hb' : Below w.heap.size w w1 := bl (by go_grown) hb
      clear hb
      obtain ⟨k0, k1, k2, k3, kf, kl⟩ := q0.four
      obtain ⟨n0, n1, n2, n3, nf, nl⟩ := q1.four
      obtain ⟨f0, f1, ff, fl⟩ := q2.two
      obtain ⟨l0, l1, lf, ll⟩ := q3.two
      go_wp2_with fail
      refine (above_any _ _ _ _ _ (by omega) (by omega) (by omega) (by omega) (by omega) (by omega) (by omega) (by omega)).mono ?_
      rintro r w2 ⟨rfl, hb⟩
      replace q0 : Blk w2 w.heap.size #[.int .i64 (lo - p), .int .i64 (d), .int .i64 c, .int .i64 e] 193 := ((q0.set 0 (.int .i64 (lo - p))).set 1 (.int .i64 (d))).after hb
      replace q1 := ((q1.other (c := w.heap.size) 0 (.int .i64 (lo - p)) (by omega)).other (c := w.heap.size) 1 (.int .i64 (d)) (by omega)).after hb
      replace q3 := ((q3.other (c := w.heap.size) 0 (.int .i64 (lo - p)) (by omega)).other (c := w.heap.size) 1 (.int .i64 (d)) (by omega)).after hb
      have hb2 : Below w.heap.size w w2 := bl (by go_grown) hb
      clear hb hb' k0 k1 k2 k3 kf kl n0 n1 n2 n3 nf nl f0 f1 ff fl l0 l1 lf ll q2
      skip
      obtain ⟨k0, k1, k2, k3, kf, kl⟩ := q0.four
      obtain ⟨n0, n1, n2, n3, nf, nl⟩ := q1.four
      obtain ⟨l0, l1, lf, ll⟩ := q3.two
      go_wp2_with fail
      have hb3 := hb2
      clear hb2 k0 k1 k2 k3 kf kl n0 n1 n2 n3 nf nl l0 l1 lf ll q3
      generalize w2 = W at q0 q1 hb3 ⊢
      obtain ⟨k0, k1, k2, k3, kf, kl⟩ := q0.four
      obtain ⟨n0, n1, n2, n3, nf, nl⟩ := q1.four
      obtain ⟨B, hB⟩ : ∃ B : Bool, decide ((c) * (d) < (lo - p) * (e)) = B := ⟨_, rfl⟩
      have HB : Hid (decide ((c) * (d) < (lo - p) * (e)) = B) := hB
      clear hB
      go_region_held3 (fun w' => w'.cell? ⟨w.heap.size, 0, none⟩ = some (.int .i64 (lo - p)) ∧ w'.cell? ⟨w.heap.size, 1, none⟩ = some (.int .i64 (d)) ∧ w'.cell? ⟨w.heap.size, 2, none⟩ = some (.int .i64 (c)) ∧ w'.cell? ⟨w.heap.size, 3, none⟩ = some (.int .i64 (e))) (go_keep) ((go_at_call 115; refine (above_is _ _ _ _ _ B HB (by omega) (by omega) (by omega) (by omega) (by omega) (by omega) (by omega) (by omega)).mono ?_; rintro r w3 ⟨rfl, hb⟩; obtain ⟨j0, j1, j2, j3, jf, jl⟩ := (show Blk _ w.heap.size #[.int .i64 (lo - p), .int .i64 (d), .int .i64 (c), .int .i64 (e)] 193 from (by repeat' (first | (with_reducible assumption) | (refine Blk.new ?_; (first | (simp; done) | rfl); done) | (with_reducible refine Blk.alloc ?_) | (with_reducible refine Blk.drew ?_) | (with_reducible refine Blk.drewN ?_)))).after hb |>.four; obtain ⟨m0, m1, m2, m3, mf, ml⟩ := (show Blk _ (w.heap.size + 1) #[.int .i64 0, .int .i64 0, .int .i64 0, .int .i64 0] 193 from (by repeat' (first | (with_reducible assumption) | (refine Blk.new ?_; (first | (simp; done) | rfl); done) | (with_reducible refine Blk.alloc ?_) | (with_reducible refine Blk.drew ?_) | (with_reducible refine Blk.drewN ?_)))).after hb |>.four; have hb4 : Below w.heap.size w w3 := bl (by go_grown) hb; clear hb))
      go_wp2
      have hN : M.Nar S (M.on1 p d lo hi) (lo - p) (d) (c) (e) (!B) := by
        rw [← HB.out]
        exact M.Nar.of ((H.out.first (n := lo - p) (e := d) (by omega) (by omega) (by omega) (by omega)).last' (l := hi - p) (e := d) (by omega) (by omega)) (fun m k => by rw [M.on1_up]; exact and_assoc)
      clear t1 t2 H HB
      exact bodyPost_ret (v := .tuple #[.agg #[.int .i64 (lo - p), .int .i64 (d), .int .i64 (c), .int .i64 (e)], .bool (!B)]) (by simp [results, Tryz.results127, go_sem, m0, m1, m2, m3]) rfl (.mk hN (by go_grown))
  · by_cases t2 : (hi - p) * e < c * (d)
    · go_enter Tryz.func127, Tryz.ntmps127
      go_wp2_with fail
      refine (above_any _ _ _ _ _ (by omega) (by omega) (by omega) (by omega) (by omega) (by omega) (by omega) (by omega)).mono ?_
      rintro r w1 ⟨rfl, hb⟩
      have q0 := (show Blk _ w.heap.size #[.int .i64 a, .int .i64 b, .int .i64 c, .int .i64 e] 193 from (by repeat' (first | (with_reducible assumption) | (refine Blk.new ?_; (first | (simp; done) | rfl); done) | (with_reducible refine Blk.alloc ?_) | (with_reducible refine Blk.drew ?_) | (with_reducible refine Blk.drewN ?_)))).after hb
      have q1 := (show Blk _ (w.heap.size + 1) #[.int .i64 0, .int .i64 0, .int .i64 0, .int .i64 0] 193 from (by repeat' (first | (with_reducible assumption) | (refine Blk.new ?_; (first | (simp; done) | rfl); done) | (with_reducible refine Blk.alloc ?_) | (with_reducible refine Blk.drew ?_) | (with_reducible refine Blk.drewN ?_)))).after hb
      have q2 := (show Blk _ (w.heap.size + 1 + 1) #[.int .i64 (lo - p), .int .i64 (d)] 166 from (by repeat' (first | (with_reducible assumption) | (refine Blk.new ?_; (first | (simp; done) | rfl); done) | (with_reducible refine Blk.alloc ?_) | (with_reducible refine Blk.drew ?_) | (with_reducible refine Blk.drewN ?_)))).after hb
      have q3 := (show Blk _ (w.heap.size + 1 + 1 + 1) #[.int .i64 (hi - p), .int .i64 (d)] 166 from (by repeat' (first | (with_reducible assumption) | (refine Blk.new ?_; (first | (simp; done) | rfl); done) | (with_reducible refine Blk.alloc ?_) | (with_reducible refine Blk.drew ?_) | (with_reducible refine Blk.drewN ?_)))).after hb
      have hb' : Below w.heap.size w w1 := bl (by go_grown) hb
      clear hb
      obtain ⟨k0, k1, k2, k3, kf, kl⟩ := q0.four
      obtain ⟨n0, n1, n2, n3, nf, nl⟩ := q1.four
      obtain ⟨f0, f1, ff, fl⟩ := q2.two
      obtain ⟨l0, l1, lf, ll⟩ := q3.two
      go_wp2_with fail
      refine (above_any _ _ _ _ _ (by omega) (by omega) (by omega) (by omega) (by omega) (by omega) (by omega) (by omega)).mono ?_
      rintro r w2 ⟨rfl, hb⟩
      replace q0 := q0.after hb
      replace q1 := q1.after hb
      replace q3 := q3.after hb
      have hb2 : Below w.heap.size w w2 := bl (by go_grown) hb
      clear hb hb' k0 k1 k2 k3 kf kl n0 n1 n2 n3 nf nl f0 f1 ff fl l0 l1 lf ll q2
      skip
      obtain ⟨k0, k1, k2, k3, kf, kl⟩ := q0.four
      obtain ⟨n0, n1, n2, n3, nf, nl⟩ := q1.four
      obtain ⟨l0, l1, lf, ll⟩ := q3.two
      go_wp2_with fail
      replace q0 : Blk ((w2.setCell ⟨w.heap.size, 2, none⟩ (.int .i64 (hi - p))).setCell ⟨w.heap.size, 3, none⟩ (.int .i64 (d))) w.heap.size #[.int .i64 (a), .int .i64 (b), .int .i64 (hi - p), .int .i64 (d)] 193 := (q0.set 2 (.int .i64 (hi - p))).set 3 (.int .i64 (d))
      replace q1 := (q1.other (c := w.heap.size) 2 (.int .i64 (hi - p)) (by omega)).other (c := w.heap.size) 3 (.int .i64 (d)) (by omega)
      have hb3 : Below w.heap.size w ((w2.setCell ⟨w.heap.size, 2, none⟩ (.int .i64 (hi - p))).setCell ⟨w.heap.size, 3, none⟩ (.int .i64 (d))) := by go_grown
      clear hb2 k0 k1 k2 k3 kf kl n0 n1 n2 n3 nf nl l0 l1 lf ll q3
      generalize ((w2.setCell ⟨w.heap.size, 2, none⟩ (.int .i64 (hi - p))).setCell ⟨w.heap.size, 3, none⟩ (.int .i64 (d))) = W at q0 q1 hb3 ⊢
      obtain ⟨k0, k1, k2, k3, kf, kl⟩ := q0.four
      obtain ⟨n0, n1, n2, n3, nf, nl⟩ := q1.four
      obtain ⟨B, hB⟩ : ∃ B : Bool, decide ((hi - p) * (b) < (a) * (d)) = B := ⟨_, rfl⟩
      have HB : Hid (decide ((hi - p) * (b) < (a) * (d)) = B) := hB
      clear hB
      go_region_held3 (fun w' => w'.cell? ⟨w.heap.size, 0, none⟩ = some (.int .i64 (a)) ∧ w'.cell? ⟨w.heap.size, 1, none⟩ = some (.int .i64 (b)) ∧ w'.cell? ⟨w.heap.size, 2, none⟩ = some (.int .i64 (hi - p)) ∧ w'.cell? ⟨w.heap.size, 3, none⟩ = some (.int .i64 (d))) (go_keep) ((go_at_call 115; refine (above_is _ _ _ _ _ B HB (by omega) (by omega) (by omega) (by omega) (by omega) (by omega) (by omega) (by omega)).mono ?_; rintro r w3 ⟨rfl, hb⟩; obtain ⟨j0, j1, j2, j3, jf, jl⟩ := (show Blk _ w.heap.size #[.int .i64 (a), .int .i64 (b), .int .i64 (hi - p), .int .i64 (d)] 193 from (by repeat' (first | (with_reducible assumption) | (refine Blk.new ?_; (first | (simp; done) | rfl); done) | (with_reducible refine Blk.alloc ?_) | (with_reducible refine Blk.drew ?_) | (with_reducible refine Blk.drewN ?_)))).after hb |>.four; obtain ⟨m0, m1, m2, m3, mf, ml⟩ := (show Blk _ (w.heap.size + 1) #[.int .i64 0, .int .i64 0, .int .i64 0, .int .i64 0] 193 from (by repeat' (first | (with_reducible assumption) | (refine Blk.new ?_; (first | (simp; done) | rfl); done) | (with_reducible refine Blk.alloc ?_) | (with_reducible refine Blk.drew ?_) | (with_reducible refine Blk.drewN ?_)))).after hb |>.four; have hb4 : Below w.heap.size w w3 := bl (by go_grown) hb; clear hb))
      go_wp2
      have hN : M.Nar S (M.on1 p d lo hi) (a) (b) (hi - p) (d) (!B) := by
        rw [← HB.out]
        exact M.Nar.of ((H.out.first' (n := lo - p) (e := d) (by omega) (by omega)).last (l := hi - p) (e := d) (by omega) (by omega) (by omega) (by omega) (by omega)) (fun m k => by rw [M.on1_up]; exact and_assoc)
      clear t1 t2 H HB
      exact bodyPost_ret (v := .tuple #[.agg #[.int .i64 (a), .int .i64 (b), .int .i64 (hi - p), .int .i64 (d)], .bool (!B)]) (by simp [results, Tryz.results127, go_sem, m0, m1, m2, m3]) rfl (.mk hN (by go_grown))
    · go_enter Tryz.func127, Tryz.ntmps127
      go_wp2_with fail
      refine (above_any _ _ _ _ _ (by omega) (by omega) (by omega) (by omega) (by omega) (by omega) (by omega) (by omega)).mono ?_
      rintro r w1 ⟨rfl, hb⟩
      have q0 := (show Blk _ w.heap.size #[.int .i64 a, .int .i64 b, .int .i64 c, .int .i64 e] 193 from (by repeat' (first | (with_reducible assumption) | (refine Blk.new ?_; (first | (simp; done) | rfl); done) | (with_reducible refine Blk.alloc ?_) | (with_reducible refine Blk.drew ?_) | (with_reducible refine Blk.drewN ?_)))).after hb
      have q1 := (show Blk _ (w.heap.size + 1) #[.int .i64 0, .int .i64 0, .int .i64 0, .int .i64 0] 193 from (by repeat' (first | (with_reducible assumption) | (refine Blk.new ?_; (first | (simp; done) | rfl); done) | (with_reducible refine Blk.alloc ?_) | (with_reducible refine Blk.drew ?_) | (with_reducible refine Blk.drewN ?_)))).after hb
      have q2 := (show Blk _ (w.heap.size + 1 + 1) #[.int .i64 (lo - p), .int .i64 (d)] 166 from (by repeat' (first | (with_reducible assumption) | (refine Blk.new ?_; (first | (simp; done) | rfl); done) | (with_reducible refine Blk.alloc ?_) | (with_reducible refine Blk.drew ?_) | (with_reducible refine Blk.drewN ?_)))).after hb
      have q3 := (show Blk _ (w.heap.size + 1 + 1 + 1) #[.int .i64 (hi - p), .int .i64 (d)] 166 from (by repeat' (first | (with_reducible assumption) | (refine Blk.new ?_; (first | (simp; done) | rfl); done) | (with_reducible refine Blk.alloc ?_) | (with_reducible refine Blk.drew ?_) | (with_reducible refine Blk.drewN ?_)))).after hb
      have hb' : Below w.heap.size w w1 := bl (by go_grown) hb
      clear hb
      obtain ⟨k0, k1, k2, k3, kf, kl⟩ := q0.four
      obtain ⟨n0, n1, n2, n3, nf, nl⟩ := q1.four
      obtain ⟨f0, f1, ff, fl⟩ := q2.two
      obtain ⟨l0, l1, lf, ll⟩ := q3.two
      go_wp2_with fail
      refine (above_any _ _ _ _ _ (by omega) (by omega) (by omega) (by omega) (by omega) (by omega) (by omega) (by omega)).mono ?_
      rintro r w2 ⟨rfl, hb⟩
      replace q0 := q0.after hb
      replace q1 := q1.after hb
      replace q3 := q3.after hb
      have hb2 : Below w.heap.size w w2 := bl (by go_grown) hb
      clear hb hb' k0 k1 k2 k3 kf kl n0 n1 n2 n3 nf nl f0 f1 ff fl l0 l1 lf ll q2
      skip
      obtain ⟨k0, k1, k2, k3, kf, kl⟩ := q0.four
      obtain ⟨n0, n1, n2, n3, nf, nl⟩ := q1.four
      obtain ⟨l0, l1, lf, ll⟩ := q3.two
      go_wp2_with fail
      have hb3 := hb2
      clear hb2 k0 k1 k2 k3 kf kl n0 n1 n2 n3 nf nl l0 l1 lf ll q3
      generalize w2 = W at q0 q1 hb3 ⊢
      obtain ⟨k0, k1, k2, k3, kf, kl⟩ := q0.four
      obtain ⟨n0, n1, n2, n3, nf, nl⟩ := q1.four
      obtain ⟨B, hB⟩ : ∃ B : Bool, decide ((c) * (b) < (a) * (e)) = B := ⟨_, rfl⟩
      have HB : Hid (decide ((c) * (b) < (a) * (e)) = B) := hB
      clear hB
      go_region_held3 (fun w' => w'.cell? ⟨w.heap.size, 0, none⟩ = some (.int .i64 (a)) ∧ w'.cell? ⟨w.heap.size, 1, none⟩ = some (.int .i64 (b)) ∧ w'.cell? ⟨w.heap.size, 2, none⟩ = some (.int .i64 (c)) ∧ w'.cell? ⟨w.heap.size, 3, none⟩ = some (.int .i64 (e))) (go_keep) ((go_at_call 115; refine (above_is _ _ _ _ _ B HB (by omega) (by omega) (by omega) (by omega) (by omega) (by omega) (by omega) (by omega)).mono ?_; rintro r w3 ⟨rfl, hb⟩; obtain ⟨j0, j1, j2, j3, jf, jl⟩ := (show Blk _ w.heap.size #[.int .i64 (a), .int .i64 (b), .int .i64 (c), .int .i64 (e)] 193 from (by repeat' (first | (with_reducible assumption) | (refine Blk.new ?_; (first | (simp; done) | rfl); done) | (with_reducible refine Blk.alloc ?_) | (with_reducible refine Blk.drew ?_) | (with_reducible refine Blk.drewN ?_)))).after hb |>.four; obtain ⟨m0, m1, m2, m3, mf, ml⟩ := (show Blk _ (w.heap.size + 1) #[.int .i64 0, .int .i64 0, .int .i64 0, .int .i64 0] 193 from (by repeat' (first | (with_reducible assumption) | (refine Blk.new ?_; (first | (simp; done) | rfl); done) | (with_reducible refine Blk.alloc ?_) | (with_reducible refine Blk.drew ?_) | (with_reducible refine Blk.drewN ?_)))).after hb |>.four; have hb4 : Below w.heap.size w w3 := bl (by go_grown) hb; clear hb))
      go_wp2
      have hN : M.Nar S (M.on1 p d lo hi) (a) (b) (c) (e) (!B) := by
        rw [← HB.out]
        exact M.Nar.of ((H.out.first' (n := lo - p) (e := d) (by omega) (by omega)).last' (l := hi - p) (e := d) (by omega) (by omega)) (fun m k => by rw [M.on1_up]; exact and_assoc)
      clear t1 t2 H HB
      exact bodyPost_ret (v := .tuple #[.agg #[.int .i64 (a), .int .i64 (b), .int .i64 (c), .int .i64 (e)], .bool (!B)]) (by simp [results, Tryz.results127, go_sem, m0, m1, m2, m3]) rfl (.mk hN (by go_grown))

set_option maxHeartbeats 1000000 in
theorem narrow_down {S : Int → Int → Prop} (a b c e p d lo hi : Int) (w : World) (h : M.Sp S a b c e)
    (p1 : -1048576 ≤ p) (p2 : p ≤ 1048576) (d1 : d < 0) (d2 : -1048576 ≤ d) (lo1 : -1048576 ≤ lo) (lo2 : lo ≤ 1048576) (hi1 : -1048576 ≤ hi) (hi2 : hi ≤ 1048576) :
    Calls Tryz.prog 127 #[.agg #[.int .i64 a, .int .i64 b, .int .i64 c, .int .i64 e], .int .i64 p, .int .i64 d, .int .i64 lo, .int .i64 hi] w (NarPost S (M.on1 p d lo hi) w) := by
  have a0 := h.a0; have a1 := h.a1; have b1 := h.b1; have b2 := h.b2; have c1 := h.c1; have c2 := h.c2; have e1 := h.d1; have e2 := h.d2
  have H : Hid (M.Sp S a b c e) := h
  clear h
  have hd0 : (d == 0) = false := by simp; omega
  by_cases t1 : a * (-d) < (p - hi) * b
  · by_cases t2 : (p - lo) * e < c * (-d)
    · go_enter Tryz.func127, Tryz.ntmps127
      go_wp2_with fail
      refine (above_any _ _ _ _ _ (by omega) (by omega) (by omega) (by omega) (by omega) (by omega) (by omega) (by omega)).mono ?_
      rintro r w1 ⟨rfl, hb⟩
      have q0 := (show Blk _ w.heap.size #[.int .i64 a, .int .i64 b, .int .i64 c, .int .i64 e] 193 from (by repeat' (first | (with_reducible assumption) | (refine Blk.new ?_; (first | (simp; done) | rfl); done) | (with_reducible refine Blk.alloc ?_) | (with_reducible refine Blk.drew ?_) | (with_reducible refine Blk.drewN ?_)))).after hb
      have q1 := (show Blk _ (w.heap.size + 1) #[.int .i64 0, .int .i64 0, .int .i64 0, .int .i64 0] 193 from (by repeat' (first | (with_reducible assumption) | (refine Blk.new ?_; (first | (simp; done) | rfl); done) | (with_reducible refine Blk.alloc ?_) | (with_reducible refine Blk.drew ?_) | (with_reducible refine Blk.drewN ?_)))).after hb
      have q2 := (show Blk _ (w.heap.size + 1 + 1) #[.int .i64 (p - hi), .int .i64 (-d)] 166 from (by repeat' (first | (with_reducible assumption) | (refine Blk.new ?_; (first | (simp; done) | rfl); done) | (with_reducible refine Blk.alloc ?_) | (with_reducible refine Blk.drew ?_) | (with_reducible refine Blk.drewN ?_)))).after hb
      have q3 := (show Blk _ (w.heap.size + 1 + 1 + 1) #[.int .i64 (p - lo), .int .i64 (-d)] 166 from (by repeat' (first | (with_reducible assumption) | (refine Blk.new ?_; (first | (simp; done) | rfl); done) | (with_reducible refine Blk.alloc ?_) | (with_reducible refine Blk.drew ?_) | (with_reducible refine Blk.drewN ?_)))).after hb
      have hb' : Below w.heap.size w w1 := bl (by go_grown) hb
      clear hb
      obtain ⟨k0, k1, k2, k3, kf, kl⟩ := q0.four
      obtain ⟨n0, n1, n2, n3, nf, nl⟩ := q1.four
      obtain ⟨f0, f1, ff, fl⟩ := q2.two
      obtain ⟨l0, l1, lf, ll⟩ := q3.two
      go_wp2_with fail
      refine (above_any _ _ _ _ _ (by omega) (by omega) (by omega) (by omega) (by omega) (by omega) (by omega) (by omega)).mono ?_
      rintro r w2 ⟨rfl, hb⟩
      replace q0 : Blk w2 w.heap.size #[.int .i64 (p - hi), .int .i64 (-d), .int .i64 c, .int .i64 e] 193 := ((q0.set 0 (.int .i64 (p - hi))).set 1 (.int .i64 (-d))).after hb
      replace q1 := ((q1.other (c := w.heap.size) 0 (.int .i64 (p - hi)) (by omega)).other (c := w.heap.size) 1 (.int .i64 (-d)) (by omega)).after hb
      replace q3 := ((q3.other (c := w.heap.size) 0 (.int .i64 (p - hi)) (by omega)).other (c := w.heap.size) 1 (.int .i64 (-d)) (by omega)).after hb
      have hb2 : Below w.heap.size w w2 := bl (by go_grown) hb
      clear hb hb' k0 k1 k2 k3 kf kl n0 n1 n2 n3 nf nl f0 f1 ff fl l0 l1 lf ll q2
      skip
      obtain ⟨k0, k1, k2, k3, kf, kl⟩ := q0.four
      obtain ⟨n0, n1, n2, n3, nf, nl⟩ := q1.four
      obtain ⟨l0, l1, lf, ll⟩ := q3.two
      go_wp2_with fail
      replace q0 : Blk ((w2.setCell ⟨w.heap.size, 2, none⟩ (.int .i64 (p - lo))).setCell ⟨w.heap.size, 3, none⟩ (.int .i64 (-d))) w.heap.size #[.int .i64 (p - hi), .int .i64 (-d), .int .i64 (p - lo), .int .i64 (-d)] 193 := (q0.set 2 (.int .i64 (p - lo))).set 3 (.int .i64 (-d))
      replace q1 := (q1.other (c := w.heap.size) 2 (.int .i64 (p - lo)) (by omega)).other (c := w.heap.size) 3 (.int .i64 (-d)) (by omega)
      have hb3 : Below w.heap.size w ((w2.setCell ⟨w.heap.size, 2, none⟩ (.int .i64 (p - lo))).setCell ⟨w.heap.size, 3, none⟩ (.int .i64 (-d))) := by go_grown
      clear hb2 k0 k1 k2 k3 kf kl n0 n1 n2 n3 nf nl l0 l1 lf ll q3
      generalize ((w2.setCell ⟨w.heap.size, 2, none⟩ (.int .i64 (p - lo))).setCell ⟨w.heap.size, 3, none⟩ (.int .i64 (-d))) = W at q0 q1 hb3 ⊢
      obtain ⟨k0, k1, k2, k3, kf, kl⟩ := q0.four
      obtain ⟨n0, n1, n2, n3, nf, nl⟩ := q1.four
      obtain ⟨B, hB⟩ : ∃ B : Bool, decide ((p - lo) * (-d) < (p - hi) * (-d)) = B := ⟨_, rfl⟩
      have HB : Hid (decide ((p - lo) * (-d) < (p - hi) * (-d)) = B) := hB
      clear hB
      go_region_held3 (fun w' => w'.cell? ⟨w.heap.size, 0, none⟩ = some (.int .i64 (p - hi)) ∧ w'.cell? ⟨w.heap.size, 1, none⟩ = some (.int .i64 (-d)) ∧ w'.cell? ⟨w.heap.size, 2, none⟩ = some (.int .i64 (p - lo)) ∧ w'.cell? ⟨w.heap.size, 3, none⟩ = some (.int .i64 (-d))) (go_keep) ((go_at_call 115; refine (above_is _ _ _ _ _ B HB (by omega) (by omega) (by omega) (by omega) (by omega) (by omega) (by omega) (by omega)).mono ?_; rintro r w3 ⟨rfl, hb⟩; obtain ⟨j0, j1, j2, j3, jf, jl⟩ := (show Blk _ w.heap.size #[.int .i64 (p - hi), .int .i64 (-d), .int .i64 (p - lo), .int .i64 (-d)] 193 from (by repeat' (first | (with_reducible assumption) | (refine Blk.new ?_; (first | (simp; done) | rfl); done) | (with_reducible refine Blk.alloc ?_) | (with_reducible refine Blk.drew ?_) | (with_reducible refine Blk.drewN ?_)))).after hb |>.four; obtain ⟨m0, m1, m2, m3, mf, ml⟩ := (show Blk _ (w.heap.size + 1) #[.int .i64 0, .int .i64 0, .int .i64 0, .int .i64 0] 193 from (by repeat' (first | (with_reducible assumption) | (refine Blk.new ?_; (first | (simp; done) | rfl); done) | (with_reducible refine Blk.alloc ?_) | (with_reducible refine Blk.drew ?_) | (with_reducible refine Blk.drewN ?_)))).after hb |>.four; have hb4 : Below w.heap.size w w3 := bl (by go_grown) hb; clear hb))
      go_wp2
      have hN : M.Nar S (M.on1 p d lo hi) (p - hi) (-d) (p - lo) (-d) (!B) := by
        rw [← HB.out]
        exact M.Nar.of ((H.out.first (n := p - hi) (e := -d) (by omega) (by omega) (by omega) (by omega)).last (l := p - lo) (e := -d) (by omega) (by omega) (by omega) (by omega) (by omega)) (fun m k => by rw [M.on1_down]; exact and_assoc)
      clear t1 t2 H HB
      exact bodyPost_ret (v := .tuple #[.agg #[.int .i64 (p - hi), .int .i64 (-d), .int .i64 (p - lo), .int .i64 (-d)], .bool (!B)]) (by simp [results, Tryz.results127, go_sem, m0, m1, m2, m3]) rfl (.mk hN (by go_grown))
    · go_enter Tryz.func127, Tryz.ntmps127
      go_wp2_with fail
      refine (above_any _ _ _ _ _ (by omega) (by omega) (by omega) (by omega) (by omega) (by omega) (by omega) (by omega)).mono ?_
      rintro r w1 ⟨rfl, hb⟩
      have q0 := (show Blk _ w.heap.size #[.int .i64 a, .int .i64 b, .int .i64 c, .int .i64 e] 193 from (by repeat' (first | (with_reducible assumption) | (refine Blk.new ?_; (first | (simp; done) | rfl); done) | (with_reducible refine Blk.alloc ?_) | (with_reducible refine Blk.drew ?_) | (with_reducible refine Blk.drewN ?_)))).after hb
      have q1 := (show Blk _ (w.heap.size + 1) #[.int .i64 0, .int .i64 0, .int .i64 0, .int .i64 0] 193 from (by repeat' (first | (with_reducible assumption) | (refine Blk.new ?_; (first | (simp; done) | rfl); done) | (with_reducible refine Blk.alloc ?_) | (with_reducible refine Blk.drew ?_) | (with_reducible refine Blk.drewN ?_)))).after hb
      have q2 := (show Blk _ (w.heap.size + 1 + 1) #[.int .i64 (p - hi), .int .i64 (-d)] 166 from (by repeat' (first | (with_reducible assumption) | (refine Blk.new ?_; (first | (simp; done) | rfl); done) | (with_reducible refine Blk.alloc ?_) | (with_reducible refine Blk.drew ?_) | (with_reducible refine Blk.drewN ?_)))).after hb
      have q3 := (show Blk _ (w.heap.size + 1 + 1 + 1) #[.int .i64 (p - lo), .int .i64 (-d)] 166 from (by repeat' (first | (with_reducible assumption) | (refine Blk.new ?_; (first | (simp; done) | rfl); done) | (with_reducible refine Blk.alloc ?_) | (with_reducible refine Blk.drew ?_) | (with_reducible refine Blk.drewN ?_)))).after hb
      have hb' : Below w.heap.size w w1 := bl (by go_grown) hb
      clear hb
      obtain ⟨k0, k1, k2, k3, kf, kl⟩ := q0.four
      obtain ⟨n0, n1, n2, n3, nf, nl⟩ := q1.four
      obtain ⟨f0, f1, ff, fl⟩ := q2.two
      obtain ⟨l0, l1, lf, ll⟩ := q3.two
      go_wp2_with fail
      refine (above_any _ _ _ _ _ (by omega) (by omega) (by omega) (by omega) (by omega) (by omega) (by omega) (by omega)).mono ?_
      rintro r w2 ⟨rfl, hb⟩
      replace q0 : Blk w2 w.heap.size #[.int .i64 (p - hi), .int .i64 (-d), .int .i64 c, .int .i64 e] 193 := ((q0.set 0 (.int .i64 (p - hi))).set 1 (.int .i64 (-d))).after hb
      replace q1 := ((q1.other (c := w.heap.size) 0 (.int .i64 (p - hi)) (by omega)).other (c := w.heap.size) 1 (.int .i64 (-d)) (by omega)).after hb
      replace q3 := ((q3.other (c := w.heap.size) 0 (.int .i64 (p - hi)) (by omega)).other (c := w.heap.size) 1 (.int .i64 (-d)) (by omega)).after hb
      have hb2 : Below w.heap.size w w2 := bl (by go_grown) hb
      clear hb hb' k0 k1 k2 k3 kf kl n0 n1 n2 n3 nf nl f0 f1 ff fl l0 l1 lf ll q2
      skip
      obtain ⟨k0, k1, k2, k3, kf, kl⟩ := q0.four
      obtain ⟨n0, n1, n2, n3, nf, nl⟩ := q1.four
      obtain ⟨l0, l1, lf, ll⟩ := q3.two
      go_wp2_with fail
      have hb3 := hb2
      clear hb2 k0 k1 k2 k3 kf kl n0 n1 n2 n3 nf nl l0 l1 lf ll q3
      generalize w2 = W at q0 q1 hb3 ⊢
      obtain ⟨k0, k1, k2, k3, kf, kl⟩ := q0.four
      obtain ⟨n0, n1, n2, n3, nf, nl⟩ := q1.four
      obtain ⟨B, hB⟩ : ∃ B : Bool, decide ((c) * (-d) < (p - hi) * (e)) = B := ⟨_, rfl⟩
      have HB : Hid (decide ((c) * (-d) < (p - hi) * (e)) = B) := hB
      clear hB
      go_region_held3 (fun w' => w'.cell? ⟨w.heap.size, 0, none⟩ = some (.int .i64 (p - hi)) ∧ w'.cell? ⟨w.heap.size, 1, none⟩ = some (.int .i64 (-d)) ∧ w'.cell? ⟨w.heap.size, 2, none⟩ = some (.int .i64 (c)) ∧ w'.cell? ⟨w.heap.size, 3, none⟩ = some (.int .i64 (e))) (go_keep) ((go_at_call 115; refine (above_is _ _ _ _ _ B HB (by omega) (by omega) (by omega) (by omega) (by omega) (by omega) (by omega) (by omega)).mono ?_; rintro r w3 ⟨rfl, hb⟩; obtain ⟨j0, j1, j2, j3, jf, jl⟩ := (show Blk _ w.heap.size #[.int .i64 (p - hi), .int .i64 (-d), .int .i64 (c), .int .i64 (e)] 193 from (by repeat' (first | (with_reducible assumption) | (refine Blk.new ?_; (first | (simp; done) | rfl); done) | (with_reducible refine Blk.alloc ?_) | (with_reducible refine Blk.drew ?_) | (with_reducible refine Blk.drewN ?_)))).after hb |>.four; obtain ⟨m0, m1, m2, m3, mf, ml⟩ := (show Blk _ (w.heap.size + 1) #[.int .i64 0, .int .i64 0, .int .i64 0, .int .i64 0] 193 from (by repeat' (first | (with_reducible assumption) | (refine Blk.new ?_; (first | (simp; done) | rfl); done) | (with_reducible refine Blk.alloc ?_) | (with_reducible refine Blk.drew ?_) | (with_reducible refine Blk.drewN ?_)))).after hb |>.four; have hb4 : Below w.heap.size w w3 := bl (by go_grown) hb; clear hb))
      go_wp2
      have hN : M.Nar S (M.on1 p d lo hi) (p - hi) (-d) (c) (e) (!B) := by
        rw [← HB.out]
        exact M.Nar.of ((H.out.first (n := p - hi) (e := -d) (by omega) (by omega) (by omega) (by omega)).last' (l := p - lo) (e := -d) (by omega) (by omega)) (fun m k => by rw [M.on1_down]; exact and_assoc)
      clear t1 t2 H HB
      exact bodyPost_ret (v := .tuple #[.agg #[.int .i64 (p - hi), .int .i64 (-d), .int .i64 (c), .int .i64 (e)], .bool (!B)]) (by simp [results, Tryz.results127, go_sem, m0, m1, m2, m3]) rfl (.mk hN (by go_grown))
  · by_cases t2 : (p - lo) * e < c * (-d)
    · go_enter Tryz.func127, Tryz.ntmps127
      go_wp2_with fail
      refine (above_any _ _ _ _ _ (by omega) (by omega) (by omega) (by omega) (by omega) (by omega) (by omega) (by omega)).mono ?_
      rintro r w1 ⟨rfl, hb⟩
      have q0 := (show Blk _ w.heap.size #[.int .i64 a, .int .i64 b, .int .i64 c, .int .i64 e] 193 from (by repeat' (first | (with_reducible assumption) | (refine Blk.new ?_; (first | (simp; done) | rfl); done) | (with_reducible refine Blk.alloc ?_) | (with_reducible refine Blk.drew ?_) | (with_reducible refine Blk.drewN ?_)))).after hb
      have q1 := (show Blk _ (w.heap.size + 1) #[.int .i64 0, .int .i64 0, .int .i64 0, .int .i64 0] 193 from (by repeat' (first | (with_reducible assumption) | (refine Blk.new ?_; (first | (simp; done) | rfl); done) | (with_reducible refine Blk.alloc ?_) | (with_reducible refine Blk.drew ?_) | (with_reducible refine Blk.drewN ?_)))).after hb
      have q2 := (show Blk _ (w.heap.size + 1 + 1) #[.int .i64 (p - hi), .int .i64 (-d)] 166 from (by repeat' (first | (with_reducible assumption) | (refine Blk.new ?_; (first | (simp; done) | rfl); done) | (with_reducible refine Blk.alloc ?_) | (with_reducible refine Blk.drew ?_) | (with_reducible refine Blk.drewN ?_)))).after hb
      have q3 := (show Blk _ (w.heap.size + 1 + 1 + 1) #[.int .i64 (p - lo), .int .i64 (-d)] 166 from (by repeat' (first | (with_reducible assumption) | (refine Blk.new ?_; (first | (simp; done) | rfl); done) | (with_reducible refine Blk.alloc ?_) | (with_reducible refine Blk.drew ?_) | (with_reducible refine Blk.drewN ?_)))).after hb
      have hb' : Below w.heap.size w w1 := bl (by go_grown) hb
      clear hb
      obtain ⟨k0, k1, k2, k3, kf, kl⟩ := q0.four
      obtain ⟨n0, n1, n2, n3, nf, nl⟩ := q1.four
      obtain ⟨f0, f1, ff, fl⟩ := q2.two
      obtain ⟨l0, l1, lf, ll⟩ := q3.two
      go_wp2_with fail
      refine (above_any _ _ _ _ _ (by omega) (by omega) (by omega) (by omega) (by omega) (by omega) (by omega) (by omega)).mono ?_
      rintro r w2 ⟨rfl, hb⟩
      replace q0 := q0.after hb
      replace q1 := q1.after hb
      replace q3 := q3.after hb
      have hb2 : Below w.heap.size w w2 := bl (by go_grown) hb
      clear hb hb' k0 k1 k2 k3 kf kl n0 n1 n2 n3 nf nl f0 f1 ff fl l0 l1 lf ll q2
      skip
      obtain ⟨k0, k1, k2, k3, kf, kl⟩ := q0.four
      obtain ⟨n0, n1, n2, n3, nf, nl⟩ := q1.four
      obtain ⟨l0, l1, lf, ll⟩ := q3.two
      go_wp2_with fail
      replace q0 : Blk ((w2.setCell ⟨w.heap.size, 2, none⟩ (.int .i64 (p - lo))).setCell ⟨w.heap.size, 3, none⟩ (.int .i64 (-d))) w.heap.size #[.int .i64 (a), .int .i64 (b), .int .i64 (p - lo), .int .i64 (-d)] 193 := (q0.set 2 (.int .i64 (p - lo))).set 3 (.int .i64 (-d))
      replace q1 := (q1.other (c := w.heap.size) 2 (.int .i64 (p - lo)) (by omega)).other (c := w.heap.size) 3 (.int .i64 (-d)) (by omega)
      have hb3 : Below w.heap.size w ((w2.setCell ⟨w.heap.size, 2, none⟩ (.int .i64 (p - lo))).setCell ⟨w.heap.size, 3, none⟩ (.int .i64 (-d))) := by go_grown
      clear hb2 k0 k1 k2 k3 kf kl n0 n1 n2 n3 nf nl l0 l1 lf ll q3
      generalize ((w2.setCell ⟨w.heap.size, 2, none⟩ (.int .i64 (p - lo))).setCell ⟨w.heap.size, 3, none⟩ (.int .i64 (-d))) = W at q0 q1 hb3 ⊢
      obtain ⟨k0, k1, k2, k3, kf, kl⟩ := q0.four
      obtain ⟨n0, n1, n2, n3, nf, nl⟩ := q1.four
      obtain ⟨B, hB⟩ : ∃ B : Bool, decide ((p - lo) * (b) < (a) * (-d)) = B := ⟨_, rfl⟩
      have HB : Hid (decide ((p - lo) * (b) < (a) * (-d)) = B) := hB
      clear hB
      go_region_held3 (fun w' => w'.cell? ⟨w.heap.size, 0, none⟩ = some (.int .i64 (a)) ∧ w'.cell? ⟨w.heap.size, 1, none⟩ = some (.int .i64 (b)) ∧ w'.cell? ⟨w.heap.size, 2, none⟩ = some (.int .i64 (p - lo)) ∧ w'.cell? ⟨w.heap.size, 3, none⟩ = some (.int .i64 (-d))) (go_keep) ((go_at_call 115; refine (above_is _ _ _ _ _ B HB (by omega) (by omega) (by omega) (by omega) (by omega) (by omega) (by omega) (by omega)).mono ?_; rintro r w3 ⟨rfl, hb⟩; obtain ⟨j0, j1, j2, j3, jf, jl⟩ := (show Blk _ w.heap.size #[.int .i64 (a), .int .i64 (b), .int .i64 (p - lo), .int .i64 (-d)] 193 from (by repeat' (first | (with_reducible assumption) | (refine Blk.new ?_; (first | (simp; done) | rfl); done) | (with_reducible refine Blk.alloc ?_) | (with_reducible refine Blk.drew ?_) | (with_reducible refine Blk.drewN ?_)))).after hb |>.four; obtain ⟨m0, m1, m2, m3, mf, ml⟩ := (show Blk _ (w.heap.size + 1) #[.int .i64 0, .int .i64 0, .int .i64 0, .int .i64 0] 193 from (by repeat' (first | (with_reducible assumption) | (refine Blk.new ?_; (first | (simp; done) | rfl); done) | (with_reducible refine Blk.alloc ?_) | (with_reducible refine Blk.drew ?_) | (with_reducible refine Blk.drewN ?_)))).after hb |>.four; have hb4 : Below w.heap.size w w3 := bl (by go_grown) hb; clear hb))
      go_wp2
      have hN : M.Nar S (M.on1 p d lo hi) (a) (b) (p - lo) (-d) (!B) := by
        rw [← HB.out]
        exact M.Nar.of ((H.out.first' (n := p - hi) (e := -d) (by omega) (by omega)).last (l := p - lo) (e := -d) (by omega) (by omega) (by omega) (by omega) (by omega)) (fun m k => by rw [M.on1_down]; exact and_assoc)
      clear t1 t2 H HB
      exact bodyPost_ret (v := .tuple #[.agg #[.int .i64 (a), .int .i64 (b), .int .i64 (p - lo), .int .i64 (-d)], .bool (!B)]) (by simp [results, Tryz.results127, go_sem, m0, m1, m2, m3]) rfl (.mk hN (by go_grown))
    · go_enter Tryz.func127, Tryz.ntmps127
      go_wp2_with fail
      refine (above_any _ _ _ _ _ (by omega) (by omega) (by omega) (by omega) (by omega) (by omega) (by omega) (by omega)).mono ?_
      rintro r w1 ⟨rfl, hb⟩
      have q0 := (show Blk _ w.heap.size #[.int .i64 a, .int .i64 b, .int .i64 c, .int .i64 e] 193 from (by repeat' (first | (with_reducible assumption) | (refine Blk.new ?_; (first | (simp; done) | rfl); done) | (with_reducible refine Blk.alloc ?_) | (with_reducible refine Blk.drew ?_) | (with_reducible refine Blk.drewN ?_)))).after hb
      have q1 := (show Blk _ (w.heap.size + 1) #[.int .i64 0, .int .i64 0, .int .i64 0, .int .i64 0] 193 from (by repeat' (first | (with_reducible assumption) | (refine Blk.new ?_; (first | (simp; done) | rfl); done) | (with_reducible refine Blk.alloc ?_) | (with_reducible refine Blk.drew ?_) | (with_reducible refine Blk.drewN ?_)))).after hb
      have q2 := (show Blk _ (w.heap.size + 1 + 1) #[.int .i64 (p - hi), .int .i64 (-d)] 166 from (by repeat' (first | (with_reducible assumption) | (refine Blk.new ?_; (first | (simp; done) | rfl); done) | (with_reducible refine Blk.alloc ?_) | (with_reducible refine Blk.drew ?_) | (with_reducible refine Blk.drewN ?_)))).after hb
      have q3 := (show Blk _ (w.heap.size + 1 + 1 + 1) #[.int .i64 (p - lo), .int .i64 (-d)] 166 from (by repeat' (first | (with_reducible assumption) | (refine Blk.new ?_; (first | (simp; done) | rfl); done) | (with_reducible refine Blk.alloc ?_) | (with_reducible refine Blk.drew ?_) | (with_reducible refine Blk.drewN ?_)))).after hb
      have hb' : Below w.heap.size w w1 := bl (by go_grown) hb
      clear hb
      obtain ⟨k0, k1, k2, k3, kf, kl⟩ := q0.four
      obtain ⟨n0, n1, n2, n3, nf, nl⟩ := q1.four
      obtain ⟨f0, f1, ff, fl⟩ := q2.two
      obtain ⟨l0, l1, lf, ll⟩ := q3.two
      go_wp2_with fail
      refine (above_any _ _ _ _ _ (by omega) (by omega) (by omega) (by omega) (by omega) (by omega) (by omega) (by omega)).mono ?_
      rintro r w2 ⟨rfl, hb⟩
      replace q0 := q0.after hb
      replace q1 := q1.after hb
      replace q3 := q3.after hb
      have hb2 : Below w.heap.size w w2 := bl (by go_grown) hb
      clear hb hb' k0 k1 k2 k3 kf kl n0 n1 n2 n3 nf nl f0 f1 ff fl l0 l1 lf ll q2
      skip
      obtain ⟨k0, k1, k2, k3, kf, kl⟩ := q0.four
      obtain ⟨n0, n1, n2, n3, nf, nl⟩ := q1.four
      obtain ⟨l0, l1, lf, ll⟩ := q3.two
      go_wp2_with fail
      have hb3 := hb2
      clear hb2 k0 k1 k2 k3 kf kl n0 n1 n2 n3 nf nl l0 l1 lf ll q3
      generalize w2 = W at q0 q1 hb3 ⊢
      obtain ⟨k0, k1, k2, k3, kf, kl⟩ := q0.four
      obtain ⟨n0, n1, n2, n3, nf, nl⟩ := q1.four
      obtain ⟨B, hB⟩ : ∃ B : Bool, decide ((c) * (b) < (a) * (e)) = B := ⟨_, rfl⟩
      have HB : Hid (decide ((c) * (b) < (a) * (e)) = B) := hB
      clear hB
      go_region_held3 (fun w' => w'.cell? ⟨w.heap.size, 0, none⟩ = some (.int .i64 (a)) ∧ w'.cell? ⟨w.heap.size, 1, none⟩ = some (.int .i64 (b)) ∧ w'.cell? ⟨w.heap.size, 2, none⟩ = some (.int .i64 (c)) ∧ w'.cell? ⟨w.heap.size, 3, none⟩ = some (.int .i64 (e))) (go_keep) ((go_at_call 115; refine (above_is _ _ _ _ _ B HB (by omega) (by omega) (by omega) (by omega) (by omega) (by omega) (by omega) (by omega)).mono ?_; rintro r w3 ⟨rfl, hb⟩; obtain ⟨j0, j1, j2, j3, jf, jl⟩ := (show Blk _ w.heap.size #[.int .i64 (a), .int .i64 (b), .int .i64 (c), .int .i64 (e)] 193 from (by repeat' (first | (with_reducible assumption) | (refine Blk.new ?_; (first | (simp; done) | rfl); done) | (with_reducible refine Blk.alloc ?_) | (with_reducible refine Blk.drew ?_) | (with_reducible refine Blk.drewN ?_)))).after hb |>.four; obtain ⟨m0, m1, m2, m3, mf, ml⟩ := (show Blk _ (w.heap.size + 1) #[.int .i64 0, .int .i64 0, .int .i64 0, .int .i64 0] 193 from (by repeat' (first | (with_reducible assumption) | (refine Blk.new ?_; (first | (simp; done) | rfl); done) | (with_reducible refine Blk.alloc ?_) | (with_reducible refine Blk.drew ?_) | (with_reducible refine Blk.drewN ?_)))).after hb |>.four; have hb4 : Below w.heap.size w w3 := bl (by go_grown) hb; clear hb))
      go_wp2
      have hN : M.Nar S (M.on1 p d lo hi) (a) (b) (c) (e) (!B) := by
        rw [← HB.out]
        exact M.Nar.of ((H.out.first' (n := p - hi) (e := -d) (by omega) (by omega)).last' (l := p - lo) (e := -d) (by omega) (by omega)) (fun m k => by rw [M.on1_down]; exact and_assoc)
      clear t1 t2 H HB
      exact bodyPost_ret (v := .tuple #[.agg #[.int .i64 (a), .int .i64 (b), .int .i64 (c), .int .i64 (e)], .bool (!B)]) (by simp [results, Tryz.results127, go_sem, m0, m1, m2, m3]) rfl (.mk hN (by go_grown))

theorem narrow_any {S : Int → Int → Prop} (a b c e p d lo hi : Int) (w : World) (h : M.Sp S a b c e) (hs : a * e ≤ c * b)
    (p1 : -1048576 ≤ p) (p2 : p ≤ 1048576) (d1 : -1048576 ≤ d) (d2 : d ≤ 1048576) (lo1 : -1048576 ≤ lo) (lo2 : lo ≤ 1048576) (hi1 : -1048576 ≤ hi) (hi2 : hi ≤ 1048576) :
    Calls Tryz.prog 127 #[.agg #[.int .i64 a, .int .i64 b, .int .i64 c, .int .i64 e], .int .i64 p, .int .i64 d, .int .i64 lo, .int .i64 hi] w (NarPost S (M.on1 p d lo hi) w) := by
  by_cases h0 : d = 0
  · subst h0
    exact narrow_still a b c e p lo hi w h hs
  · by_cases h1 : d < 0
    · exact narrow_down a b c e p d lo hi w h p1 p2 h1 d1 lo1 lo2 hi1 hi2
    · exact narrow_up a b c e p d lo hi w h p1 p2 (by omega) d2 lo1 lo2 hi1 hi2

end Go.Proofs.YtonmihojfcjmjaaGreat
