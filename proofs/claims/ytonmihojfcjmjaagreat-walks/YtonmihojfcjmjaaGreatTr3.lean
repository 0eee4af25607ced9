import Derived.Test.YtonmihojfcjmjaaGreatTr1
import Derived.Test.YtonmihojfcjmjaaGreatTr2
import Derived.Test.YtonmihojfcjmjaaGreatBZb
import Derived.Deep.DrawnRows
/- Trace, the document's trace and Trace; the law Traces. -/
namespace Go.Proofs.YtonmihojfcjmjaaGreat
open Go.RowKit
set_option linter.unusedVariables false
attribute [local go_sem] cell_set_off cell_set_blk
attribute [local go_sem ↓] big65 big65'
attribute [local go_sem ↓] Go.wp_at_zero Go.wp_at_succ


/-- What trace gives back. -/
def RTrPost (p d : M.V3) (ls : List M.Lf) (w : World) (r : Ending) (w' : World) : Prop := ∃ (f : Bool) (n e : Int), r = .returned (.tuple #[.bool f, .int .i64 n, .int .i64 e]) ∧ M.EntG (M.US p d ls) f n e ∧ Below w.heap.size w w'

set_option maxRecDepth 100000 in
set_option maxHeartbeats 4000000 in
theorem rtrace_any (x : Option Addr) (n0 cap base : Nat) (ls : List M.Lf) (p d : M.V3) (w : World) (hown : w.ownsRow base 93 7 (.slice x n0 cap) ls.length (flat ls)) (hl : ls.length ≤ 512) (hp : p.Near) (hd : d.Near) (hc : ∀ l ∈ ls, l.lo.Cub ∧ l.hi.Cub ∧ -1 ≤ l.zone ∧ l.zone ≤ 7) :
    Calls Tryz.prog 82 #[.slice x n0 cap, .agg #[.int .i64 p.x, .int .i64 p.y, .int .i64 p.z], .agg #[.int .i64 d.x, .int .i64 d.y, .int .i64 d.z]] w (RTrPost p d ls w) := by
  have HO : Hid (w.ownsRow base 93 7 (.slice x n0 cap) ls.length (flat ls)) := hown
  have HC : Hid (∀ l ∈ ls, l.lo.Cub ∧ l.hi.Cub ∧ -1 ≤ l.zone ∧ l.zone ≤ 7) := hc
  clear hc
  rcases own_form hown rfl with ⟨rfl, rfl, rfl, rfl⟩ | ⟨g, rfl, rfl, hg⟩
  · have HE : Hid (M.EntG (M.US p d []) false 0 0) := M.US_nil
    clear hown HO hl hp hd HC
    go_enter Tryz.func82, Tryz.ntmps82
    go_wp2_with fail
    refine wp_loop_rounds 1 ?_
    rw [rounds_succ]
    go_wp2
    go_ret3
    exact ⟨false, 0, 0, rfl, HE.out, by go_grown⟩
  · clear hown
    go_enter Tryz.func82, Tryz.ntmps82
    go_wp2_with fail
    obtain ⟨W0, hW0⟩ : ∃ W0, ((w.alloc (.cells #[.int .i64 p.x, .int .i64 p.y, .int .i64 p.z] 27)).alloc (.cells #[.int .i64 d.x, .int .i64 d.y, .int .i64 d.z] 27)) = W0 := ⟨_, rfl⟩
    have q1 : Blk W0 w.heap.size #[.int .i64 p.x, .int .i64 p.y, .int .i64 p.z] 27 := by rw [← hW0]; exact (by repeat' (first | (with_reducible assumption) | (refine Blk.new ?_; (first | (simp; done) | rfl); done) | (with_reducible refine Blk.alloc ?_) | (with_reducible refine Blk.drew ?_) | (with_reducible refine Blk.drewN ?_)))
    have q2 : Blk W0 (w.heap.size + 1) #[.int .i64 d.x, .int .i64 d.y, .int .i64 d.z] 27 := by rw [← hW0]; exact (by repeat' (first | (with_reducible assumption) | (refine Blk.new ?_; (first | (simp; done) | rfl); done) | (with_reducible refine Blk.alloc ?_) | (with_reducible refine Blk.drew ?_) | (with_reducible refine Blk.drewN ?_)))
    have B0 : Below w.heap.size w W0 := by rw [← hW0]; go_grown
    have O0 : Hid (W0.ownsRow base 93 7 (.slice (some ⟨g, 0, none⟩) ls.length cap) ls.length (flat ls)) := own_of HO.out (fun k hk => B0.block k (own_lt HO.out hk))
    rw [hW0]
    clear hW0 HO
    have hg0 : g < W0.heap.size := by have := B0.size; omega
    go_loopg [9, 10, 11, 12] (ls.length + 1) (fun k u9 u10 u11 u12 wr => ∃ (j : Nat) (f : Bool) (n e : Int), u9 = .bool f ∧ u10 = .int .i64 n ∧ u11 = .int .i64 e ∧ u12 = .int .i64 j ∧ j ≤ ls.length ∧ k + j = ls.length + 1 ∧ Hid (M.EntG (M.US p d (ls.take j)) f n e) ∧ Below W0.heap.size W0 wr)
    case atStart => exact ⟨0, false, 0, 0, rfl, rfl, rfl, rfl, Nat.zero_le _, by omega, M.US_nil, Below.refl _ _⟩
    case round =>
      obtain ⟨j, f, n, e, rfl, rfl, rfl, rfl, hj, hk, hE, hB⟩ := hrel
      by_cases hlt : j < ls.length
      · obtain ⟨l, hl2⟩ : ∃ l, ls[j]? = some l := ⟨ls[j], List.getElem?_eq_getElem hlt⟩
        have O1 := own_of (W' := wr) O0.out (fun k hk => hB.block k (own_lt O0.out hk))
        obtain ⟨⟨k0, k1, k2, k3, k4, k5, k6⟩, hcap, hcm⟩ := own_leaf O1 hl2
        have HT : Hid (ls.take (j + 1) = ls.take j ++ [l]) := take_snoc hl2
        obtain ⟨cl1, cl2, cl3, cl4⟩ : l.lo.Cub ∧ l.hi.Cub ∧ -1 ≤ l.zone ∧ l.zone ≤ 7 := HC.out l (List.mem_of_getElem? hl2)
        have HL2 : Hid (ls[j]? = some l) := hl2
        unfold maxLen at hcm
        clear O1 hl2
        have j0 : (0 : Int) ≤ (j : Int) := by omega
        have j1 : (j : Int) < (ls.length : Int) := by omega
        have j2 : (ls.length : Int) ≤ 512 := by omega
        have hsz : W0.heap.size ≤ wr.heap.size := hB.size
        have hgl : g < wr.heap.size := by omega
        by_cases hz : l.zone = -1
        · have HZ : Hid (l.zone = -1) := hz
          have t1 : ¬ 0 ≤ l.zone := by omega
          clear hz
          obtain ⟨a0, a1, a2, af, al⟩ := (q1.after hB).three
          obtain ⟨b0, b1, b2, bf, bz⟩ := (q2.after hB).three
          go_wp2_with fail
          go_region_held3 (fun w' => w'.cell? ⟨g, j * 7, none⟩ = some (.int .i64 l.lo.x) ∧ w'.cell? ⟨g, j * 7 + 1, none⟩ = some (.int .i64 l.lo.y) ∧ w'.cell? ⟨g, j * 7 + 2, none⟩ = some (.int .i64 l.lo.z) ∧ w'.cell? ⟨g, j * 7 + 3, none⟩ = some (.int .i64 l.hi.x) ∧ w'.cell? ⟨g, j * 7 + 4, none⟩ = some (.int .i64 l.hi.y) ∧ w'.cell? ⟨g, j * 7 + 5, none⟩ = some (.int .i64 l.hi.z) ∧
              w'.cell? ⟨w.heap.size, 0, none⟩ = some (.int .i64 p.x) ∧ w'.cell? ⟨w.heap.size, 1, none⟩ = some (.int .i64 p.y) ∧ w'.cell? ⟨w.heap.size, 2, none⟩ = some (.int .i64 p.z) ∧ w'.cell? ⟨w.heap.size + 1, 0, none⟩ = some (.int .i64 d.x) ∧ w'.cell? ⟨w.heap.size + 1, 1, none⟩ = some (.int .i64 d.y) ∧ w'.cell? ⟨w.heap.size + 1, 2, none⟩ = some (.int .i64 d.z)) (go_keep)
            ((go_at_call 103; refine (renter_any p d l.lo l.hi _ hp hd cl1.near cl2.near).mono ?_; rintro rr w1 ⟨i, a, b, rfl, hE1, hb1⟩; have HE1 : Hid (M.EntG (M.lies p d l.lo l.hi) i a b) := hE1.toG; have B1 : Below W0.heap.size W0 w1 := bl (by go_grown) hb1; clear hb1 hE1; obtain ⟨⟨m0, m1, m2, m3, m4, m5, m6⟩, _, _⟩ := own_leaf (own_of (W' := w1) O0.out (fun k hk => B1.block k (own_lt O0.out hk))) HL2.out; obtain ⟨n1, n2, n3, nf, nl⟩ := (q1.after B1).three; obtain ⟨o1, o2, o3, of, ol⟩ := (q2.after B1).three))
          clear k0 k1 k2 k3 k4 k5 k6 a0 a1 a2 af al b0 b1 b2 bf bz m0 m1 m2 m3 m4 m5 m6 n1 n2 n3 nf nl o1 o2 o3 of ol
          cases i
          · have HX : Hid (M.EntG (M.US p d (ls.take (j + 1))) f n e) := by unfold Hid; rw [HT.out]; exact (hE.out.none HE1.out).congr (M.US_solid HZ.out)
            go_wp2
            go_roundg (gk - 1)
            case measure => omega
            case rel => exact ⟨j + 1, f, n, e, rfl, rfl, rfl, by go_num, hlt, by omega, HX, B1⟩
          · cases f
            · have HX : Hid (M.EntG (M.US p d (ls.take (j + 1))) true a b) := by unfold Hid; rw [HT.out]; exact (hE.out.new HE1.out).congr (M.US_solid HZ.out)
              go_wp2
              go_roundg (gk - 1)
              case measure => omega
              case rel => exact ⟨j + 1, true, a, b, rfl, rfl, rfl, by go_num, hlt, by omega, HX, B1⟩
            · obtain ⟨x1, x2, x3, x4, _, _⟩ := hE.out.yes rfl
              obtain ⟨y1, y2, y3, y4, _, _⟩ := HE1.out.yes rfl
              have v1 : wrap64 (a * e) = a * e := wrap_mul (by omega) (by omega) (by omega) (by omega)
              have v2 : wrap64 (n * b) = n * b := wrap_mul (by omega) (by omega) (by omega) (by omega)
              by_cases hx : a * e < n * b
              · have HX : Hid (M.EntG (M.US p d (ls.take (j + 1))) true a b) := by unfold Hid; rw [HT.out]; exact (hE.out.less HE1.out hx).congr (M.US_solid HZ.out)
                have v3 : decide (a * e < n * b) = true := by simpa using hx
                clear hx
                go_wp2
                go_roundg (gk - 1)
                case measure => omega
                case rel => exact ⟨j + 1, true, a, b, rfl, rfl, rfl, by go_num, hlt, by omega, HX, B1⟩
              · have HX : Hid (M.EntG (M.US p d (ls.take (j + 1))) true n e) := by unfold Hid; rw [HT.out]; exact (hE.out.more HE1.out hx).congr (M.US_solid HZ.out)
                have v3 : decide (a * e < n * b) = false := by simpa using hx
                clear hx
                go_wp2
                go_roundg (gk - 1)
                case measure => omega
                case rel => exact ⟨j + 1, true, n, e, rfl, rfl, rfl, by go_num, hlt, by omega, HX, B1⟩
        · have HX : Hid (M.EntG (M.US p d (ls.take (j + 1))) f n e) := by unfold Hid; rw [HT.out]; exact hE.out.congr (M.US_open hz)
          have t1 : 0 ≤ l.zone := by omega
          clear hz
          go_wp2
          go_roundg (gk - 1)
          case measure => omega
          case rel => exact ⟨j + 1, f, n, e, rfl, rfl, rfl, by go_num, hlt, by omega, HX, hB⟩
      · have HX : Hid (M.EntG (M.US p d ls) f n e) := by have := hE.out; rw [List.take_of_length_le (by omega)] at this; exact this
        have j1 : ¬ (j : Int) < (ls.length : Int) := by omega
        clear hE
        go_wp2
        go_ret3
        exact ⟨f, n, e, rfl, HX.out, bl B0 hB⟩

end Go.Proofs.YtonmihojfcjmjaaGreat
