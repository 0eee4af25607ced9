import Derived.Test.YtonmihojfcjmjaaGreatBM
import Derived.Test.YtonmihojfcjmjaaGreatZn1
import Derived.Test.YtonmihojfcjmjaaGreatBox
/- Contracts: Map.Trace, Trace. -/
namespace Go.Proofs.YtonmihojfcjmjaaGreat
open Go.RowKit
set_option linter.unusedVariables false
attribute [local go_sem] cell_set_off cell_set_blk

theorem M.V3.Cub.near {p : M.V3} (h : p.Cub) : p.Near := by
  have := h.x1; have := h.x2; have := h.y1; have := h.y2; have := h.z1; have := h.z2
  exact ⟨by omega, by omega, by omega, by omega, by omega, by omega⟩
theorem take_snoc {ls : List M.Lf} {j : Nat} {l : M.Lf} (h : ls[j]? = some l) : ls.take (j + 1) = ls.take j ++ [l] := by
  obtain ⟨h1, h2⟩ := List.getElem?_eq_some_iff.1 h
  rw [List.take_succ_eq_append_getElem h1, h2]

/-- What Map.Trace gives back. -/
def MTrPost (p d : M.V3) (ls : List M.Lf) (w : World) (r : Ending) (w' : World) : Prop := ∃ (f : Bool) (n e : Int), r = .returned (.tuple #[.bool f, .agg #[.int .i64 n, .int .i64 e]]) ∧ M.EntG (M.US p d ls) f n e ∧ Below w.heap.size w w'
theorem MTrPost.mk {p d : M.V3} {ls : List M.Lf} {w w' : World} {f : Bool} {n e : Int} (h : M.EntG (M.US p d ls) f n e) (hb : Below w.heap.size w w') : MTrPost p d ls w (.returned (.tuple #[.bool f, .agg #[.int .i64 n, .int .i64 e]])) w' := ⟨f, n, e, rfl, h, hb⟩

set_option maxRecDepth 100000 in
set_option maxHeartbeats 4000000 in
theorem mapTrace_any (cs : Array Value) (x : Option Addr) (n0 cap base : Nat) (ls : List M.Lf) (p d : M.V3) (w : World) (hcs : cs[0]? = some (.slice x n0 cap)) (hown : w.ownsRow base 137 7 (.slice x n0 cap) ls.length (flat ls)) (hl : ls.length ≤ 512) (hp : p.Near) (hd : d.Near) (hc : ∀ l ∈ ls, l.lo.Cub ∧ l.hi.Cub) :
    Calls Tryz.prog 110 #[.agg cs, .agg #[.int .i64 p.x, .int .i64 p.y, .int .i64 p.z], .agg #[.int .i64 d.x, .int .i64 d.y, .int .i64 d.z]] w (MTrPost p d ls w) := by
  have HO : Hid (w.ownsRow base 137 7 (.slice x n0 cap) ls.length (flat ls)) := hown
  have HC : Hid (∀ l ∈ ls, l.lo.Cub ∧ l.hi.Cub) := hc
  clear hc
  rcases own_form hown rfl with ⟨rfl, rfl, rfl, rfl⟩ | ⟨g, rfl, rfl, hg⟩
  · have HE : Hid (M.EntG (M.US p d []) false 0 0) := M.US_nil
    clear hown HO hl hp hd HC
    go_enter Tryz.func110, Tryz.ntmps110
    go_wp2_with fail
    refine wp_loop_rounds 1 ?_
    rw [rounds_succ]
    go_wp2
    go_region
    all_goals go_wp2
    all_goals exact bodyPost_ret (v := .tuple #[.bool false, .agg #[.int .i64 0, .int .i64 0]]) (by simp [results, Tryz.results110, go_sem]) rfl (.mk HE.out (by go_grown))
  · clear hown
    go_enter Tryz.func110, Tryz.ntmps110
    go_wp2_with fail
    obtain ⟨W0, hW0⟩ : ∃ W0, (((((w.alloc (.cells cs 46)).alloc (.cells #[.int .i64 p.x, .int .i64 p.y, .int .i64 p.z] 27)).alloc (.cells #[.int .i64 d.x, .int .i64 d.y, .int .i64 d.z] 27)).alloc (.cells #[.int .i64 0, .int .i64 0] 166)).alloc (.cells #[.int .i64 0, .int .i64 0] 166)) = W0 := ⟨_, rfl⟩
    have q1 : Blk W0 (w.heap.size + 1) #[.int .i64 p.x, .int .i64 p.y, .int .i64 p.z] 27 := by rw [← hW0]; exact (by repeat' (first | (with_reducible assumption) | (refine Blk.new ?_; (first | (simp; done) | rfl); done) | (with_reducible refine Blk.alloc ?_) | (with_reducible refine Blk.drew ?_) | (with_reducible refine Blk.drewN ?_)))
    have q2 : Blk W0 (w.heap.size + 1 + 1) #[.int .i64 d.x, .int .i64 d.y, .int .i64 d.z] 27 := by rw [← hW0]; exact (by repeat' (first | (with_reducible assumption) | (refine Blk.new ?_; (first | (simp; done) | rfl); done) | (with_reducible refine Blk.alloc ?_) | (with_reducible refine Blk.drew ?_) | (with_reducible refine Blk.drewN ?_)))
    have q3 : Blk W0 (w.heap.size + 1 + 1 + 1) #[.int .i64 0, .int .i64 0] 166 := by rw [← hW0]; exact (by repeat' (first | (with_reducible assumption) | (refine Blk.new ?_; (first | (simp; done) | rfl); done) | (with_reducible refine Blk.alloc ?_) | (with_reducible refine Blk.drew ?_) | (with_reducible refine Blk.drewN ?_)))
    have q4 : Blk W0 (w.heap.size + 1 + 1 + 1 + 1) #[.int .i64 0, .int .i64 0] 166 := by rw [← hW0]; exact (by repeat' (first | (with_reducible assumption) | (refine Blk.new ?_; (first | (simp; done) | rfl); done) | (with_reducible refine Blk.alloc ?_) | (with_reducible refine Blk.drew ?_) | (with_reducible refine Blk.drewN ?_)))
    have B0 : Below w.heap.size w W0 := by rw [← hW0]; go_grown
    have O0 : Hid (W0.ownsRow base 137 7 (.slice (some ⟨g, 0, none⟩) ls.length cap) ls.length (flat ls)) := own_of HO.out (fun k hk => B0.block k (own_lt HO.out hk))
    rw [hW0]
    clear hW0 HO
    obtain ⟨Fb, hFb⟩ : ∃ Fb, w.heap.size + 1 + 1 + 1 + 1 = Fb := ⟨_, rfl⟩
    rw [hFb] at q4
    have f1 : w.heap.size + 1 < Fb := by omega
    have f2 : w.heap.size + 1 + 1 < Fb := by omega
    have f3 : w.heap.size + 1 + 1 + 1 < Fb := by omega
    have f4 : w.heap.size ≤ Fb := by omega
    have f5 : w.heap.size + 1 + 1 + 1 ≠ Fb := by omega
    rw [hFb]
    clear hFb
    have hg0 : g < Fb := by omega
    go_loopg [8, 18] (ls.length + 1) (fun k u8 u18 wr => ∃ (j : Nat) (f : Bool) (n e : Int), u8 = .bool f ∧ u18 = .int .i64 j ∧ j ≤ ls.length ∧ k + j = ls.length + 1 ∧ Hid (M.EntG (M.US p d (ls.take j)) f n e) ∧ Blk wr Fb #[.int .i64 n, .int .i64 e] 166 ∧ Below Fb W0 wr)
    case atStart => exact ⟨0, false, 0, 0, rfl, rfl, Nat.zero_le _, by omega, M.US_nil, q4, Below.refl _ _⟩
    case round =>
      obtain ⟨j, f, n, e, rfl, rfl, hj, hk, hE, qf, hB⟩ := hrel
      have hFl := qf.lt
      by_cases hlt : j < ls.length
      · obtain ⟨l, hl2⟩ : ∃ l, ls[j]? = some l := ⟨ls[j], List.getElem?_eq_getElem hlt⟩
        have O1 := own_of (W' := wr) O0.out (fun k hk => hB.block k ((show g = k from by simpa [Value.ownBlock] using hk) ▸ hg0))
        obtain ⟨⟨k0, k1, k2, k3, k4, k5, k6⟩, hcap, hcm⟩ := own_leaf O1 hl2
        have HT : Hid (ls.take (j + 1) = ls.take j ++ [l]) := take_snoc hl2
        have hcl : l.lo.Cub ∧ l.hi.Cub := HC.out l (List.mem_of_getElem? hl2)
        obtain ⟨cl1, cl2⟩ := hcl
        unfold maxLen at hcm
        clear O1 hl2
        have j0 : (0 : Int) ≤ (j : Int) := by omega
        have j1 : (j : Int) < (ls.length : Int) := by omega
        have j2 : (ls.length : Int) ≤ 512 := by omega
        by_cases hz : l.zone = -1
        · have HZ : Hid (l.zone = -1) := hz
          have t1 : (l.zone != -1) = false := by simp [hz]
          clear hz
          obtain ⟨a0, a1, a2, af, al⟩ := (q1.below hB f1).three
          obtain ⟨b0, b1, b2, bf, bz⟩ := (q2.below hB f2).three
          go_wp2_with fail
          refine (boxEnter_any p d l.lo l.hi _ hp hd cl1.near cl2.near).mono ?_
          rintro rr w1 ⟨i, a, b, rfl, hE1, hb1⟩
          have HE1 : Hid (M.EntG (M.lies p d l.lo l.hi) i a b) := hE1.toG
          replace qf := qf.alloc.after hb1
          have B1 : Below Fb W0 w1 := (hB.alloc (by omega) _).trans (hb1.mono (by simp; omega))
          clear hb1 hE1 k0 k1 k2 k3 k4 k5 k6 a0 a1 a2 af al b0 b1 b2 bf bz
          have hFl1 := qf.lt
          obtain ⟨c0, c1, cf, cz⟩ := qf.two
          cases i
          · go_wp2
            go_roundg (gk - 1)
            case measure => omega
            case rel => exact ⟨j + 1, f, n, e, rfl, by go_num, hlt, by omega, by unfold Hid; rw [HT.out]; exact (hE.out.none HE1.out).congr (M.US_solid HZ.out), qf.alloc, by go_grown⟩
          · cases f
            · go_wp2
              go_roundg (gk - 1)
              case measure => omega
              case rel => exact ⟨j + 1, true, a, b, rfl, by go_num, hlt, by omega, by unfold Hid; rw [HT.out]; exact (hE.out.new HE1.out).congr (M.US_solid HZ.out), (qf.set 0 (.int .i64 a)).set 1 (.int .i64 b) |>.alloc, by go_grown⟩
            · obtain ⟨x1, x2, x3, x4, _, _⟩ := hE.out.yes rfl
              obtain ⟨y1, y2, y3, y4, _, _⟩ := HE1.out.yes rfl
              obtain ⟨B, hBB⟩ : ∃ B : Bool, decide (a * e < n * b) = B := ⟨_, rfl⟩
              have HB : Hid (decide (a * e < n * b) = B) := hBB
              clear hBB
              go_wp2_with fail
              refine (above_is n e a b _ B HB (by omega) (by omega) (by omega) (by omega) (by omega) (by omega) (by omega) (by omega)).mono ?_
              rintro rr w2 ⟨rfl, hb2⟩
              have qt := (show Blk (w1.alloc (.cells #[.int .i64 a, .int .i64 b] 166)) w1.heap.size #[.int .i64 a, .int .i64 b] 166 from Blk.new rfl).after hb2
              have qf2 := qf.alloc.after hb2
              have B2 : Below Fb W0 w2 := (B1.alloc (by omega) _).trans (hb2.mono (by simp; omega))
              clear hb2 c0 c1 cf cz
              obtain ⟨c0, c1, cf, cz⟩ := qf2.two
              obtain ⟨d0, d1, df, dz⟩ := qt.two
              cases B
              · have hx : ¬ a * e < n * b := by have := HB.out; simpa using this
                have HX : Hid (M.EntG (M.US p d (ls.take (j + 1))) true n e) := by unfold Hid; rw [HT.out]; exact (hE.out.more HE1.out hx).congr (M.US_solid HZ.out)
                clear hx HB
                go_wp2
                go_roundg (gk - 1)
                case measure => omega
                case rel => exact ⟨j + 1, true, n, e, rfl, by go_num, hlt, by omega, HX, qf2, B2⟩
              · have hx : a * e < n * b := by have := HB.out; simpa using this
                have HX : Hid (M.EntG (M.US p d (ls.take (j + 1))) true a b) := by unfold Hid; rw [HT.out]; exact (hE.out.less HE1.out hx).congr (M.US_solid HZ.out)
                clear hx HB
                go_wp2
                go_roundg (gk - 1)
                case measure => omega
                case rel => exact ⟨j + 1, true, a, b, rfl, by go_num, hlt, by omega, HX, (qf2.set 0 (.int .i64 a)).set 1 (.int .i64 b), by go_grown⟩
        · have HX : Hid (M.EntG (M.US p d (ls.take (j + 1))) f n e) := by unfold Hid; rw [HT.out]; exact hE.out.congr (M.US_open hz)
          have t1 : (l.zone != -1) = true := by simp [hz]
          clear hz
          go_wp2
          go_roundg (gk - 1)
          case measure => omega
          case rel => exact ⟨j + 1, f, n, e, rfl, by go_num, hlt, by omega, HX, qf.alloc, by go_grown⟩
      · have HX : Hid (M.EntG (M.US p d ls) f n e) := by have := hE.out; rw [List.take_of_length_le (by omega)] at this; exact this
        have j1 : ¬ (j : Int) < (ls.length : Int) := by omega
        obtain ⟨c0, c1, cf, cz⟩ := qf.two
        obtain ⟨d0, d1, df, dz⟩ := (q3.below hB f3).two
        have B9 : Below w.heap.size w wr := B0.trans (hB.mono f4)
        clear hE
        go_wp2
        go_region
        all_goals go_wp2
        all_goals exact bodyPost_ret (v := .tuple #[.bool f, .agg #[.int .i64 n, .int .i64 e]]) (by simp [results, Tryz.results110, go_sem, *]) rfl (.mk HX.out (by go_grown))

end Go.Proofs.YtonmihojfcjmjaaGreat
