/- Contracts: Read, Check. -/
import Derived.Test.YtllhecgjkonfbaaRd6
namespace Go.Proofs.Ytllhecgjkonfbaa
open Go.RowKit
set_option linter.unusedVariables false
attribute [local go_sem] cell_set_off cell_set_blk

/-- What Read gives back. -/
def ReadPost (s : ByteArray) (w : World) (r : Ending) (w' : World) : Prop := ∃ (e k : Int) (x : Option Addr) (n cap : Nat), r = .returned (.tuple #[.agg #[.slice x n cap], .int .i64 e, .int .i64 k]) ∧ M.errS s = (e, k) ∧
  (e = 0 → w'.ownsRow 0 93 7 (.slice x n cap) (M.top s).2.leaves.length (flat (M.top s).2.leaves)) ∧ Below w.heap.size w w'

theorem ReadPost.bad {s : ByteArray} {w w' : World} {e k : Int} {x : Option Addr} {n cap : Nat} (h : M.errS s = (e, k)) (he : e ≠ 0) (hb : Below w.heap.size w w') : ReadPost s w (.returned (.tuple #[.agg #[.slice x n cap], .int .i64 e, .int .i64 k])) w' :=
  ⟨e, k, x, n, cap, rfl, h, fun x => absurd x he, hb⟩
theorem errS_long {s : ByteArray} (h : 512 < s.size) : M.errS s = (2, 0) := by unfold M.errS; rw [if_pos h]
theorem errS_tree {s : ByteArray} (h : s.size ≤ 512) (h1 : (M.top s).1 = false) : M.errS s = (3, ((M.top s).2.place : Int)) := by unfold M.errS; rw [if_neg (by omega), if_pos h1]
theorem errS_pair {s : ByteArray} {k : Nat} (h : s.size ≤ 512) (h1 : (M.top s).1 = true) (h2 : M.pairsF s (s.size + 1) (M.top s).2.place = some k) : M.errS s = (3, (k : Int)) := by
  unfold M.errS; rw [if_neg (by omega), if_neg (by simp [h1]), h2]
theorem errS_none {s : ByteArray} (h : s.size ≤ 512) (h1 : (M.top s).1 = true) (h2 : M.pairsF s (s.size + 1) (M.top s).2.place = none) : M.errS s = if 0 ≤ (M.top s).2.wrong then (4, (M.top s).2.wrong) else (0, 0) := by
  unfold M.errS; rw [if_neg (by omega), if_neg (by simp [h1]), h2]

theorem Fr.toBelow {B R : Nat} {v v' : Value} {w W W' : World} (hw : Below B w W) (hB : B ≤ W.heap.size) (h : Fr R v W W' v') (hR : B ≤ R) (hv : ∀ g, v.ownBlock = some g → B ≤ g) : Below B w W' := by
  refine hw.trans ⟨h.os, h.tape, h.output, h.size, fun k hk => h.block k (by omega) (by omega) (fun e => ?_)⟩
  have := hv k e.symm
  omega

set_option maxHeartbeats 1000000 in
theorem read_long (s : ByteArray) (w : World) (h : 512 < s.size) (hm : s.size ≤ maxLen) : Calls Try.prog 31 #[.string s] w (ReadPost s w) := by
  have E : Hid (M.errS s = (2, 0)) := errS_long h
  have hc : decide ((512 : Int) < (s.size : Int)) = true := by simp; omega
  unfold maxLen at hm
  go_enter Try.func31, Try.ntmps31
  go_wp2
  exact bodyPost_ret (v := .tuple #[.agg #[.slice none 0 0], .int .i64 2, .int .i64 0]) (by simp [results, Try.results31, go_sem]) rfl (.bad E.out (by omega) (by go_grown))

set_option maxHeartbeats 1000000 in
theorem read_short (s : ByteArray) (w : World) (hs : s.size ≤ 512) : Calls Try.prog 31 #[.string s] w (ReadPost s w) := by
  have HI : Hid ((M.top s).2.Inv s) := M.top_inv s
  go_enter Try.func31, Try.ntmps31
  go_wp2_with fail
  refine (readMap_any (w.heap.size + 1) s (.slice none 0 0) _ ⟨by exact by repeat' (first | (with_reducible assumption) | (refine Blk.new ?_; (first | (simp; done) | rfl); done) | (with_reducible refine Blk.alloc ?_) | (with_reducible refine Blk.drew ?_) | (with_reducible refine Blk.drewN ?_)), ⟨rfl, .inl ⟨rfl, rfl⟩⟩, by simp [Value.ownBlock]⟩ hs).mono ?_
  rintro rr W ⟨b, k, v', rfl, H, F, hR⟩
  have q0 := (show Blk _ w.heap.size #[.slice none 0 0] 60 from (by repeat' (first | (with_reducible assumption) | (refine Blk.new ?_; (first | (simp; done) | rfl); done) | (with_reducible refine Blk.alloc ?_) | (with_reducible refine Blk.drew ?_) | (with_reducible refine Blk.drewN ?_)))).fr F (by omega) (by simp [Value.ownBlock])
  have hb : Below w.heap.size w W := F.toBelow (by go_grown) (by simp; omega) (by omega) (by simp [Value.ownBlock])
  have hvne : Hid (∀ g, v'.ownBlock = some g → g ≠ w.heap.size) := by
    intro g hg
    rcases F.row with e | ⟨x, e, hx⟩
    · rw [e] at hg; cases hg
    · rw [e] at hg
      have : x = g := by simpa using hg
      simp at hx
      omega
  have HR : Hid (MapR s b k) := hR
  clear F hR
  have c0 := q0.cell 0
  have cf := q0.frozen
  simp at c0
  obtain ⟨k0, k1, k2, k3, k4, kf, kl⟩ := H.blk.five
  cases b
  · have E : Hid (M.errS s = (3, (k : Int))) := by
      rcases HR.out with ⟨_, ⟨h1, rfl⟩ | ⟨h1, h2⟩⟩ | ⟨h, _⟩
      · exact errS_tree hs h1
      · exact errS_pair hs h1 h2
      · cases h
    clear HR
    simp only [M.St.goto] at k1 k2 k3
    clear H
    go_wp2
    go_region
    all_goals go_wp2
    all_goals exact bodyPost_ret (v := .tuple #[.agg #[.slice none 0 0], .int .i64 3, .int .i64 k]) (by simp [results, Try.results31, go_sem, c0]) rfl (.bad E.out (by omega) (by go_grown))
  · have E : Hid (M.errS s = if 0 ≤ (M.top s).2.wrong then (4, (M.top s).2.wrong) else (0, 0)) := by
      rcases HR.out with ⟨h, _⟩ | ⟨_, h1, h2⟩
      · cases h
      · exact errS_none hs h1 h2
    clear HR
    simp only [M.St.goto] at k1 k2 k3
    have hw := HI.out.w1
    have Hown := H.own
    clear H
    by_cases hz : 0 ≤ (M.top s).2.wrong
    · have E2 : Hid (M.errS s = (4, (M.top s).2.wrong)) := by unfold Hid; rw [E.out, if_pos hz]
      generalize (M.top s).2.wrong = x at *
      have hx : (x != -1) = true := by rw [bne_iff_ne]; omega
      clear E hw hz
      go_wp2
      go_region
      all_goals go_wp2
      all_goals exact bodyPost_ret (v := .tuple #[.agg #[.slice none 0 0], .int .i64 4, .int .i64 x]) (by simp [results, Try.results31, go_sem, c0]) rfl (.bad E2.out (by omega) (by go_grown))
    · have E2 : Hid (M.errS s = (0, 0)) := by unfold Hid; rw [E.out, if_neg hz]
      have hx : (M.top s).2.wrong = -1 := by omega
      rw [hx] at k3
      clear E hw hz hx
      have HO : Hid (W.ownsRow 0 93 7 v' (M.top s).2.leaves.length (flat (M.top s).2.leaves)) := Hown
      clear Hown
      obtain ⟨x, n, cap, rfl⟩ : ∃ x n cap, v' = .slice x n cap := by
        rcases HO.out.2 with ⟨e, _⟩ | ⟨g, cap, _, e, _⟩
        · exact ⟨_, _, _, e⟩
        · exact ⟨_, _, _, e⟩
      go_wp2
      exact bodyPost_ret (v := .tuple #[.agg #[.slice x n cap], .int .i64 0, .int .i64 0]) (by simp [results, Try.results31, go_sem, c0]) rfl ⟨0, 0, x, n, cap, rfl, E2.out, fun _ => own_of HO.out (fun g hg => Below.heap_setCell _ _ _ _ (hvne.out g hg)), by go_grown⟩

theorem read_any (s : ByteArray) (w : World) (hm : s.size ≤ maxLen) : Calls Try.prog 31 #[.string s] w (ReadPost s w) := by
  by_cases h : 512 < s.size
  · exact read_long s w h hm
  · exact read_short s w (by omega)

/-- What Check gives back. -/
def CheckPost (s : ByteArray) (w : World) (r : Ending) (w' : World) : Prop := ∃ e k : Int, r = .returned (.tuple #[.int .i64 e, .int .i64 k]) ∧ M.errS s = (e, k) ∧ Below w.heap.size w w'

set_option maxHeartbeats 1000000 in
theorem check_any (s : ByteArray) (w : World) (hm : s.size ≤ maxLen) : Calls Try.prog 11 #[.string s] w (CheckPost s w) := by
  go_enter Try.func11, Try.ntmps11
  go_wp2_with fail
  refine (read_any s _ hm).mono ?_
  rintro rr W ⟨e, k, x, n, cap, rfl, hE, _, hb⟩
  have E : Hid (M.errS s = (e, k)) := hE
  clear hE
  have hz := hb.size
  go_wp2
  go_ret2
  exact ⟨e, k, rfl, E.out, by go_grown⟩

end Go.Proofs.Ytllhecgjkonfbaa
