import Derived.Test.YtonmihojfcjmjaaGreatBDa
import Derived.Test.YtonmihojfcjmjaaGreatGr8
import Derived.Test.YtonmihojfcjmjaaGreatTr3
import Derived.Test.YtonmihojfcjmjaaGreatBSi
/- Contracts of the document's shots: shot. -/
namespace Go.Proofs.YtonmihojfcjmjaaGreat
open Go.RowKit
set_option linter.unusedVariables false
attribute [local go_sem] cell_set_off cell_set_blk

namespace M
/-- A game's numbers are such that it can be played on. -/
structure Game.Fit (g : Game) : Prop where
  t0 : 0 ≤ g.tick
  t1 : g.tick ≤ 3000
  s : ∀ j, j < 8 → Sane (g.seat j)
  d : ∀ j, j < 8 → (g.seat j).here = true → (g.seat j).live = false → -8 ≤ (g.seat j).died ∧ (g.seat j).died ≤ 3000
  lo : ∀ tr ∈ g.log, Ok ⟨tr.tick, tr.pos⟩
  ln : g.log.length ≤ 24000
  up : ∀ j, j < 8 → (g.seat j).live = true → ∀ r s, (g.recs j)[0]? = some r → (g.recs j)[1]? = some s → r.tick < s.tick
  lc : ∀ l ∈ g.leafs, l.lo.Cub ∧ l.hi.Cub ∧ -1 ≤ l.zone ∧ l.zone ≤ 7
  ll : g.leafs.length ≤ 512
theorem InC.inB {p : V3} (h : InC p) : InB cubeLo cubeHi p := ⟨h.x1, h.x2, h.y1, h.y2, h.z1, h.z2⟩
theorem InC.near {p : V3} (h : InC p) : p.Near := by
  obtain ⟨a1, a2, a3, a4, a5, a6⟩ := h
  constructor <;> omega
theorem Game.stood_in {g : Game} (h : g.Fit) {j : Nat} (hj : j < 8) (t : Int) : InB cubeLo cubeHi (g.stood j t) := by
  unfold Game.stood
  split
  · exact (h.s j hj).p.inB
  · rename_i e
    refine pose_in (fun r hr => ?_) ?_ t
    · unfold Game.recs recsOf at hr
      obtain ⟨tr, h1, rfl⟩ := List.mem_map.1 hr
      exact h.lo tr (List.mem_filter.1 h1).1
    · cases hr : g.recs j with
      | nil => rw [hr] at e; exact absurd rfl e
      | cons a l => simp
theorem way_near {a : V3} (h : Small a) : (wayP a).Near := by
  obtain ⟨a1, a2, a3, a4, a5, a6⟩ := h
  unfold wayP
  constructor <;> (simp only; omega)
/-- Whom the search has found so far. -/
def Vic (g : Game) (i : Nat) (p d : V3) (t : Int) (j : Nat) (v n e x : Int) : Prop :=
  ((g.victim i p d t j).2 = Option.none ∧ v = -1 ∧ n = 0 ∧ e = 0 ∧ x = 0) ∨ (∃ k : Nat, g.victim i p d t j = (k, some (n, e, x)) ∧ v = (k : Int) ∧ k < 8 ∧ (x = 25 ∨ x = 60))
theorem Vic.skip {g : Game} {i : Nat} {p d : V3} {t : Int} {j : Nat} {v n e x : Int} (h : Vic g i p d t j v n e x) (hs : j = i ∨ ((g.seat j).here && (g.seat j).live) = false) : Vic g i p d t (j + 1) v n e x := by
  have eq : g.victim i p d t (j + 1) = g.victim i p d t j := by
    rw [Game.victim_succ]; unfold lookR; rw [if_pos hs]
  unfold Vic at h ⊢; rw [eq]; exact h
theorem Vic.no {g : Game} {i : Nat} {p d : V3} {t : Int} {j : Nat} {v n e x : Int} (h : Vic g i p d t j v n e x) {H : Hit} (hH : hitAt p d (g.stood j t) = H) (hs : ¬ (reachH (entO (US p d g.leafs)) H = true ∧ Hit.ahead H (g.victim i p d t j).2 = true)) : Vic g i p d t (j + 1) v n e x := by
  have eq : g.victim i p d t (j + 1) = g.victim i p d t j := by
    rw [Game.victim_succ]
    unfold lookR
    simp only [hH]
    by_cases h1 : j = i ∨ ((g.seat j).here && (g.seat j).live) = false
    · rw [if_pos h1]
    · rw [if_neg h1, if_neg hs]
  unfold Vic at h ⊢; rw [eq]; exact h
theorem Vic.yes {g : Game} {i : Nat} {p d : V3} {t : Int} {j : Nat} (hj : j < 8) {m f y : Int} (hH : hitAt p d (g.stood j t) = some (m, f, y)) (hy : y = 25 ∨ y = 60) (h1 : ¬ (j = i ∨ ((g.seat j).here && (g.seat j).live) = false)) (hs : reachH (entO (US p d g.leafs)) (some (m, f, y)) = true ∧ Hit.ahead (some (m, f, y)) (g.victim i p d t j).2 = true) : Vic g i p d t (j + 1) j m f y := by
  have eq : g.victim i p d t (j + 1) = (j, some (m, f, y)) := by
    rw [Game.victim_succ]
    unfold lookR
    simp only [hH]
    rw [if_neg h1, if_pos hs]
  exact .inr ⟨j, eq, rfl, hj, hy⟩
end M

/-- What shot leaves. -/
def ShotPost (b : Nat) (m lv gv : Value) (g : M.Game) (wv : Nat → Value) (w : World) (e : Ending) (w' : World) : Prop :=
  e = .returned (.tuple #[]) ∧ Gc w' b m lv (.int .i64 g.tick) gv (fun i => seatV (g.seat i) (wv i)) ∧ On b w w'

set_option maxRecDepth 100000 in
set_option maxHeartbeats 4000000 in
theorem gShot_no (b i : Nat) (m lv gv : Value) (g : M.Game) (wv : Nat → Value) (c : M.Cmd) (w : World) (hi : i < 8) (h : Gc w b m lv (.int .i64 g.tick) gv (fun i => seatV (g.seat i) (wv i))) (hwv : ∀ i, ∃ x n c, wv i = .slice x n c) (hf : g.Fit) (hc : g.mayShoot i = false) :
    Calls Tryz.prog 64 #[.pointer (some ⟨b, 0, none⟩), .int .i64 i, .agg #[.int .i64 c.seq, .bool c.fire, .int .i64 c.mv.x, .int .i64 c.mv.y, .int .i64 c.mv.z, .int .i64 c.aim.x, .int .i64 c.aim.y, .int .i64 c.aim.z, .int .i64 c.time]] w (ShotPost b m lv gv g wv w) := by
  have HG := hid h
  obtain ⟨c0, c1, c2, c3, c4, c5, c6, c7, c8, c9, c10, c11, c12, c13, c14⟩ := h.seat hi (fun k _ => rfl)
  have ct := h.ct
  have hb := h.lt
  have i0 : (0 : Int) ≤ (i : Int) := by omega
  have i1 : (i : Int) < 8 := by omega
  obtain ⟨xs, ns, cs, hv⟩ := hwv i
  rw [hv] at c14
  have hc := hc
  unfold M.Game.mayShoot at hc
  have sn := hf.s i hi
  have t0 := hf.t0
  have t1 := hf.t1
  generalize g.seat i = s at *
  obtain ⟨g1, g2, h1, h2, a1, a2, s1, s2, p1⟩ := sn
  clear h hwv hv hf p1
  cases el : s.live
  · rw [el] at c1
    clear hc el
    go_enter Tryz.func64, Tryz.ntmps64
    go_wp2_with fail
    go_quiet (fail)
    go_wp2
    go_end0
    exact ⟨rfl, HG.out.after (below_drewN (by go_grown) nq), On.below (below_drewN (by go_grown) nq)⟩
  · rw [el] at c1 hc
    by_cases ea : s.ammo = 0
    · have z : (s.ammo == 0) = true := by simp [ea]
      clear hc el
      go_enter Tryz.func64, Tryz.ntmps64
      go_wp2_with fail
      go_quiet (fail)
      go_wp2
      go_end0
      exact ⟨rfl, HG.out.after (below_drewN (by go_grown) nq), On.below (below_drewN (by go_grown) nq)⟩
    · have z : (s.ammo == 0) = false := by simp [ea]
      rw [decide_eq_false ea] at hc
      simp only [Bool.true_and, Bool.not_false, Bool.not_eq_false', Bool.and_eq_true, decide_eq_true_eq] at hc
      obtain ⟨k1, k2⟩ := hc
      clear el ea
      go_enter Tryz.func64, Tryz.ntmps64
      go_wp2_with fail
      go_quiet (fail)
      go_wp2
      go_end0
      exact ⟨rfl, HG.out.after (below_drewN (by go_grown) nq), On.below (below_drewN (by go_grown) nq)⟩

end Go.Proofs.YtonmihojfcjmjaaGreat
