import Derived.Test.YtonmihojfcjmjaaGreatRows
import Derived.Test.YtonmihojfcjmjaaGreatBM
import Derived.Test.YtonmihojfcjmjaaGreatBK
import Derived.Handy
import Derived.WalkKit
import Derived.WalkSpells
import Derived.WalkSmall
import Derived.Deep.QuietTactic
import Derived.Deep.LoopGhost
import Derived.BigQuiet
import Derived.Test.YtonmihojfcjmjaaGreatBRa
import Derived.Maps.AppendAt
/- Contracts of the document's answer: zone, hex, pairs. -/
namespace Go.Proofs.YtonmihojfcjmjaaGreat
open Go.RowKit
set_option linter.unusedVariables false

def zoneB (c : Int) : Bool := decide (48 ≤ c) && decide (c ≤ 55)

set_option maxHeartbeats 400000 in
theorem rzone_any (c : Int) (w : World) (B : Bool) (hB : Hid (zoneB c = B)) :
    Calls Tryz.prog 50 #[.int .u8 c] w fun e w' => e = .returned (.bool B) ∧ w' = w := by
  go_enter Tryz.func50, Tryz.ntmps50
  go_wp2
  all_goals (go_ret; exact ⟨ret_bool (by rw [← hB.out]; unfold zoneB; (first | (simp [*]; done) | (simp; omega))), rfl⟩)

set_option maxHeartbeats 400000 in
theorem rhex_any (c d : Int) (w : World) (h0 : 0 ≤ c) (h1 : c ≤ 255) (hd : Hid (M.hexV c = d)) :
    Calls Tryz.prog 29 #[.int .u8 c] w fun e w' => e = .returned (.int .i64 d) ∧ w' = w := by
  go_enter Tryz.func29, Tryz.ntmps29
  go_wp2
  all_goals (go_ret; exact ⟨ret_int (by rw [← hd.out]; unfold M.hexV; (first | omega | (simp; omega) | (repeat' split <;> omega))), rfl⟩)

def optInt : Option Nat → Int
  | some k => (k : Int)
  | none => -1

set_option maxHeartbeats 1000000 in
theorem rpairs_any (s : ByteArray) (i : Nat) (f : Nat) (w : World) (hs : s.size ≤ 512) (hi : i ≤ s.size) (hf : s.size < f + i) (R : Int) (hR : Hid (optInt (M.pairsF s f i) = R)) :
    Calls Tryz.prog 51 #[.string s, .int .i64 i] w fun e w' => e = .returned (.int .i64 R) ∧ w' = w := by
  go_enter Tryz.func51, Tryz.ntmps51
  go_wp2
  go_loopg [1] f (fun k u wr => ∃ j : Nat, u = .int .i64 j ∧ j ≤ s.size ∧ s.size < k + j ∧ Hid (optInt (M.pairsF s k j) = R) ∧ wr = w)
  case atStart => exact ⟨i, rfl, hi, hf, hR, rfl⟩
  case round =>
    obtain ⟨j, rfl, hj, hk, hP, rfl⟩ := hrel
    by_cases hlt : j < s.size
    · have e0 := M.byteAt_lt hlt
      obtain ⟨k', rfl⟩ : ∃ k', gk = k' + 1 := ⟨gk - 1, by omega⟩
      by_cases t : M.byteAt s j = 59
      · have t1 : ((s[j].toNat : Int) != 59) = false := by rw [← e0, t]; rfl
        by_cases h1 : j + 1 < s.size
        · have e1 := M.byteAt_lt h1
          by_cases z1 : 48 ≤ M.byteAt s (j + 1) ∧ M.byteAt s (j + 1) ≤ 55
          · by_cases h2 : j + 2 < s.size
            · have e2 := M.byteAt_lt h2
              by_cases z2 : 48 ≤ M.byteAt s (j + 2) ∧ M.byteAt s (j + 2) ≤ 55
              · have e : M.pairsF s (k' + 1) j = M.pairsF s k' (j + 3) := M.pairsF_good hlt (by unfold M.pairStep; rw [if_neg (by omega), if_neg (by omega), if_neg (by omega)])
                rw [e] at hP
                rw [e1] at z1
                rw [e2] at z2
                obtain ⟨y1, y2⟩ := z1
                obtain ⟨y3, y4⟩ := z2
                clear e e0 e1 e2 t
                go_wp2
                go_rounds 3
                go_roundg k'
                case measure => omega
                case rel => exact ⟨j + 3, by go_num, by omega, by omega, hP, rfl⟩
              · have e : M.pairsF s (k' + 1) j = some (j + 2) := M.pairsF_bad hlt (by unfold M.pairStep; rw [if_neg (by omega), if_neg (by omega), if_pos (by omega)])
                have E : Hid ((j : Int) + 2 = R) := by have := hP.out; rw [e] at this; exact this
                rw [e1] at z1
                rw [e2] at z2
                obtain ⟨y1, y2⟩ := z1
                clear e e0 e1 e2 t hP
                by_cases y3 : 48 ≤ (s[j + 2].toNat : Int)
                · have y4 : decide ((s[j + 2].toNat : Int) ≤ 55) = false := by simp; omega
                  clear z2
                  go_wp2
                  go_rounds 3
                  go_ret
                  exact ⟨ret_int E.out, rfl⟩
                · clear z2
                  go_wp2
                  go_rounds 3
                  go_ret
                  exact ⟨ret_int E.out, rfl⟩
            · have z2 : M.byteAt s (j + 2) = -1 := M.byteAt_ge (by omega)
              have e : M.pairsF s (k' + 1) j = some (j + 2) := M.pairsF_bad hlt (by unfold M.pairStep; rw [if_neg (by omega), if_neg (by omega), if_pos (by omega)])
              have E : Hid ((s.size : Int) = R) := by have := hP.out; rw [e] at this; unfold Hid; rw [← this]; simp [optInt]; omega
              rw [e1] at z1
              obtain ⟨y1, y2⟩ := z1
              clear e e0 e1 t hP z2
              go_wp2
              go_rounds 3
              go_ret
              exact ⟨ret_int E.out, rfl⟩
          · have e : M.pairsF s (k' + 1) j = some (j + 1) := M.pairsF_bad hlt (by unfold M.pairStep; rw [if_neg (by omega), if_pos (by omega)])
            have E : Hid ((j : Int) + 1 = R) := by have := hP.out; rw [e] at this; exact this
            rw [e1] at z1
            clear e e0 e1 t hP
            by_cases y3 : 48 ≤ (s[j + 1].toNat : Int)
            · have y4 : decide ((s[j + 1].toNat : Int) ≤ 55) = false := by simp; omega
              clear z1
              go_wp2
              go_rounds 3
              go_ret
              exact ⟨ret_int E.out, rfl⟩
            · clear z1
              go_wp2
              go_rounds 3
              go_ret
              exact ⟨ret_int E.out, rfl⟩
        · have z1 : M.byteAt s (j + 1) = -1 := M.byteAt_ge (by omega)
          have e : M.pairsF s (k' + 1) j = some (j + 1) := M.pairsF_bad hlt (by unfold M.pairStep; rw [if_neg (by omega), if_pos (by omega)])
          have E : Hid ((s.size : Int) = R) := by have := hP.out; rw [e] at this; unfold Hid; rw [← this]; simp [optInt]; omega
          clear e e0 t hP z1
          go_wp2
          go_rounds 3
          go_ret
          exact ⟨ret_int E.out, rfl⟩
      · have t1 : ((s[j].toNat : Int) != 59) = true := by rw [← e0]; simp [t]
        have e : M.pairsF s (k' + 1) j = some j := M.pairsF_bad hlt (by unfold M.pairStep; rw [if_pos t])
        have E : Hid ((j : Int) = R) := by have := hP.out; rw [e] at this; exact this
        clear t e e0 hP
        go_wp2
        go_ret
        exact ⟨ret_int E.out, rfl⟩
    · have e : M.pairsF s gk j = none := M.pairsF_end (by omega)
      have E : Hid ((-1 : Int) = R) := by have := hP.out; rw [e] at this; exact this
      clear e hP
      go_wp2
      go_ret
      exact ⟨ret_int E.out, rfl⟩
end Go.Proofs.YtonmihojfcjmjaaGreat

/- Rows of leaves: their elements. -/
namespace Go.Proofs.YtonmihojfcjmjaaGreat
open Go.RowKit

theorem own_last {W : World} {base e g m cap : Nat} {xs : List Value} {x : Value} (h : W.ownsRow base e 1 (.slice (some ⟨g, 0, none⟩) (m + 1) cap) (m + 1) (xs ++ [x])) (hx : xs.length = m) :
    W.cell? ⟨g, m, none⟩ = some x ∧ m + 1 ≤ cap ∧ cap ≤ maxLen := by
  rcases h.2 with ⟨h0, _⟩ | ⟨g', cap', cur, hv, _, hh, hn, hc, hsz, ht⟩
  · cases h0
  · cases hv
    refine ⟨?_, hn, hc⟩
    simp only [World.cell?, hh]
    have hlt : m < cur.toList.length := by simp; omega
    have e1 : (cur.toList.take ((m + 1) * 1))[m]? = some x := by rw [ht, List.getElem?_append_right (by omega), hx]; simp
    rw [List.getElem?_take_of_lt (by omega)] at e1
    simpa using e1

theorem own_ge {W : World} {base e size g n cap m : Nat} {xs : List Value} (h : W.ownsRow base e size (.slice (some ⟨g, 0, none⟩) n cap) m xs) : base ≤ g := by
  rcases h.2 with ⟨h0, _⟩ | ⟨g', cap', cur, hv, hb, _⟩
  · cases h0
  · cases hv; exact hb

theorem own_row {W : World} {base e size g n cap m : Nat} {xs : List Value} (h : W.ownsRow base e size (.slice (some ⟨g, 0, none⟩) n cap) m xs) : ∀ k, (Value.slice (some ⟨g, 0, none⟩) n cap).ownBlock = some k → base ≤ k := by
  intro k hk
  have : g = k := by simpa [Value.ownBlock] using hk
  rw [← this]
  exact own_ge h

theorem flat_len (ls : List M.Lf) : (flat ls).length = ls.length * 7 := by
  induction ls with
  | nil => rfl
  | cons l ls ih => simp only [flat, List.flatMap_cons, List.length_append] at ih ⊢; rw [ih]; simp [leafCells]; omega

/-- An element of a row of leaves. -/
theorem own_leaf {W : World} {base e g n cap : Nat} {ls : List M.Lf} (h : W.ownsRow base e 7 (.slice (some ⟨g, 0, none⟩) n cap) n (flat ls)) {i : Nat} {l : M.Lf} (hi : ls[i]? = some l) :
    (W.cell? ⟨g, i * 7, none⟩ = some (.int .i64 l.lo.x) ∧ W.cell? ⟨g, i * 7 + 1, none⟩ = some (.int .i64 l.lo.y) ∧ W.cell? ⟨g, i * 7 + 2, none⟩ = some (.int .i64 l.lo.z) ∧
     W.cell? ⟨g, i * 7 + 3, none⟩ = some (.int .i64 l.hi.x) ∧ W.cell? ⟨g, i * 7 + 4, none⟩ = some (.int .i64 l.hi.y) ∧ W.cell? ⟨g, i * 7 + 5, none⟩ = some (.int .i64 l.hi.z) ∧
     W.cell? ⟨g, i * 7 + 6, none⟩ = some (.int .i64 l.zone)) ∧ n ≤ cap ∧ cap ≤ maxLen := by
  have hlt : i < ls.length := (List.getElem?_eq_some_iff.1 hi).1
  have hn : ls.length * 7 = n * 7 := by rw [← flat_len]; exact h.1
  rcases h.2 with ⟨h0, _⟩ | ⟨g', cap', cur, hv, _, hh, hc1, hc2, hsz, ht⟩
  · cases h0
  · cases hv
    have key : ∀ j, j < 7 → W.cell? ⟨g, i * 7 + j, none⟩ = (leafCells l)[j]? := by
      intro j hj
      simp only [World.cell?, hh]
      have e1 : (cur.toList.take (n * 7))[i * 7 + j]? = (flat ls)[i * 7 + j]? := by rw [ht]
      rw [List.getElem?_take_of_lt (by omega)] at e1
      have e2 : (flat ls)[i * 7 + j]? = (leafCells l)[j]? := by
        clear h ht hh hsz e1 hn hc1 hc2
        induction ls generalizing i with
        | nil => simp at hlt
        | cons x ls ih =>
          cases i with
          | zero =>
            simp at hi
            subst hi
            simp only [flat, List.flatMap_cons]
            rw [List.getElem?_append_left (by simp [leafCells]; omega)]
            simp
          | succ i =>
            simp only [flat, List.flatMap_cons]
            rw [List.getElem?_append_right (by simp [leafCells]; omega)]
            have : (i + 1) * 7 + j - (leafCells x).length = i * 7 + j := by simp [leafCells]; omega
            rw [this]
            simp only [List.length_cons] at hlt
            exact ih (by simpa using hi) (by omega)
      rw [← e2, ← e1]
      simp
    refine ⟨⟨key 0 (by omega), key 1 (by omega), key 2 (by omega), key 3 (by omega), key 4 (by omega), key 5 (by omega), key 6 (by omega)⟩, hc1, hc2⟩

end Go.Proofs.YtonmihojfcjmjaaGreat

/- Contract of the document's answer: place. -/
namespace Go.Proofs.YtonmihojfcjmjaaGreat
open Go.RowKit
set_option linter.unusedVariables false
attribute [local go_sem] cell_set_off cell_set_blk

/-- A stack's cells: the next tree last. -/
def dueCells (stk : List (Nat × M.V3 × M.V3)) : List Value := stk.reverse.map fun t => .int .i64 (12 - (t.1 : Int))

def placeS (s : ByteArray) : Int := if (M.top s).1 = false then ((M.top s).2.place : Int) else optInt (M.pairsF s (s.size + 1) (M.top s).2.place)

theorem infoInt : (Tryz.prog.info? 3).map (fun i => (i.zero, i.size, i.bytes)) = some (some (.int .i64 0), 1, 8) := by kernel_rfl

theorem dueCells_cons (r : Nat) (lo hi : M.V3) (stk : List (Nat × M.V3 × M.V3)) : dueCells ((r, lo, hi) :: stk) = dueCells stk ++ [.int .i64 (12 - (r : Int))] := by simp [dueCells]
theorem dueCells_len (stk : List (Nat × M.V3 × M.V3)) : (dueCells stk).length = stk.length := by simp [dueCells]

/-- Where the loop stands. -/
structure PL (s : ByteArray) (w wr : World) (stk : List (Nat × M.V3 × M.V3)) (st : M.St) (g cap : Nat) : Prop where
  own : wr.ownsRow w.heap.size 3 1 (.slice (some ⟨g, 0, none⟩) stk.length cap) stk.length (dueCells stk)
  bel : Below w.heap.size w wr
  eqn : M.trees s stk st = M.top s
  len : stk.length ≤ st.place + 1
  dep : ∀ t ∈ stk, t.1 ≤ 12

set_option maxRecDepth 100000 in
set_option maxHeartbeats 2000000 in
theorem place_any (s : ByteArray) (w : World) (hs : s.size ≤ 512) : Calls Tryz.prog 28 #[.string s] w fun e w' => e = .returned (.int .i64 (placeS s)) ∧ Below w.heap.size w w' := by
  obtain ⟨P, hP⟩ : ∃ P, placeS s = P := ⟨_, rfl⟩
  rw [hP]
  have HP : Hid (placeS s = P) := hP
  clear hP
  go_enter Tryz.func28, Tryz.ntmps28
  go_wp2_with fail
  go_loopg [3, 4] (s.size + 1) (fun k u3 u4 wr => ∃ (stk : List (Nat × M.V3 × M.V3)) (st : M.St) (g cap : Nat), u3 = .slice (some ⟨g, 0, none⟩) stk.length cap ∧ u4 = .int .i64 st.place ∧ st.place ≤ s.size ∧ k + st.place = s.size + 1 ∧ PL s w wr stk st g cap)
  case atStart =>
    refine ⟨[(12, M.cubeLo, M.cubeHi)], M.st0, w.heap.size, 1, rfl, rfl, Nat.zero_le _, rfl, ⟨?_, by go_grown, M.trees_one _ _ _ _ _, by simp, by simp⟩⟩
    exact ⟨rfl, .inr ⟨w.heap.size, 1, #[.int .i64 0], rfl, Nat.le_refl _, (Blk.new rfl).at_, by simp, by simp [maxLen], rfl, rfl⟩⟩
  case round =>
    obtain ⟨stk, st, g, cap, rfl, rfl, hj, hk, hL⟩ := hrel
    cases stk with
    | nil =>
      have hb := hL.bel
      have he : M.top s = (true, st) := hL.eqn.symm
      have E : Hid (optInt (M.pairsF s (s.size + 1) st.place) = P) := by unfold Hid; rw [← HP.out]; unfold placeS; rw [he]; rfl
      clear he hL HP
      simp only [List.length_nil]
      go_wp2_with fail
      refine (rpairs_any s st.place (s.size + 1) _ hs hj (by omega) P E).mono ?_
      rintro e w' ⟨rfl, rfl⟩
      go_wp2
      go_ret
      exact ⟨rfl, hb⟩
    | cons t stk =>
      obtain ⟨r, lo, hi⟩ := t
      by_cases hlt : st.place < s.size
      · have e0 := M.byteAt_lt hlt
        have hown := hL.own
        rw [dueCells_cons] at hown
        obtain ⟨hcell, hcap, hcm⟩ := own_last hown (dueCells_len stk)
        have hpop := ownsRow_pop (by rw [dueCells_len]; simp) hown
        have hb := hL.bel
        have hlen := hL.len
        simp only [List.length_cons] at hlen
        have hm0 : (0 : Int) ≤ (stk.length : Int) := by omega
        have hm1 : (stk.length : Int) ≤ 512 := by omega
        have hm2 : (stk.length : Int) ≤ (cap : Int) := by omega
        have hr : r ≤ 12 := hL.dep (r, lo, hi) (by simp)
        have hdep : Hid (∀ t ∈ stk, t.1 ≤ 12) := fun t ht => hL.dep t (by simp [ht])
        have HE : Hid (M.trees s ((r, lo, hi) :: stk) st = M.top s) := hL.eqn
        have HO : Hid (wr.ownsRow w.heap.size 3 1 (.slice (some ⟨g, 0, none⟩) stk.length cap) stk.length (dueCells stk)) := hpop
        unfold maxLen at hcm
        clear hL hown hpop
        simp only [List.length_cons]
        by_cases hl : M.leafB (M.byteAt s st.place) = true
        · have HN : Hid (M.trees s stk (st.leaf lo hi (M.byteAt s st.place)) = M.top s) := by unfold Hid; rw [← M.trees_leaf hl]; exact HE.out
          clear HE
          by_cases h35 : M.byteAt s st.place = 35
          · have t1 : ((s[st.place].toNat : Int) == 35) = true := by rw [← e0]; simp [h35]
            have hz : Hid (zoneB (s[st.place].toNat : Int) = false) := by unfold Hid; rw [← e0, h35]; rfl
            generalize M.leafB (M.byteAt s st.place) = xx at hl
            clear hl h35 e0
            go_wp2_with fail
            refine (rzone_any _ _ false hz).mono ?_
            rintro e w' ⟨rfl, rfl⟩
            go_wp2
            go_roundg (gk - 1)
            case measure => omega
            case rel => exact ⟨stk, st.leaf lo hi (M.byteAt s st.place), g, cap, rfl, by go_num, by exact hlt, by simp only [M.St.leaf]; omega, ⟨HO.out, hb, HN.out, by simp only [M.St.leaf]; omega, hdep.out⟩⟩
          · have hl2 := hl
            unfold M.leafB at hl2
            simp [h35] at hl2
            have t1 : ((s[st.place].toNat : Int) == 35) = false := by rw [← e0]; simp [h35]
            have hz : Hid (zoneB (s[st.place].toNat : Int) = true) := by unfold Hid; rw [← e0]; unfold zoneB; simp; omega
            clear hl h35 e0 hl2
            go_wp2_with fail
            refine (rzone_any _ _ true hz).mono ?_
            rintro e w' ⟨rfl, rfl⟩
            go_wp2
            go_roundg (gk - 1)
            case measure => omega
            case rel => exact ⟨stk, st.leaf lo hi (M.byteAt s st.place), g, cap, rfl, by go_num, by exact hlt, by simp only [M.St.leaf]; omega, ⟨HO.out, hb, HN.out, by simp only [M.St.leaf]; omega, hdep.out⟩⟩
        · have hl' : M.leafB (M.byteAt s st.place) = false := by simpa using hl
          have h35 : M.byteAt s st.place ≠ 35 := fun e => by rw [e] at hl'; cases hl'
          have t1 : ((s[st.place].toNat : Int) == 35) = false := by rw [← e0]; simp [h35]
          have hz : Hid (zoneB (s[st.place].toNat : Int) = false) := by
            unfold Hid; rw [← e0]
            have := hl'
            unfold M.leafB at this
            unfold zoneB
            simp at this ⊢
            omega
          by_cases hn : M.planeB (M.byteAt s st.place) = true
          · cases r with
            | zero =>
              have he : M.top s = (false, st) := by rw [← HE.out]; exact M.trees_deep hl'
              have E : Hid ((st.place : Int) = P) := by unfold Hid; rw [← HP.out]; unfold placeS; rw [he]; rfl
              have hn2 := hn
              unfold M.planeB at hn2
              rw [e0] at hn2
              simp at hn2
              obtain ⟨y1, y2⟩ := hn2
              have y3 : ¬ (s[st.place].toNat : Int) < 120 := by omega
              have y4 : ¬ (122 : Int) < (s[st.place].toNat : Int) := by omega
              clear HE he hl hl' h35 hn e0 HP hdep HO y1 y2
              simp at hcell
              go_wp2_with fail
              refine (rzone_any _ _ false hz).mono ?_
              rintro e w' ⟨rfl, rfl⟩
              go_wp2
              go_ret
              exact ⟨ret_int E.out, hb⟩
            | succ r =>
              have hn2 := hn
              unfold M.planeB at hn2
              rw [e0] at hn2
              simp at hn2
              obtain ⟨y1, y2⟩ := hn2
              have y3 : ¬ (s[st.place].toNat : Int) < 120 := by omega
              have y4 : ¬ (122 : Int) < (s[st.place].toNat : Int) := by omega
              obtain ⟨ab, hab⟩ : ∃ ab : Int, 12 - ((r + 1 : Nat) : Int) = ab := ⟨_, rfl⟩
              rw [hab] at hcell
              have ab1 : ab < 12 := by omega
              have ab0 : 0 ≤ ab := by omega
              have HAB : Hid (12 - ((r : Nat) : Int) = ab + 1) := by unfold Hid; omega
              clear hab y1 y2 e0
              by_cases h1 : st.place + 1 < s.size
              · have e1 := M.byteAt_lt h1
                obtain ⟨d, hd⟩ : ∃ d, M.hexV (M.byteAt s (st.place + 1)) = d := ⟨_, rfl⟩
                have HD : Hid (M.hexV (s[st.place + 1].toNat : Int) = d) := by unfold Hid; rw [← e1]; exact hd
                have l1 := (s[st.place + 1]).toNat_lt
                by_cases h3 : d < 0
                · have he : M.top s = (false, st.goto (st.place + 1)) := by rw [← HE.out]; exact M.trees_bad1 hl' hn (by rw [hd]; exact h3)
                  have E : Hid ((st.place : Int) + 1 = P) := by unfold Hid; rw [← HP.out]; unfold placeS; rw [he]; rfl
                  clear HE he hl hl' h35 hn HP hdep HO e1 hd
                  go_wp2_with fail
                  refine (rzone_any _ _ false hz).mono ?_
                  rintro e w' ⟨rfl, rfl⟩
                  go_wp2_with fail
                  refine wp_loop_rounds 3 ?_
                  rw [rounds_succ]
                  go_wp2_with fail
                  refine (rhex_any _ d _ (by omega) (by omega) HD).mono ?_
                  rintro e w' ⟨rfl, rfl⟩
                  go_wp2
                  go_ret
                  exact ⟨ret_int E.out, hb⟩
                · by_cases h2 : st.place + 2 < s.size
                  · have e2 := M.byteAt_lt h2
                    obtain ⟨f, hf⟩ : ∃ d, M.hexV (M.byteAt s (st.place + 2)) = d := ⟨_, rfl⟩
                    have HF : Hid (M.hexV (s[st.place + 2].toNat : Int) = f) := by unfold Hid; rw [← e2]; exact hf
                    have l2 := (s[st.place + 2]).toNat_lt
                    by_cases h4 : f < 0
                    · have he : M.top s = (false, st.goto (st.place + 2)) := by rw [← HE.out]; exact M.trees_bad2 hl' hn (by rw [hd]; exact h3) (by rw [hf]; exact h4)
                      have E : Hid ((st.place : Int) + 2 = P) := by unfold Hid; rw [← HP.out]; unfold placeS; rw [he]; rfl
                      clear HE he hl hl' h35 hn HP hdep HO e1 e2 hd hf
                      go_wp2_with fail
                      refine (rzone_any _ _ false hz).mono ?_
                      rintro e w' ⟨rfl, rfl⟩
                      go_wp2_with fail
                      refine wp_loop_rounds 3 ?_
                      rw [rounds_succ]
                      go_wp2_with fail
                      refine (rhex_any _ d _ (by omega) (by omega) HD).mono ?_
                      rintro e w' ⟨rfl, rfl⟩
                      go_wp2_with fail
                      rw [rounds_succ]
                      go_wp2_with fail
                      refine (rhex_any _ f _ (by omega) (by omega) HF).mono ?_
                      rintro e w' ⟨rfl, rfl⟩
                      go_wp2
                      go_ret
                      exact ⟨ret_int E.out, hb⟩
                    · have HN : Hid (M.trees s ((r, lo, M.lowHi s st hi) :: (r, M.upLo s st lo, hi) :: stk) (st.cut s lo hi) = M.top s) := by unfold Hid; rw [← M.trees_plane hl' hn (by rw [hd]; exact h3) (by rw [hf]; exact h4)]; exact HE.out
                      clear HE hl hl' h35 hn e1 e2 hd hf
                      obtain ⟨i0, hi0, hz0, hz1, hz2⟩ := info_parts infoInt
                      go_wp2_with fail
                      refine (rzone_any _ _ false hz).mono ?_
                      rintro e wr ⟨rfl, rfl⟩
                      go_wp2_with fail
                      refine wp_loop_rounds 3 ?_
                      rw [rounds_succ]
                      go_wp2_with fail
                      refine (rhex_any _ d _ (by omega) (by omega) HD).mono ?_
                      rintro e wr ⟨rfl, rfl⟩
                      go_wp2_with fail
                      rw [rounds_succ]
                      go_wp2_with fail
                      refine (rhex_any _ f _ (by omega) (by omega) HF).mono ?_
                      rintro e wr ⟨rfl, rfl⟩
                      go_wp2_with fail
                      rw [rounds_succ]
                      go_wp2_with (first | (at_builtin; refine wpList_append_lies _ (by rfl) _ _ _ (by rfl) w.heap.size 3 i0 _ 1 8 Tryz.underlying111 hi0 hz0 hz1 hz2 rfl (by omega) (.slice (some ⟨g, 0, none⟩) stk.length cap) stk.length (dueCells stk) (by rfl) (HO.out.alloc _) ⟨wr.heap.size, 0, none⟩ 1 1 [.int .i64 (ab + 1)] (by rfl) (by rfl) (World.news_of_block (cs := #[.int .i64 (ab + 1)]) (t := 3) (fr := (0, 0)) (heap_alloc_new wr _)) (by simp [Value.oneCell']) (by omega) (by unfold maxLen; omega) (by omega) (by have := hb.size; simp; omega) (wr.heap.size + 1) (by simp) ?_; intro g1 cap1 w1 hown1 hgrow1 hat1 hlt1) | (at_builtin; refine wpList_append_lies _ (by rfl) _ _ _ (by rfl) w.heap.size 3 i0 _ 1 8 Tryz.underlying111 hi0 hz0 hz1 hz2 rfl (by omega) (.slice (some ⟨g1, 0, none⟩) (stk.length + 1) cap1) (stk.length + 1) (dueCells stk ++ [.int .i64 (ab + 1)]) (by rfl) (hown1.alloc _) ⟨w1.heap.size, 0, none⟩ 1 1 [.int .i64 (ab + 1)] (by rfl) (by rfl) (World.news_of_block (cs := #[.int .i64 (ab + 1)]) (t := 3) (fr := (0, 0)) (heap_alloc_new w1 _)) (by simp [Value.oneCell']) (by omega) (by unfold maxLen; omega) (by omega) (by have := hb.size; have h9 := hgrow1.size; simp at h9; simp; omega) (w1.heap.size + 1) (by simp) ?_; intro g2 cap2 w2 hown2 hgrow2 hat2 hlt2))
                      go_roundg (gk - 3)
                      case measure => omega
                      case rel =>
                        have z1 := hb.size
                        have z2 := hgrow1.size
                        simp at z2
                        have b1 : Below w.heap.size w w1 := (hb.alloc z1 _).grown hgrow1 (by simp; omega) (own_row HO.out)
                        have b2 : Below w.heap.size w w2 := (b1.alloc (by omega) _).grown hgrow2 (by simp; omega) (own_row hown1)
                        refine ⟨(r, lo, M.lowHi s st hi) :: (r, M.upLo s st lo, hi) :: stk, st.cut s lo hi, g2, cap2, by simp, by simp [M.St.cut, M.St.plane], by simp only [M.St.cut, M.St.plane]; omega, by simp only [M.St.cut, M.St.plane]; omega, ⟨?_, b2, HN.out, by simp only [M.St.cut, M.St.plane, List.length_cons]; omega, ?_⟩⟩
                        · rw [dueCells_cons, dueCells_cons, HAB.out]
                          exact hown2
                        · intro t ht
                          simp at ht
                          rcases ht with rfl | rfl | ht
                          · show r ≤ 12; omega
                          · show r ≤ 12; omega
                          · exact hdep.out t ht
                  · have he : M.top s = (false, st.goto (st.place + 2)) := by rw [← HE.out]; exact M.trees_bad2 hl' hn (by rw [hd]; exact h3) (by rw [M.byteAt_ge (by omega)]; decide)
                    have E : Hid ((s.size : Int) = P) := by unfold Hid; rw [← HP.out]; unfold placeS; rw [he]; simp [M.St.goto]; omega
                    clear HE he hl hl' h35 hn HP hdep HO e1 hd
                    go_wp2_with fail
                    refine (rzone_any _ _ false hz).mono ?_
                    rintro e w' ⟨rfl, rfl⟩
                    go_wp2_with fail
                    refine wp_loop_rounds 3 ?_
                    rw [rounds_succ]
                    go_wp2_with fail
                    refine (rhex_any _ d _ (by omega) (by omega) HD).mono ?_
                    rintro e w' ⟨rfl, rfl⟩
                    go_wp2_with fail
                    rw [rounds_succ]
                    go_wp2
                    go_ret
                    exact ⟨ret_int E.out, hb⟩
              · have he : M.top s = (false, st.goto (st.place + 1)) := by rw [← HE.out]; exact M.trees_bad1 hl' hn (by rw [M.byteAt_ge (by omega)]; decide)
                have E : Hid ((s.size : Int) = P) := by unfold Hid; rw [← HP.out]; unfold placeS; rw [he]; simp [M.St.goto]; omega
                clear HE he hl hl' h35 hn HP hdep HO
                go_wp2_with fail
                refine (rzone_any _ _ false hz).mono ?_
                rintro e w' ⟨rfl, rfl⟩
                go_wp2_with fail
                refine wp_loop_rounds 3 ?_
                rw [rounds_succ]
                go_wp2
                go_ret
                exact ⟨ret_int E.out, hb⟩
          · have hn' : M.planeB (M.byteAt s st.place) = false := by simpa using hn
            have he : M.top s = (false, st) := by rw [← HE.out]; exact M.trees_none hl' hn'
            have E : Hid ((st.place : Int) = P) := by unfold Hid; rw [← HP.out]; unfold placeS; rw [he]; rfl
            have hn2 := hn'
            unfold M.planeB at hn2
            rw [e0] at hn2
            by_cases y1 : (s[st.place].toNat : Int) < 120
            · clear HE he hl hl' h35 hn hn' hn2 e0 HP hdep HO
              go_wp2_with fail
              refine (rzone_any _ _ false hz).mono ?_
              rintro e w' ⟨rfl, rfl⟩
              go_wp2
              go_ret
              exact ⟨ret_int E.out, hb⟩
            · have y2 : (122 : Int) < (s[st.place].toNat : Int) := by simp at hn2; omega
              clear HE he hl hl' h35 hn hn' hn2 e0 HP hdep HO
              go_wp2_with fail
              refine (rzone_any _ _ false hz).mono ?_
              rintro e w' ⟨rfl, rfl⟩
              go_wp2
              go_ret
              exact ⟨ret_int E.out, hb⟩
      · have hge : s.size ≤ st.place := by omega
        have he : M.top s = (false, st) := by rw [← hL.eqn]; exact M.trees_none (by rw [M.byteAt_ge hge]; rfl) (by rw [M.byteAt_ge hge]; rfl)
        have E : Hid ((s.size : Int) = P) := by unfold Hid; rw [← HP.out]; unfold placeS; rw [he]; simp; omega
        have hb := hL.bel
        clear hL he HP
        simp only [List.length_cons]
        go_wp2
        go_ret
        exact ⟨ret_int E.out, hb⟩
end Go.Proofs.YtonmihojfcjmjaaGreat

/- Contracts of the document's answer: axis, with. -/
namespace Go.Proofs.YtonmihojfcjmjaaGreat
open Go.RowKit
set_option linter.unusedVariables false
attribute [local go_sem] cell_set_off cell_set_blk

set_option maxHeartbeats 1000000 in
theorem raxis_any (p : M.V3) (k c : Int) (w : World) (hk : k = c - 120) (hc : M.planeB c = true) :
    Calls Tryz.prog 30 #[.agg #[.int .i64 p.x, .int .i64 p.y, .int .i64 p.z], .int .i64 k] w fun e w' => e = .returned (.int .i64 (M.getAx p c)) ∧ Below w.heap.size w w' := by
  rcases plane3 hc with rfl | rfl | rfl
  · obtain rfl : k = 0 := by omega
    clear hk hc
    go_enter Tryz.func30, Tryz.ntmps30
    go_wp2
    go_ret
    exact ⟨rfl, by go_grown⟩
  · obtain rfl : k = 1 := by omega
    clear hk hc
    go_enter Tryz.func30, Tryz.ntmps30
    go_wp2
    go_ret
    exact ⟨rfl, by go_grown⟩
  · obtain rfl : k = 2 := by omega
    clear hk hc
    go_enter Tryz.func30, Tryz.ntmps30
    go_wp2
    go_ret
    exact ⟨rfl, by go_grown⟩

def WithPost (p : M.V3) (c v : Int) (w : World) (r : Ending) (w' : World) : Prop := r = .returned (.agg #[.int .i64 (M.setAx p c v).x, .int .i64 (M.setAx p c v).y, .int .i64 (M.setAx p c v).z]) ∧ Below w.heap.size w w'

set_option maxHeartbeats 1000000 in
theorem rwith_any (p : M.V3) (k c v : Int) (w : World) (hk : k = c - 120) (hc : M.planeB c = true) :
    Calls Tryz.prog 31 #[.agg #[.int .i64 p.x, .int .i64 p.y, .int .i64 p.z], .int .i64 k, .int .i64 v] w (WithPost p c v w) := by
  rcases plane3 hc with rfl | rfl | rfl
  · obtain rfl : k = 0 := by omega
    clear hk hc
    go_enter Tryz.func31, Tryz.ntmps31
    go_wp2
    exact bodyPost_ret (v := .agg #[.int .i64 v, .int .i64 p.y, .int .i64 p.z]) (by simp [results, Tryz.results31, go_sem]) rfl ⟨rfl, by go_grown⟩
  · obtain rfl : k = 1 := by omega
    clear hk hc
    go_enter Tryz.func31, Tryz.ntmps31
    go_wp2
    exact bodyPost_ret (v := .agg #[.int .i64 p.x, .int .i64 v, .int .i64 p.z]) (by simp [results, Tryz.results31, go_sem]) rfl ⟨rfl, by go_grown⟩
  · obtain rfl : k = 2 := by omega
    clear hk hc
    go_enter Tryz.func31, Tryz.ntmps31
    go_wp2
    exact bodyPost_ret (v := .agg #[.int .i64 p.x, .int .i64 p.y, .int .i64 v]) (by simp [results, Tryz.results31, go_sem]) rfl ⟨rfl, by go_grown⟩

/-- A stack of regions, as leaves: the next tree last. -/
def dueL (stk : List (Nat × M.V3 × M.V3)) : List M.Lf := stk.reverse.map fun t => ⟨t.2.1, t.2.2, 0⟩
theorem dueL_cons (r : Nat) (lo hi : M.V3) (stk : List (Nat × M.V3 × M.V3)) : dueL ((r, lo, hi) :: stk) = dueL stk ++ [⟨lo, hi, 0⟩] := by simp [dueL]
theorem dueL_len (stk : List (Nat × M.V3 × M.V3)) : (dueL stk).length = stk.length := by simp [dueL]

theorem infoLeaf2 : (Tryz.prog.info? 93).map (fun i => (i.zero, i.size, i.bytes)) = some (some (.agg #[.int .i64 0, .int .i64 0, .int .i64 0, .int .i64 0, .int .i64 0, .int .i64 0, .int .i64 0]), 7, 56) := by kernel_rfl

end Go.Proofs.YtonmihojfcjmjaaGreat

/- Contract of the document's answer: leaves. -/
namespace Go.Proofs.YtonmihojfcjmjaaGreat
open Go.RowKit
set_option linter.unusedVariables false
attribute [local go_sem] cell_set_off cell_set_blk

/-- What leaves gives back. -/
def LeavesPost (s : ByteArray) (w : World) (r : Ending) (w' : World) : Prop := ∃ (x : Option Addr) (n cap : Nat), r = .returned (.tuple #[.slice x n cap, .int .i64 (M.top s).2.wrong]) ∧
  w'.ownsRow w.heap.size 93 7 (.slice x n cap) (M.top s).2.leaves.length (flat (M.top s).2.leaves) ∧ Below w.heap.size w w'

/-- Where the loop stands. -/
structure LV (s : ByteArray) (w wr : World) (stk : List (Nat × M.V3 × M.V3)) (st : M.St) (g cap : Nat) (v : Value) : Prop where
  own : wr.ownsRow w.heap.size 93 7 (.slice (some ⟨g, 0, none⟩) stk.length cap) stk.length (flat (dueL stk))
  lvs : wr.ownsRow w.heap.size 93 7 v st.leaves.length (flat st.leaves)
  ne : v.ownBlock ≠ some g
  bel : Below w.heap.size w wr
  eqn : M.trees s stk st = M.top s
  inv : st.Inv s
  len : stk.length ≤ st.place + 1
  cub : ∀ t ∈ stk, t.2.1.Cub ∧ t.2.2.Cub

theorem LV.leaf {s : ByteArray} {w wr W0 w1 : World} {r : Nat} {lo hi : M.V3} {stk : List (Nat × M.V3 × M.V3)} {st : M.St} {g cap g1 cap1 : Nat} {v : Value} (h : LV s w wr ((r, lo, hi) :: stk) st g cap v)
    (hO : wr.ownsRow w.heap.size 93 7 (.slice (some ⟨g, 0, none⟩) stk.length cap) stk.length (flat (dueL stk))) (hW : Below wr.heap.size wr W0) (hg : W0.grownBy w1 v.ownBlock) (hat : v.ownBlock = some g1 ∨ wr.heap.size ≤ g1)
    (hown : w1.ownsRow w.heap.size 93 7 (.slice (some ⟨g1, 0, none⟩) (st.leaves.length + 1) cap1) (st.leaves.length + 1) (flat st.leaves ++ leafCells ⟨lo, hi, M.zoneV (M.byteAt s st.place)⟩))
    (hN : M.trees s stk (st.leaf lo hi (M.byteAt s st.place)) = M.top s) (hl : M.leafB (M.byteAt s st.place) = true) : LV s w w1 stk (st.leaf lo hi (M.byteAt s st.place)) g cap (.slice (some ⟨g1, 0, none⟩) (st.leaves.length + 1) cap1) := by
  have hgl : g < wr.heap.size := own_lt hO rfl
  have hc := h.cub (r, lo, hi) (by simp)
  have hlen := h.len
  simp only [List.length_cons] at hlen
  refine ⟨own_of hO (fun k hk => ?_), ?_, ?_, ?_, hN, M.Inv_leaf h.inv hc.1 hc.2 hl, ?_, fun t ht => h.cub t (by simp [ht])⟩
  · have : g = k := by simpa [Value.ownBlock] using hk
    subst this
    rw [hg.block g (Nat.lt_of_lt_of_le hgl hW.size) (fun e => h.ne e.symm), hW.block g hgl]
  · have e1 : (st.leaf lo hi (M.byteAt s st.place)).leaves = st.leaves ++ [⟨lo, hi, M.zoneV (M.byteAt s st.place)⟩] := rfl
    rw [e1, flat_snoc, List.length_append]
    exact hown
  · intro e
    have e' : g1 = g := by simpa [Value.ownBlock] using e
    rcases hat with x | x
    · exact h.ne (by rw [x, e'])
    · omega
  · have b0 := h.bel
    refine (b0.trans (hW.mono b0.size)).grown hg (Nat.le_trans b0.size hW.size) (fun k hk => ?_)
    rcases h.lvs.2 with ⟨e, _⟩ | ⟨g', cap', cur, e, hb, _⟩
    · rw [e] at hk; cases hk
    · rw [e] at hk
      have : g' = k := by simpa [Value.ownBlock] using hk
      omega
  · simp only [M.St.leaf]; omega

theorem raxis_is (p : M.V3) (k c A : Int) (w : World) (hk : k = c - 120) (hc : M.planeB c = true) (hA : Hid (M.getAx p c = A)) :
    Calls Tryz.prog 30 #[.agg #[.int .i64 p.x, .int .i64 p.y, .int .i64 p.z], .int .i64 k] w fun e w' => e = .returned (.int .i64 A) ∧ Below w.heap.size w w' := by
  rw [← hA.out]
  exact raxis_any p k c w hk hc
theorem rwith_is (p q : M.V3) (k c v : Int) (w : World) (hk : k = c - 120) (hc : M.planeB c = true) (hq : Hid (M.setAx p c v = q)) :
    Calls Tryz.prog 31 #[.agg #[.int .i64 p.x, .int .i64 p.y, .int .i64 p.z], .int .i64 k, .int .i64 v] w fun e w' => e = .returned (.agg #[.int .i64 q.x, .int .i64 q.y, .int .i64 q.z]) ∧ Below w.heap.size w w' := by
  have h := rwith_any p k c v w hk hc
  unfold WithPost at h
  rw [hq.out] at h
  exact h

theorem Blk.seven {W : World} {b : Nat} {x0 x1 x2 x3 x4 x5 x6 : Value} {t : TypeId} (h : Blk W b #[x0, x1, x2, x3, x4, x5, x6] t) :
    W.cell? ⟨b, 0, none⟩ = some x0 ∧ W.cell? ⟨b, 1, none⟩ = some x1 ∧ W.cell? ⟨b, 2, none⟩ = some x2 ∧ W.cell? ⟨b, 3, none⟩ = some x3 ∧ W.cell? ⟨b, 4, none⟩ = some x4 ∧ W.cell? ⟨b, 5, none⟩ = some x5 ∧ W.cell? ⟨b, 6, none⟩ = some x6 ∧
    (∀ i, W.frozen? ⟨b, i, none⟩ = false) ∧ b < W.heap.size :=
  ⟨h.cell 0, h.cell 1, h.cell 2, h.cell 3, h.cell 4, h.cell 5, h.cell 6, h.frozen, h.lt⟩

theorem own_v {W : World} {base e size n : Nat} {v : Value} {xs : List Value} (h : W.ownsRow base e size v n xs) : ∀ k, v.ownBlock = some k → base ≤ k := by
  intro k hk
  rcases h.2 with ⟨e, _⟩ | ⟨g', cap', cur, e, hb, _⟩
  · rw [e] at hk; cases hk
  · rw [e] at hk
    have : g' = k := by simpa [Value.ownBlock] using hk
    omega

theorem LV.plane {s : ByteArray} {w wr X0 x1 X1 x2 : World} {r : Nat} {lo hi : M.V3} {stk : List (Nat × M.V3 × M.V3)} {st : M.St} {g cap g1 g2 cap2 : Nat} {v : Value} (h : LV s w wr ((r + 1, lo, hi) :: stk) st g cap v)
    (hO : wr.ownsRow w.heap.size 93 7 (.slice (some ⟨g, 0, none⟩) stk.length cap) stk.length (flat (dueL stk))) (hW : Below wr.heap.size wr X0) (hg : X0.grownBy x1 (some g)) (hat : g = g1 ∨ wr.heap.size ≤ g1)
    (hX : Below x1.heap.size x1 X1) (hg2 : X1.grownBy x2 (some g1)) (hat2 : g1 = g2 ∨ wr.heap.size ≤ g2) (hlt1 : g1 < x1.heap.size)
    (hown : x2.ownsRow w.heap.size 93 7 (.slice (some ⟨g2, 0, none⟩) (stk.length + 1 + 1) cap2) (stk.length + 1 + 1) ((flat (dueL stk) ++ leafCells ⟨M.upLo s st lo, hi, 0⟩) ++ leafCells ⟨lo, M.lowHi s st hi, 0⟩))
    (hN : M.trees s ((r, lo, M.lowHi s st hi) :: (r, M.upLo s st lo, hi) :: stk) (st.cut s lo hi) = M.top s) (h3 : ¬ M.hexV (M.byteAt s (st.place + 1)) < 0) (h4 : ¬ M.hexV (M.byteAt s (st.place + 2)) < 0) :
    LV s w x2 ((r, lo, M.lowHi s st hi) :: (r, M.upLo s st lo, hi) :: stk) (st.cut s lo hi) g2 cap2 v := by
  have hgl : g < wr.heap.size := own_lt hO rfl
  have hgb : w.heap.size ≤ g := own_v hO g rfl
  have hc := h.cub (r + 1, lo, hi) (by simp)
  have hlen := h.len
  have hbd := M.planeAt_bd h3 h4
  simp only [List.length_cons] at hlen
  have b0 := h.bel
  have hg1b : w.heap.size ≤ g1 := by have := b0.size; rcases hat with e | e <;> omega
  have hsz1 : wr.heap.size ≤ x1.heap.size := Nat.le_trans hW.size hg.size
  refine ⟨?_, own_of h.lvs (fun k hk => ?_), ?_, ?_, hN, M.Inv_cut h.inv h4, ?_, fun t ht => ?_⟩
  · rw [dueL_cons, dueL_cons, flat_snoc, flat_snoc]
    exact hown
  · have hkl : k < wr.heap.size := own_lt h.lvs hk
    have hkg : k ≠ g := fun e => h.ne (by rw [hk, e])
    have hkg1 : k ≠ g1 := by rcases hat with e | e <;> omega
    have e1 : x2.heap[k]? = X1.heap[k]? := hg2.block k (by have := hX.size; omega) (fun e => hkg1 (by simpa using e))
    have e2 : X1.heap[k]? = x1.heap[k]? := hX.block k (by omega)
    have e3 : x1.heap[k]? = X0.heap[k]? := hg.block k (by have := hW.size; omega) (fun e => hkg (by simpa using e))
    rw [e1, e2, e3, hW.block k hkl]
  · intro e
    have hkl : g2 < wr.heap.size := own_lt h.lvs e
    have : g2 = g := by rcases hat2 with a | a <;> rcases hat with b | b <;> omega
    exact h.ne (by rw [e, this])
  · have b1 : Below w.heap.size w x1 := (b0.trans (hW.mono b0.size)).grown hg (Nat.le_trans b0.size hW.size) (fun k hk => (show g = k from by simpa using hk) ▸ hgb)
    exact (b1.trans (hX.mono b1.size)).grown hg2 (Nat.le_trans b1.size hX.size) (fun k hk => (show g1 = k from by simpa using hk) ▸ hg1b)
  · simp only [M.St.cut, M.St.plane, List.length_cons]; omega
  · simp at ht
    rcases ht with rfl | rfl | ht
    · exact ⟨hc.1, hc.2.set hbd.1 (by omega)⟩
    · exact ⟨hc.1.set hbd.1 (by omega), hc.2⟩
    · exact h.cub t (by simp [ht])

end Go.Proofs.YtonmihojfcjmjaaGreat
