import Derived.Test.YtonmihojfcjmjabPg5
/- Contracts: Snapshot. -/
namespace Go.Proofs.Ytonmihojfcjmjab
open Go.RowKit
set_option linter.unusedVariables false
attribute [local go_sem] cell_set_off cell_set_blk
attribute [local go_sem ↓] big65 big65'

/-- What the loop has told so far. -/
structure PSnL (g : M.PGame) (ls : List M.Lf) (ps : Nat → Bool) (i j : Nat) (L : ByteArray) (n : Int) : Prop where
  sl : L.data.toList ++ g.rows ls ps i (8 - j) j = g.rows ls ps i 8 0
  sn : n + (g.count ls ps i (8 - j) j : Int) = (g.count ls ps i 8 0 : Int)
  n0 : 0 ≤ n
  n8 : n ≤ j
  sz : L.size ≤ 9 * j

theorem rows_succ (g : M.PGame) (ls : List M.Lf) (ps : Nat → Bool) (i k j : Nat) : g.rows ls ps i (k + 1) j = (if g.toldB ls ps i j = true then (g.seat j).row j else []) ++ g.rows ls ps i k (j + 1) := rfl
theorem pcount_succ (g : M.PGame) (ls : List M.Lf) (ps : Nat → Bool) (i k j : Nat) : g.count ls ps i (k + 1) j = (if g.toldB ls ps i j = true then 1 else 0) + g.count ls ps i k (j + 1) := rfl

theorem PSnL.no {g : M.PGame} {ls : List M.Lf} {ps : Nat → Bool} {i j : Nat} {L : ByteArray} {n : Int} (h : PSnL g ls ps i j L n) (hj : j < 8) (ht : g.toldB ls ps i j = false) : PSnL g ls ps i (j + 1) L n := by
  obtain ⟨k, hk⟩ : ∃ k, 8 - j = k + 1 := ⟨7 - j, by omega⟩
  have hk2 : 8 - (j + 1) = k := by omega
  have h1 := h.sl
  have h2 := h.sn
  rw [hk, rows_succ, if_neg (by simp [ht]), List.nil_append] at h1
  rw [hk, pcount_succ, if_neg (by simp [ht]), Nat.zero_add] at h2
  exact ⟨by rw [hk2]; exact h1, by rw [hk2]; exact h2, h.n0, by have := h.n8; omega, by have := h.sz; omega⟩
theorem PSnL.yes {g : M.PGame} {ls : List M.Lf} {ps : Nat → Bool} {i j : Nat} {L L' : ByteArray} {n : Int} (h : PSnL g ls ps i j L n) (hj : j < 8) (ht : g.toldB ls ps i j = true) (hL : L'.data.toList = L.data.toList ++ (g.seat j).row j) : PSnL g ls ps i (j + 1) L' (n + 1) := by
  obtain ⟨k, hk⟩ : ∃ k, 8 - j = k + 1 := ⟨7 - j, by omega⟩
  have hk2 : 8 - (j + 1) = k := by omega
  have h1 := h.sl
  have h2 := h.sn
  rw [hk, rows_succ, if_pos ht] at h1
  rw [hk, pcount_succ, if_pos ht] at h2
  exact ⟨by rw [hk2, hL, List.append_assoc]; exact h1, by rw [hk2]; omega, by have := h.n0; omega, by have := h.n8; omega, by
    have e := congrArg List.length hL
    rw [List.length_append] at e
    have e2 : L'.size = L'.data.toList.length := rfl
    have e3 : L.size = L.data.toList.length := rfl
    have e4 : ((g.seat j).row j).length = 9 := rfl
    have := h.sz
    omega⟩

set_option maxRecDepth 100000 in
set_option maxHeartbeats 4000000 in
theorem pSnap_yes (b i : Nat) (x : Option Addr) (n cap : Nat) (ps : Nat → Bool) (ls : List M.Lf) (g : M.PGame) (w : World) (h : Pg w b (.slice x n cap) ps g) (hown : w.ownsRow 0 154 7 (.slice x n cap) ls.length (flat ls)) (hl : ls.length ≤ 512)
    (hi : i < 8) (ht : (g.seat i).taken = true) (hs : ∀ j, j < 8 → M.PSane (g.seat j)) (hr : (g.seat i).ready ≤ g.tick + 3) (t0 : 0 ≤ g.tick) (t1 : g.tick ≤ 3000) :
    Calls Try.prog 38 #[.pointer (some ⟨b, 0, none⟩), .int .i64 i] w fun e w' => e = .returned (.tuple #[.string ⟨(g.snap ls ps i).toArray⟩, .int .i64 0]) ∧ Below w.heap.size w w' := by
  have HB : Hid (g.takenB i = true) := by unfold Hid M.PGame.takenB; simp [ht]; omega
  have HP := hid h
  have HO := hid hown
  have HS := hid hs
  have hlt := h.lt
  have i0 : (0 : Int) ≤ (i : Int) := by omega
  have i1 : (i : Int) < 8 := by omega
  clear h hown hs ht
  go_enter Try.func38, Try.ntmps38
  go_wp2_with fail
  refine (pTaken_any b (.slice x n cap) ps g i _ HP.out true HB).mono ?_
  rintro e w1 ⟨rfl, rfl⟩
  go_wp2_with fail
  go_loopg [7, 8, 9, 20] 9 (fun k u7 u8 u9 u20 wr => ∃ (j : Nat) (L : ByteArray) (m : Int), u7 = .string L ∧ u8 = .int .i64 m ∧ u20 = .int .i64 j ∧ j ≤ 8 ∧ k + j = 9 ∧ Hid (PSnL g ls ps i j L m) ∧ Below w1.heap.size w1 wr)
  case atStart => exact ⟨0, ⟨#[]⟩, 0, rfl, rfl, rfl, by omega, rfl, ⟨rfl, by simp, by omega, by omega, Nat.le_refl _⟩, Below.refl _ _⟩
  case round =>
    obtain ⟨j, L, m, rfl, rfl, rfl, hj, hk, hS, hB⟩ := hrel
    have j0 : (0 : Int) ≤ (j : Int) := by omega
    have n0 := hS.out.n0
    have n8 := hS.out.n8
    have hsz := hS.out.sz
    by_cases hlt8 : j < 8
    · have j1 : (j : Int) < 8 := by omega
      have P1 := hid (HP.out.after hB)
      have O1 := hid (own_of HO.out (fun k hk => hB.block k (own_lt HO.out hk)))
      have hbl : b < wr.heap.size := P1.out.lt
      by_cases hij : j = i
      · subst hij
        have HY : Hid (∀ L' : ByteArray, L'.data.toList = L.data.toList ++ (g.seat j).row j → PSnL g ls ps j (j + 1) L' (m + 1)) := fun L' hL => hS.out.yes hlt8 (by unfold M.PGame.toldB; simp) hL
        have hl2 : ¬ 9223372036854775807 < L.size + 9 := by omega
        clear hS
        go_wp2_with fail
        refine (prow_any b (66 + j * 119) j (g.seat j) _ (P1.out.se hlt8) (HS.out j hlt8) hlt8 hbl).mono ?_
        rintro e w2 ⟨rfl, hb⟩
        have B2 : Below w1.heap.size w1 w2 := bl hB hb
        have hrow : ((⟨((g.seat j).row j).toArray⟩ : ByteArray)).size = 9 := rfl
        clear hb
        go_wp2
        go_roundg (gk - 1)
        case measure => omega
        case rel => exact ⟨j + 1, _, _, rfl, rfl, by go_num, by omega, by omega, HY.out _ (by simp), B2⟩
      · have hij2 : ((j : Int) == (i : Int)) = false := by simp; omega
        obtain ⟨T, hT⟩ : ∃ T, M.showsP ls ps (g.seat i) (g.seat j) = T := ⟨_, rfl⟩
        have HT := hid hT
        have htold : g.toldB ls ps i j = T := by unfold M.PGame.toldB; rw [decide_eq_false hij, hT]; rfl
        have HTold := hid htold
        clear hT htold hij
        go_wp2_with fail
        refine (pshows_any b x n cap ps ls g i j _ P1.out O1.out hl hi hlt8 (HS.out i hi).p (HS.out j hlt8).p T HT).mono ?_
        rintro e w2 ⟨rfl, hb⟩
        have B2 : Below w1.heap.size w1 w2 := bl hB hb
        clear hb hB P1 O1
        cases T
        · have HN := hid (hS.out.no hlt8 HTold.out)
          clear hS
          go_wp2
          go_roundg (gk - 1)
          case measure => omega
          case rel => exact ⟨j + 1, L, m, rfl, rfl, by go_num, by omega, by omega, HN, B2⟩
        · have HY : Hid (∀ L' : ByteArray, L'.data.toList = L.data.toList ++ (g.seat j).row j → PSnL g ls ps i (j + 1) L' (m + 1)) := fun L' hL => hS.out.yes hlt8 HTold.out hL
          have hl2 : ¬ 9223372036854775807 < L.size + 9 := by omega
          have P2 := hid (HP.out.after B2)
          clear hS
          go_wp2_with fail
          refine (prow_any b (66 + j * 119) j (g.seat j) _ (P2.out.se hlt8) (HS.out j hlt8) hlt8 P2.out.lt).mono ?_
          rintro e w3 ⟨rfl, hb⟩
          have B3 : Below w1.heap.size w1 w3 := bl B2 hb
          have hrow : ((⟨((g.seat j).row j).toArray⟩ : ByteArray)).size = 9 := rfl
          clear hb B2 P2
          go_wp2
          go_roundg (gk - 1)
          case measure => omega
          case rel => exact ⟨j + 1, _, _, rfl, rfl, by go_num, by omega, by omega, HY.out _ (by simp), B3⟩
    · have j1 : ¬ (j : Int) < 8 := by omega
      obtain rfl : j = 8 := by omega
      have hE : L.data.toList = g.rows ls ps i 8 0 := by have := hS.out.sl; simpa [M.PGame.rows] using this
      have hN : m = (g.count ls ps i 8 0 : Int) := by have := hS.out.sn; simpa [M.PGame.count] using this
      have HE : Hid ((⟨(g.headP i m).toArray⟩ : ByteArray) ++ L = ⟨(g.snap ls ps i).toArray⟩) := by
        unfold Hid
        apply of_list
        rw [app_list, hE, hN]
        rfl
      have P1 := hid (HP.out.after hB)
      have hl2 : ¬ 9223372036854775807 < 9 + L.size := by omega
      have hhd : ((⟨(g.headP i m).toArray⟩ : ByteArray)).size = 9 := rfl
      clear hE hN hS
      go_wp2_with fail
      refine (phead_any b (.slice x n cap) ps g i m _ P1.out (HS.out i hi) hr hi n0 (by omega) t0 t1).mono ?_
      rintro e w2 ⟨rfl, hb⟩
      have B2 : Below w1.heap.size w1 w2 := bl hB hb
      clear hb hB P1
      go_wp2
      go_ret2
      exact ⟨ret_str2 HE.out, B2⟩

end Go.Proofs.Ytonmihojfcjmjab
