/- Contracts: readPair, readMap, Read. -/
import Derived.Test.YtllhecgjkonfbaaRd5
import Derived.Test.YtllhecgjkonfbaaBox2
import Derived.Deep.LoopGhost
namespace Go.Proofs.Ytllhecgjkonfbaa
open Go.RowKit
set_option linter.unusedVariables false
attribute [local go_sem] cell_set_off cell_set_blk

/-- What readPair leaves. -/
def PairPost (R : Nat) (s : ByteArray) (st : M.St) (v : Value) (w : World) (r : Ending) (w' : World) : Prop := ∃ (b : Bool) (k : Nat), r = .returned (.bool b) ∧ Rd w' R s (st.goto k) v ∧ Fr R v w w' v ∧
  ((b = true ∧ k = st.place + 3 ∧ M.pairStep s st.place = none) ∨ (b = false ∧ M.pairStep s st.place = some k))

set_option maxHeartbeats 1000000 in
theorem readPair_any (R : Nat) (s : ByteArray) (st : M.St) (v : Value) (w : World) (h : Rd w R s st v) (hs : s.size ≤ 512) (hp : st.place < s.size) :
    Calls Try.prog 71 #[.pointer (some ⟨R, 0, none⟩)] w (PairPost R s st v w) := by
  have e0 := M.byteAt_lt hp
  have hd0 : decide (s.size ≤ st.place) = false := by simp; omega
  have H := h
  obtain ⟨k0, k1, k2, k3, k4, kf, kl⟩ := h.blk.five
  clear h
  by_cases t : M.byteAt s st.place = 59
  · have t1 : ((s[st.place].toNat : Int) != 59) = false := by rw [← e0, t]; rfl
    go_enter Try.func71, Try.ntmps71
    go_wp2
    go_quiet (fail)
    have H1 := H.drewN (n := nq)
    have F1 := (Fr.refl R v w).drewN (n := nq)
    generalize w.drewN nq = w1 at H1 F1 ⊢
    clear H k0 k1 k2 k3 k4 kf kl
    obtain ⟨k0, k1, k2, k3, k4, kf, kl⟩ := H1.blk.five
    by_cases z1 : 48 ≤ M.byteAt s (st.place + 1) ∧ M.byteAt s (st.place + 1) ≤ 55
    · obtain ⟨d, hd⟩ : ∃ d, M.hexV (M.byteAt s (st.place + 1)) = d := ⟨_, rfl⟩
      have hz := (M.hexV_zone _).2 z1
      rw [hd] at hz
      have HD : Hid (M.hexV (M.byteAt s (st.goto (st.place + 1)).place) = d) := hd
      have hp1 : st.place + 1 < s.size := M.byteAt_in (by omega)
      by_cases z2 : 48 ≤ M.byteAt s (st.place + 2) ∧ M.byteAt s (st.place + 2) ≤ 55
      · have HS : Hid (M.pairStep s st.place = none) := by unfold Hid M.pairStep; rw [if_neg (by omega), if_neg (by omega), if_neg (by omega)]
        obtain ⟨f, hf⟩ : ∃ d, M.hexV (M.byteAt s (st.place + 2)) = d := ⟨_, rfl⟩
        have hz2 := (M.hexV_zone _).2 z2
        rw [hf] at hz2
        have HF : Hid (M.hexV (M.byteAt s ((st.goto (st.place + 1)).goto (st.place + 1 + 1)).place) = f) := hf
        obtain ⟨x1, x2⟩ := hz
        obtain ⟨x3, x4⟩ := hz2
        clear z1 z2 hd hf t e0
        go_wp2_with fail
        refine (readDigit_ok R s (st.goto (st.place + 1)) v 8 _ (by exact H1.goto (st.place + 1)) hs d HD x1 x2).mono ?_
        rintro rr W ⟨rfl, H2, F3⟩
        have F2 : Fr R v w W v := (F1.setR _).trans F3
        clear F1 F3 H1 k0 k1 k2 k3 k4 kf kl HD
        go_wp2_with fail
        refine (readDigit_ok R s ((st.goto (st.place + 1)).goto (st.place + 1 + 1)) v 8 _ (by exact H2) hs f HF x3 x4).mono ?_
        rintro rr W2 ⟨rfl, H3, F3⟩
        have F4 : Fr R v w W2 v := F2.trans F3
        clear F2 F3 H2
        go_wp2
        go_ret
        exact ⟨true, st.place + 3, rfl, H3, F4, .inl ⟨rfl, rfl, HS.out⟩⟩
      · have HS : Hid (M.pairStep s st.place = some (st.place + 2)) := by unfold Hid M.pairStep; rw [if_neg (by omega), if_neg (by omega), if_pos (by omega)]
        have HN : noDigit s ((st.goto (st.place + 1)).goto (st.place + 1 + 1)).place 8 := by
          have := (M.hexV_zone (M.byteAt s (st.place + 2)))
          unfold noDigit
          show M.hexV (M.byteAt s (st.place + 2)) < 0 ∨ 8 ≤ M.hexV (M.byteAt s (st.place + 2))
          rcases Int.lt_or_le (M.hexV (M.byteAt s (st.place + 2))) 0 with x | x
          · exact .inl x
          · exact .inr (by
              rcases Int.lt_or_le (M.hexV (M.byteAt s (st.place + 2))) 8 with y | y
              · exact absurd (this.1 ⟨x, y⟩) z2
              · exact y)
        obtain ⟨x1, x2⟩ := hz
        clear z1 z2 hd t e0
        go_wp2_with fail
        refine (readDigit_ok R s (st.goto (st.place + 1)) v 8 _ (by exact H1.goto (st.place + 1)) hs d HD x1 x2).mono ?_
        rintro rr W ⟨rfl, H2, F3⟩
        have F2 : Fr R v w W v := (F1.setR _).trans F3
        clear F1 F3 H1 k0 k1 k2 k3 k4 kf kl HD
        go_wp2_with fail
        refine (readDigit_no R s ((st.goto (st.place + 1)).goto (st.place + 1 + 1)) v 8 _ (by exact H2) hs (by exact hp1) HN).mono ?_
        rintro rr W2 ⟨rfl, H3, F3⟩
        have F4 : Fr R v w W2 v := F2.trans F3
        clear F2 F3 H2
        go_wp2
        go_ret
        exact ⟨false, st.place + 2, rfl, H3, F4, .inr ⟨rfl, HS.out⟩⟩
    · have HS : Hid (M.pairStep s st.place = some (st.place + 1)) := by unfold Hid M.pairStep; rw [if_neg (by omega), if_pos (by omega)]
      have HN : noDigit s (st.goto (st.place + 1)).place 8 := by
        have := (M.hexV_zone (M.byteAt s (st.place + 1)))
        show M.hexV (M.byteAt s (st.place + 1)) < 0 ∨ 8 ≤ M.hexV (M.byteAt s (st.place + 1))
        rcases Int.lt_or_le (M.hexV (M.byteAt s (st.place + 1))) 0 with x | x
        · exact .inl x
        · exact .inr (by
            rcases Int.lt_or_le (M.hexV (M.byteAt s (st.place + 1))) 8 with y | y
            · exact absurd (this.1 ⟨x, y⟩) z1
            · exact y)
      clear z1 t e0
      go_wp2_with fail
      refine (readDigit_no R s (st.goto (st.place + 1)) v 8 _ (by exact H1.goto (st.place + 1)) hs (by exact hp) HN).mono ?_
      rintro rr W ⟨rfl, H2, F3⟩
      have F2 : Fr R v w W v := (F1.setR _).trans F3
      clear F1 F3 H1 k0 k1 k2 k3 k4 kf kl
      go_wp2
      go_ret
      exact ⟨false, st.place + 1, rfl, H2, F2, .inr ⟨rfl, HS.out⟩⟩
  · have t1 : ((s[st.place].toNat : Int) != 59) = true := by rw [← e0]; simp [t]
    have HT : Hid (M.pairStep s st.place = some st.place) := by unfold Hid M.pairStep; rw [if_pos t]
    clear t e0
    go_enter Try.func71, Try.ntmps71
    go_wp2
    go_quiet (fail)
    go_wp2
    go_ret
    exact ⟨false, st.place, rfl, H.drewN, (Fr.refl _ _ _).drewN, .inr ⟨rfl, HT.out⟩⟩

/-- What readMap tells. -/
def MapR (s : ByteArray) (b : Bool) (k : Nat) : Prop :=
  (b = false ∧ (((M.top s).1 = false ∧ k = (M.top s).2.place) ∨ ((M.top s).1 = true ∧ M.pairsF s (s.size + 1) (M.top s).2.place = some k))) ∨
  (b = true ∧ (M.top s).1 = true ∧ M.pairsF s (s.size + 1) (M.top s).2.place = none)
def MapPost (R : Nat) (s : ByteArray) (v : Value) (w : World) (r : Ending) (w' : World) : Prop := ∃ (b : Bool) (k : Nat) (v' : Value), r = .returned (.bool b) ∧ Rd w' R s ((M.top s).2.goto k) v' ∧ Fr R v w w' v' ∧ MapR s b k

theorem goto_self (st : M.St) : st.goto st.place = st := rfl
theorem goto_goto (st : M.St) (i j : Nat) : (st.goto i).goto j = st.goto j := rfl

set_option maxHeartbeats 2000000 in
theorem readMap_any (R : Nat) (s : ByteArray) (v : Value) (w : World) (h : Rd w R s M.st0 v) (hs : s.size ≤ 512) :
    Calls Try.prog 52 #[.pointer (some ⟨R, 0, none⟩)] w (MapPost R s v w) := by
  have H := h
  have HI : Hid ((M.top s).2.Inv s) := M.top_inv s
  obtain ⟨p, hp⟩ : ∃ p, M.top s = p := ⟨_, rfl⟩
  have HP : Hid (M.top s = p) := hp
  have HP2 : Hid (M.tree s 12 M.cubeLo M.cubeHi M.st0 = p) := hp
  clear hp h
  go_enter Try.func52, Try.ntmps52
  go_wp2_with fail
  refine (cube_any _).mono ?_
  rintro rr W ⟨rfl, hb⟩
  have H1 := H.below hb
  have F1 := (Fr.refl R v w).below hb
  clear H hb
  go_wp2_with fail
  refine (readTree_ok 12 R s M.st0 v M.cubeLo M.cubeHi 0 _ (by exact H1.alloc) hs (M.st0_inv s) M.cubeLo_cub M.cubeHi_cub (by omega) (by omega)).mono ?_
  rw [HP2.out]
  rintro rr W2 ⟨v', rfl, H2, F3⟩
  have F2 : Fr R v w W2 v' := (F1.alloc _).trans F3
  rw [HP.out] at HI
  clear F1 F3 H1 HP2
  obtain ⟨ok, st⟩ := p
  cases ok
  · go_wp2
    go_ret
    refine ⟨false, st.place, v', rfl, ?_, F2, .inl ⟨rfl, .inl ⟨?_, ?_⟩⟩⟩
    · rw [HP.out]; exact H2
    · rw [HP.out]
    · rw [HP.out]
  · go_wp2_with fail
    obtain ⟨Q, hQ⟩ : ∃ Q, M.pairsF s (s.size + 1) st.place = Q := ⟨_, rfl⟩
    have HQ : Hid (M.pairsF s (s.size + 1) st.place = Q) := hQ
    clear hQ
    have hpl := HI.out.pl
    go_loopg [] (s.size + 1) (fun k wr => ∃ j : Nat, Rd wr R s (st.goto j) v' ∧ Fr R v w wr v' ∧ j ≤ s.size ∧ s.size < k + j ∧ Hid (M.pairsF s k j = Q))
    case atStart => exact ⟨st.place, H2, F2, hpl, by omega, HQ⟩
    case round =>
      obtain ⟨j, H3, F3, hj, hk, hq⟩ := hrel
      clear H2 F2
      obtain ⟨k0, k1, k2, k3, k4, kf, kl⟩ := H3.blk.five
      simp only [M.St.goto] at k1 k2 k3
      by_cases hlt : j < s.size
      · have hd0 : decide (j < s.size) = true := by simp; omega
        obtain ⟨k', rfl⟩ : ∃ k', gk = k' + 1 := ⟨gk - 1, by omega⟩
        go_wp2
        go_quiet (fail)
        have H4 := H3.drewN (n := nq)
        have F4 := F3.drewN (n := nq)
        generalize wr.drewN nq = w4 at H4 F4 ⊢
        clear H3 F3 k0 k1 k2 k3 k4 kf kl
        go_wp2_with fail
        refine (readPair_any R s (st.goto j) v' _ H4 hs hlt).mono ?_
        rintro rr W3 ⟨b, k2, rfl, H5, F5, hb⟩
        have F6 := F4.trans F5
        clear H4 F4 F5
        rcases hb with ⟨rfl, rfl, hst⟩ | ⟨rfl, hst⟩
        · have HST : Hid (M.pairStep s j = none) := hst
          clear hst
          go_wp2
          go_roundg k'
          case measure => omega
          case rel =>
            have h3 := M.pairStep_in HST.out
            exact ⟨j + 3, H5, F6, by omega, by omega, by unfold Hid; rw [← M.pairsF_good hlt HST.out]; exact hq.out⟩
        · have HST : Hid (M.pairStep s j = some k2) := hst
          clear hst
          go_wp2
          go_ret
          refine ⟨false, k2, v', rfl, ?_, F6, .inl ⟨rfl, .inr ⟨?_, ?_⟩⟩⟩
          · rw [HP.out]; exact H5
          · rw [HP.out]
          · rw [HP.out]
            show M.pairsF s (s.size + 1) st.place = some k2
            rw [HQ.out, ← hq.out, M.pairsF_bad hlt HST.out]
      · have hd0 : decide (j < s.size) = false := by simp; omega
        go_wp2
        go_quiet (fail)
        go_wp2
        go_ret
        refine ⟨true, j, v', rfl, ?_, F3.drewN, .inr ⟨rfl, ?_, ?_⟩⟩
        · rw [HP.out]; exact H3.drewN
        · rw [HP.out]
        · rw [HP.out]
          show M.pairsF s (s.size + 1) st.place = none
          rw [HQ.out, ← hq.out, M.pairsF_end (by omega)]

end Go.Proofs.Ytllhecgjkonfbaa
