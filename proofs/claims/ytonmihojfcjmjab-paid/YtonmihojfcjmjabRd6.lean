import Derived.Test.YtonmihojfcjmjabRd5
import Derived.Test.YtonmihojfcjmjabBM
import Derived.Test.YtonmihojfcjmjabBox2
import Derived.Deep.LoopGhost
/- Contracts: readPair, readMap, Read. -/
namespace Go.Proofs.Ytonmihojfcjmjab
open Go.RowKit
variable {ps : Nat → Bool}
set_option linter.unusedVariables false
attribute [local go_sem] cell_set_off cell_set_blk

/-- What readPair leaves. -/
def PairPost (ps : Nat → Bool) (R : Nat) (s : ByteArray) (st : M.St) (v : Value) (w : World) (r : Ending) (w' : World) : Prop := ∃ (b : Bool) (k : Nat), r = .returned (.bool b) ∧ Fr R v w w' v ∧
  ((b = true ∧ k = st.place + 3 ∧ M.pairStep s st.place = none ∧ Rd (M.pset ps (M.pairA s st.place) (M.pairB s st.place)) w' R s (st.goto k) v) ∨ (b = false ∧ M.pairStep s st.place = some k ∧ Rd ps w' R s (st.goto k) v))

theorem Rd.pair1 {W : World} {R : Nat} {s : ByteArray} {st : M.St} {v : Value} (h : Rd ps W R s st v) (a b : Nat) (ha : a < 8) (hb : b < 8) : Blk (W.setCell ⟨R, 5 + a * 8 + b, none⟩ (.bool true)) R (cellsOf 69 (fun j => if j = 5 + a * 8 + b then .bool true else rdC s st v ps j)) 101 := h.blk.setC _ _
/-- A pair has been laid down. -/
theorem Rd.pair {W : World} {R : Nat} {s : ByteArray} {st : M.St} {v : Value} (h : Rd ps W R s st v) (a b : Nat) (ha : a < 8) (hb : b < 8) :
    Rd (M.pset ps a b) ((W.setCell ⟨R, 5 + a * 8 + b, none⟩ (.bool true)).setCell ⟨R, 5 + b * 8 + a, none⟩ (.bool true)) R s st v :=
  ⟨((h.blk.setC _ _).setC _ _).to (fun j hj => by
      match j with
      | 0 => simp only [rdC]; rw [if_neg (by omega), if_neg (by omega)]
      | 1 => simp only [rdC]; rw [if_neg (by omega), if_neg (by omega)]
      | 2 => simp only [rdC]; rw [if_neg (by omega), if_neg (by omega)]
      | 3 => simp only [rdC]; rw [if_neg (by omega), if_neg (by omega)]
      | 4 => simp only [rdC]; rw [if_neg (by omega), if_neg (by omega)]
      | j + 5 =>
        simp only [rdC, M.pset]
        by_cases c1 : j = 8 * b + a
        · rw [if_pos (by omega), if_pos c1]
        · rw [if_neg (by omega), if_neg c1]
          by_cases c2 : j = 8 * a + b
          · rw [if_pos (by omega), if_pos c2]
          · rw [if_neg (by omega), if_neg c2]),
    own_of h.own (fun g hg => by rw [Below.heap_setCell _ _ _ _ (fun e => h.ne (by rw [hg, e])), Below.heap_setCell _ _ _ _ (fun e => h.ne (by rw [hg, e]))]), h.ne⟩

set_option maxHeartbeats 1000000 in
theorem readPair_any (R : Nat) (s : ByteArray) (st : M.St) (v : Value) (w : World) (h : Rd ps w R s st v) (hs : s.size ≤ 512) (hp : st.place < s.size) :
    Calls Try.prog 58 #[.pointer (some ⟨R, 0, none⟩)] w (PairPost ps R s st v w) := by
  have e0 := M.byteAt_lt hp
  have hd0 : decide (s.size ≤ st.place) = false := by simp; omega
  have H := h
  obtain ⟨k0, k1, k2, k3, k4, kf, kl⟩ := h.blk.five
  clear h
  by_cases t : M.byteAt s st.place = 59
  · have t1 : ((s[st.place].toNat : Int) != 59) = false := by rw [← e0, t]; rfl
    go_enter Try.func58, Try.ntmps58
    go_wp2
    go_quiet (fail)
    have H1 := H.drewN (n := nq)
    have F1 := (Fr.refl R v w).drewN (n := nq)
    generalize w.drewN nq = w1 at H1 F1 ⊢
    clear H k0 k1 k2 k3 k4 kf kl
    obtain ⟨k0, k1, k2, k3, k4, kf, kl⟩ := H1.blk.five
    by_cases z1 : 48 ≤ M.byteAt s (st.place + 1) ∧ M.byteAt s (st.place + 1) ≤ 55
    · obtain ⟨d, hd⟩ : ∃ d, M.hexV (M.byteAt s (st.place + 1)) = d := ⟨_, rfl⟩
      have hz := (M.hexV_zone _).2 z1
      rw [hd] at hz
      have HD : Hid (M.hexV (M.byteAt s (st.goto (st.place + 1)).place) = d) := hd
      have hp1 : st.place + 1 < s.size := M.byteAt_in (by omega)
      by_cases z2 : 48 ≤ M.byteAt s (st.place + 2) ∧ M.byteAt s (st.place + 2) ≤ 55
      · have HS : Hid (M.pairStep s st.place = none) := by unfold Hid M.pairStep; rw [if_neg (by omega), if_neg (by omega), if_neg (by omega)]
        obtain ⟨f, hf⟩ : ∃ d, M.hexV (M.byteAt s (st.place + 2)) = d := ⟨_, rfl⟩
        have hz2 := (M.hexV_zone _).2 z2
        rw [hf] at hz2
        have HF : Hid (M.hexV (M.byteAt s ((st.goto (st.place + 1)).goto (st.place + 1 + 1)).place) = f) := hf
        obtain ⟨x1, x2⟩ := hz
        obtain ⟨x3, x4⟩ := hz2
        obtain ⟨a, rfl⟩ : ∃ a : Nat, d = (a : Int) := ⟨d.toNat, by omega⟩
        obtain ⟨b, rfl⟩ : ∃ b : Nat, f = (b : Int) := ⟨f.toNat, by omega⟩
        have HA : Hid (M.pairA s st.place = a) := by unfold Hid M.pairA; rw [hd]; rfl
        have HB : Hid (M.pairB s st.place = b) := by unfold Hid M.pairB; rw [hf]; rfl
        have ha8 : a < 8 := by omega
        have hb8 : b < 8 := by omega
        clear z1 z2 hd hf t e0
        go_wp2_with fail
        refine (readDigit_ok R s (st.goto (st.place + 1)) v 8 _ (by exact H1.goto (st.place + 1)) hs (a : Int) HD x1 x2).mono ?_
        rintro rr W ⟨rfl, H2, F3⟩
        have F2 : Fr R v w W v := (F1.setR _).trans F3
        clear F1 F3 H1 k0 k1 k2 k3 k4 kf kl HD
        go_wp2_with fail
        refine (readDigit_ok R s ((st.goto (st.place + 1)).goto (st.place + 1 + 1)) v 8 _ (by exact H2) hs (b : Int) HF x3 x4).mono ?_
        rintro rr W2 ⟨rfl, H3, F3⟩
        have F4 : Fr R v w W2 v := F2.trans F3
        clear F2 F3 H2
        have cab := H3.blk.cellC (5 + (a * 8 + b)) (by omega)
        have cba := H3.blk.cellC (5 + (b * 8 + a)) (by omega)
        have cbb := (H3.pair1 a b ha8 hb8).cellC (5 + (b * 8 + a)) (by omega)
        rw [← Nat.add_assoc] at cab cba cbb
        obtain ⟨k0, k1, k2, k3, k4, kf, kl⟩ := H3.blk.five
        go_wp2
        go_ret
        refine ⟨true, st.place + 3, rfl, (F4.setR _).setR _, .inl ⟨rfl, rfl, HS.out, ?_⟩⟩
        rw [HA.out, HB.out]
        exact H3.pair a b ha8 hb8
      · have HS : Hid (M.pairStep s st.place = some (st.place + 2)) := by unfold Hid M.pairStep; rw [if_neg (by omega), if_neg (by omega), if_pos (by omega)]
        have HN : noDigit s ((st.goto (st.place + 1)).goto (st.place + 1 + 1)).place 8 := by
          have := (M.hexV_zone (M.byteAt s (st.place + 2)))
          unfold noDigit
          show M.hexV (M.byteAt s (st.place + 2)) < 0 ∨ 8 ≤ M.hexV (M.byteAt s (st.place + 2))
          rcases Int.lt_or_le (M.hexV (M.byteAt s (st.place + 2))) 0 with x | x
          · exact .inl x
          · exact .inr (by
              rcases Int.lt_or_le (M.hexV (M.byteAt s (st.place + 2))) 8 with y | y
              · exact absurd (this.1 ⟨x, y⟩) z2
              · exact y)
        obtain ⟨x1, x2⟩ := hz
        clear z1 z2 hd t e0
        go_wp2_with fail
        refine (readDigit_ok R s (st.goto (st.place + 1)) v 8 _ (by exact H1.goto (st.place + 1)) hs d HD x1 x2).mono ?_
        rintro rr W ⟨rfl, H2, F3⟩
        have F2 : Fr R v w W v := (F1.setR _).trans F3
        clear F1 F3 H1 k0 k1 k2 k3 k4 kf kl HD
        go_wp2_with fail
        refine (readDigit_no R s ((st.goto (st.place + 1)).goto (st.place + 1 + 1)) v 8 _ (by exact H2) hs (by exact hp1) HN).mono ?_
        rintro rr W2 ⟨rfl, H3, F3⟩
        have F4 : Fr R v w W2 v := F2.trans F3
        clear F2 F3 H2
        go_wp2
        go_ret
        exact ⟨false, st.place + 2, rfl, F4, .inr ⟨rfl, HS.out, H3⟩⟩
    · have HS : Hid (M.pairStep s st.place = some (st.place + 1)) := by unfold Hid M.pairStep; rw [if_neg (by omega), if_pos (by omega)]
      have HN : noDigit s (st.goto (st.place + 1)).place 8 := by
        have := (M.hexV_zone (M.byteAt s (st.place + 1)))
        show M.hexV (M.byteAt s (st.place + 1)) < 0 ∨ 8 ≤ M.hexV (M.byteAt s (st.place + 1))
        rcases Int.lt_or_le (M.hexV (M.byteAt s (st.place + 1))) 0 with x | x
        · exact .inl x
        · exact .inr (by
            rcases Int.lt_or_le (M.hexV (M.byteAt s (st.place + 1))) 8 with y | y
            · exact absurd (this.1 ⟨x, y⟩) z1
            · exact y)
      clear z1 t e0
      go_wp2_with fail
      refine (readDigit_no R s (st.goto (st.place + 1)) v 8 _ (by exact H1.goto (st.place + 1)) hs (by exact hp) HN).mono ?_
      rintro rr W ⟨rfl, H2, F3⟩
      have F2 : Fr R v w W v := (F1.setR _).trans F3
      clear F1 F3 H1 k0 k1 k2 k3 k4 kf kl
      go_wp2
      go_ret
      exact ⟨false, st.place + 1, rfl, F2, .inr ⟨rfl, HS.out, H2⟩⟩
  · have t1 : ((s[st.place].toNat : Int) != 59) = true := by rw [← e0]; simp [t]
    have HT : Hid (M.pairStep s st.place = some st.place) := by unfold Hid M.pairStep; rw [if_pos t]
    clear t e0
    go_enter Try.func58, Try.ntmps58
    go_wp2
    go_quiet (fail)
    go_wp2
    go_ret
    exact ⟨false, st.place, rfl, (Fr.refl _ _ _).drewN, .inr ⟨rfl, HT.out, H.drewN⟩⟩

/-- What readMap tells. -/
def MapR (s : ByteArray) (b : Bool) (k : Nat) : Prop :=
  (b = false ∧ (((M.top s).1 = false ∧ k = (M.top s).2.place) ∨ ((M.top s).1 = true ∧ M.pairsF s (s.size + 1) (M.top s).2.place = some k))) ∨
  (b = true ∧ (M.top s).1 = true ∧ M.pairsF s (s.size + 1) (M.top s).2.place = none)
def MapPost (R : Nat) (s : ByteArray) (v : Value) (w : World) (r : Ending) (w' : World) : Prop := ∃ (b : Bool) (k : Nat) (v' : Value) (ps : Nat → Bool), r = .returned (.bool b) ∧ Rd ps w' R s ((M.top s).2.goto k) v' ∧ Fr R v w w' v' ∧ MapR s b k ∧ (b = true → ps = M.prs s)

theorem goto_self (st : M.St) : st.goto st.place = st := rfl
theorem goto_goto (st : M.St) (i j : Nat) : (st.goto i).goto j = st.goto j := rfl

set_option maxHeartbeats 2000000 in
theorem readMap_any (R : Nat) (s : ByteArray) (v : Value) (w : World) (h : Rd M.noPairs w R s M.st0 v) (hs : s.size ≤ 512) :
    Calls Try.prog 40 #[.pointer (some ⟨R, 0, none⟩)] w (MapPost R s v w) := by
  have H := h
  have HI : Hid ((M.top s).2.Inv s) := M.top_inv s
  obtain ⟨p, hp⟩ : ∃ p, M.top s = p := ⟨_, rfl⟩
  have HP : Hid (M.top s = p) := hp
  have HP2 : Hid (M.tree s 12 M.cubeLo M.cubeHi M.st0 = p) := hp
  clear hp h
  go_enter Try.func40, Try.ntmps40
  go_wp2_with fail
  refine (cube_any _).mono ?_
  rintro rr W ⟨rfl, hb⟩
  have H1 := H.below hb
  have F1 := (Fr.refl R v w).below hb
  clear H hb
  go_wp2_with fail
  refine (readTree_ok 12 _ R s M.st0 v M.cubeLo M.cubeHi 0 _ (by exact H1.alloc) hs (M.st0_inv s) M.cubeLo_cub M.cubeHi_cub (by omega) (by omega)).mono ?_
  rw [HP2.out]
  rintro rr W2 ⟨v', rfl, H2, F3⟩
  have F2 : Fr R v w W2 v' := (F1.alloc _).trans F3
  rw [HP.out] at HI
  clear F1 F3 H1 HP2
  obtain ⟨ok, st⟩ := p
  cases ok
  · go_wp2
    go_ret
    refine ⟨false, st.place, v', M.noPairs, rfl, ?_, F2, .inl ⟨rfl, .inl ⟨?_, ?_⟩⟩, fun x => nomatch x⟩
    · rw [HP.out]; exact H2
    · rw [HP.out]
    · rw [HP.out]
  · go_wp2_with fail
    obtain ⟨Q, hQ⟩ : ∃ Q, M.pairsF s (s.size + 1) st.place = Q := ⟨_, rfl⟩
    have HQ : Hid (M.pairsF s (s.size + 1) st.place = Q) := hQ
    obtain ⟨T, hT⟩ : ∃ T, M.pairsT s (s.size + 1) st.place M.noPairs = T := ⟨_, rfl⟩
    have HT : Hid (M.pairsT s (s.size + 1) st.place M.noPairs = T) := hT
    have HTS : Hid (M.prs s = T) := by unfold Hid M.prs; rw [HP.out]; exact hT
    clear hQ hT
    have hpl := HI.out.pl
    go_loopg [] (s.size + 1) (fun k wr => ∃ (j : Nat) (ps : Nat → Bool), Rd ps wr R s (st.goto j) v' ∧ Fr R v w wr v' ∧ j ≤ s.size ∧ s.size < k + j ∧ Hid (M.pairsF s k j = Q) ∧ Hid (M.pairsT s k j ps = T))
    case atStart => exact ⟨st.place, M.noPairs, H2, F2, hpl, by omega, HQ, HT⟩
    case round =>
      obtain ⟨j, ps, H3, F3, hj, hk, hq, ht⟩ := hrel
      clear H2 F2
      obtain ⟨k0, k1, k2, k3, k4, kf, kl⟩ := H3.blk.five
      simp only [M.St.goto] at k1 k2 k3
      by_cases hlt : j < s.size
      · have hd0 : decide (j < s.size) = true := by simp; omega
        obtain ⟨k', rfl⟩ : ∃ k', gk = k' + 1 := ⟨gk - 1, by omega⟩
        go_wp2
        go_quiet (fail)
        have H4 := H3.drewN (n := nq)
        have F4 := F3.drewN (n := nq)
        generalize wr.drewN nq = w4 at H4 F4 ⊢
        clear H3 F3 k0 k1 k2 k3 k4 kf kl
        go_wp2_with fail
        refine (readPair_any R s (st.goto j) v' _ H4 hs hlt).mono ?_
        rintro rr W3 ⟨b, k2, rfl, F5, hb⟩
        have F6 := F4.trans F5
        clear H4 F4 F5
        rcases hb with ⟨rfl, rfl, hst, H5⟩ | ⟨rfl, hst, H5⟩
        · have HST : Hid (M.pairStep s j = none) := hst
          clear hst
          go_wp2
          go_roundg k'
          case measure => omega
          case rel =>
            have h3 := M.pairStep_in HST.out
            exact ⟨j + 3, _, H5, F6, by omega, by omega, by unfold Hid; rw [← M.pairsF_good hlt HST.out]; exact hq.out, by unfold Hid; have := ht.out; rw [M.pairsT_good hlt HST.out] at this; exact this⟩
        · have HST : Hid (M.pairStep s j = some k2) := hst
          clear hst
          go_wp2
          go_ret
          refine ⟨false, k2, v', ps, rfl, ?_, F6, .inl ⟨rfl, .inr ⟨?_, ?_⟩⟩, fun x => nomatch x⟩
          · rw [HP.out]; exact H5
          · rw [HP.out]
          · rw [HP.out]
            show M.pairsF s (s.size + 1) st.place = some k2
            rw [HQ.out, ← hq.out, M.pairsF_bad hlt HST.out]
      · have hd0 : decide (j < s.size) = false := by simp; omega
        go_wp2
        go_quiet (fail)
        go_wp2
        go_ret
        refine ⟨true, j, v', ps, rfl, ?_, F3.drewN, .inr ⟨rfl, ?_, ?_⟩, fun _ => ?_⟩
        · rw [HP.out]; exact H3.drewN
        · rw [HP.out]
        · rw [HP.out]
          show M.pairsF s (s.size + 1) st.place = none
          rw [HQ.out, ← hq.out, M.pairsF_end (by omega)]
        · rw [HTS.out, ← ht.out, M.pairsT_end (by omega)]

end Go.Proofs.Ytonmihojfcjmjab
