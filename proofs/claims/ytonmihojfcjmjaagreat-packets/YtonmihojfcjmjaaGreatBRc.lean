import Derived.Test.YtonmihojfcjmjaaGreatBRb
import Derived.Test.YtonmihojfcjmjaaGreatBM
import Derived.Test.YtonmihojfcjmjaaGreatBBz
import Derived.Deep.LoopGhost
import Derived.Test.YtonmihojfcjmjaaGreatBK
/- Contracts: readPair, readMap, Read. -/
namespace Go.Proofs.YtonmihojfcjmjaaGreat
open Go.RowKit
variable {ps : Nat → Bool}
set_option linter.unusedVariables false
attribute [local go_sem] cell_set_off cell_set_blk

/-- What readPair leaves. -/
def PairPost (ps : Nat → Bool) (R : Nat) (s : ByteArray) (st : M.St) (v : Value) (w : World) (r : Ending) (w' : World) : Prop := ∃ (b : Bool) (k : Nat), r = .returned (.bool b) ∧ Fr R v w w' v ∧
  ((b = true ∧ k = st.place + 3 ∧ M.pairStep s st.place = none ∧ Rd (M.pset ps (M.pairA s st.place) (M.pairB s st.place)) w' R s (st.goto k) v) ∨ (b = false ∧ M.pairStep s st.place = some k ∧ Rd ps w' R s (st.goto k) v))

theorem Rd.pair1 {W : World} {R : Nat} {s : ByteArray} {st : M.St} {v : Value} (h : Rd ps W R s st v) (a b : Nat) (ha : a < 8) (hb : b < 8) : Blk (W.setCell ⟨R, 5 + a * 8 + b, none⟩ (.bool true)) R (cellsOf 69 (fun j => if j = 5 + a * 8 + b then .bool true else rdC s st v ps j)) 89 := h.blk.setC _ _
/-- A pair has been laid down. -/
theorem Rd.pair {W : World} {R : Nat} {s : ByteArray} {st : M.St} {v : Value} (h : Rd ps W R s st v) (a b : Nat) (ha : a < 8) (hb : b < 8) :
    Rd (M.pset ps a b) ((W.setCell ⟨R, 5 + a * 8 + b, none⟩ (.bool true)).setCell ⟨R, 5 + b * 8 + a, none⟩ (.bool true)) R s st v :=
  ⟨((h.blk.setC _ _).setC _ _).to (fun j hj => by
      match j with
      | 0 => simp only [rdC]; rw [if_neg (by omega), if_neg (by omega)]
      | 1 => simp only [rdC]; rw [if_neg (by omega), if_neg (by omega)]
      | 2 => simp only [rdC]; rw [if_neg (by omega), if_neg (by omega)]
      | 3 => simp only [rdC]; rw [if_neg (by omega), if_neg (by omega)]
      | 4 => simp only [rdC]; rw [if_neg (by omega), if_neg (by omega)]
      | j + 5 =>
        simp only [rdC, M.pset]
        by_cases c1 : j = 8 * b + a
        · rw [if_pos (by omega), if_pos c1]
        · rw [if_neg (by omega), if_neg c1]
          by_cases c2 : j = 8 * a + b
          · rw [if_pos (by omega), if_pos c2]
          · rw [if_neg (by omega), if_neg c2]),
    own_of h.own (fun g hg => by rw [Below.heap_setCell _ _ _ _ (fun e => h.ne (by rw [hg, e])), Below.heap_setCell _ _ _ _ (fun e => h.ne (by rw [hg, e]))]), h.ne⟩

set_option maxHeartbeats 1000000 in
theorem readPair_any (R : Nat) (s : ByteArray) (st : M.St) (v : Value) (w : World) (h : Rd ps w R s st v) (hs : s.size ≤ 512) (hp : st.place < s.size) :
    Calls Tryz.prog 49 #[.pointer (some ⟨R, 0, none⟩)] w (PairPost ps R s st v w) := by
  have e0 := M.byteAt_lt hp
  have hd0 : decide (s.size ≤ st.place) = false := by simp; omega
  have H := h
  obtain ⟨k0, k1, k2, k3, k4, kf, kl⟩ := h.blk.five
  clear h
  by_cases t : M.byteAt s st.place = 59
  · have t1 : ((s[st.place].toNat : Int) != 59) = false := by rw [← e0, t]; rfl
    go_enter Tryz.func49, Tryz.ntmps49
    go_wp2
    go_quiet (fail)
    have H1 := H.drewN (n := nq)
    have F1 := (Fr.refl R v w).drewN (n := nq)
    generalize w.drewN nq = w1 at H1 F1 ⊢
    clear H k0 k1 k2 k3 k4 kf kl
    obtain ⟨k0, k1, k2, k3, k4, kf, kl⟩ := H1.blk.five
    by_cases z1 : 48 ≤ M.byteAt s (st.place + 1) ∧ M.byteAt s (st.place + 1) ≤ 55
    · obtain ⟨d, hd⟩ : ∃ d, M.hexV (M.byteAt s (st.place + 1)) = d := ⟨_, rfl⟩
      have hz := (M.hexV_zone _).2 z1
      rw [hd] at hz
      have HD : Hid (M.hexV (M.byteAt s (st.goto (st.place + 1)).place) = d) := hd
      have hp1 : st.place + 1 < s.size := M.byteAt_in (by omega)
      by_cases z2 : 48 ≤ M.byteAt s (st.place + 2) ∧ M.byteAt s (st.place + 2) ≤ 55
      · have HS : Hid (M.pairStep s st.place = none) := by unfold Hid M.pairStep; rw [if_neg (by omega), if_neg (by omega), if_neg (by omega)]
        obtain ⟨f, hf⟩ : ∃ d, M.hexV (M.byteAt s (st.place + 2)) = d := ⟨_, rfl⟩
        have hz2 := (M.hexV_zone _).2 z2
        rw [hf] at hz2
        have HF : Hid (M.hexV (M.byteAt s ((st.goto (st.place + 1)).goto (st.place + 1 + 1)).place) = f) := hf
        obtain ⟨x1, x2⟩ := hz
        obtain ⟨x3, x4⟩ := hz2
        obtain ⟨a, rfl⟩ : ∃ a : Nat, d = (a : Int) := ⟨d.toNat, by omega⟩
        obtain ⟨b, rfl⟩ : ∃ b : Nat, f = (b : Int) := ⟨f.toNat, by omega⟩
        have HA : Hid (M.pairA s st.place = a) := by unfold Hid M.pairA; rw [hd]; rfl
        have HB : Hid (M.pairB s st.place = b) := by unfold Hid M.pairB; rw [hf]; rfl
        have ha8 : a < 8 := by omega
        have hb8 : b < 8 := by omega
        clear z1 z2 hd hf t e0
        go_wp2_with fail
        refine (readDigit_ok R s (st.goto (st.place + 1)) v 8 _ (by exact H1.goto (st.place + 1)) hs (a : Int) HD x1 x2).mono ?_
        rintro rr W ⟨rfl, H2, F3⟩
        have F2 : Fr R v w W v := (F1.setR _).trans F3
        clear F1 F3 H1 k0 k1 k2 k3 k4 kf kl HD
        go_wp2_with fail
        refine (readDigit_ok R s ((st.goto (st.place + 1)).goto (st.place + 1 + 1)) v 8 _ (by exact H2) hs (b : Int) HF x3 x4).mono ?_
        rintro rr W2 ⟨rfl, H3, F3⟩
        have F4 : Fr R v w W2 v := F2.trans F3
        clear F2 F3 H2
        have cab := H3.blk.cellC (5 + (a * 8 + b)) (by omega)
        have cba := H3.blk.cellC (5 + (b * 8 + a)) (by omega)
        have cbb := (H3.pair1 a b ha8 hb8).cellC (5 + (b * 8 + a)) (by omega)
        rw [← Nat.add_assoc] at cab cba cbb
        obtain ⟨k0, k1, k2, k3, k4, kf, kl⟩ := H3.blk.five
        go_wp2
        go_ret
        refine ⟨true, st.place + 3, rfl, (F4.setR _).setR _, .inl ⟨rfl, rfl, HS.out, ?_⟩⟩
        rw [HA.out, HB.out]
        exact H3.pair a b ha8 hb8
      · have HS : Hid (M.pairStep s st.place = some (st.place + 2)) := by unfold Hid M.pairStep; rw [if_neg (by omega), if_neg (by omega), if_pos (by omega)]
        have HN : noDigit s ((st.goto (st.place + 1)).goto (st.place + 1 + 1)).place 8 := by
          have := (M.hexV_zone (M.byteAt s (st.place + 2)))
          unfold noDigit
          show M.hexV (M.byteAt s (st.place + 2)) < 0 ∨ 8 ≤ M.hexV (M.byteAt s (st.place + 2))
          rcases Int.lt_or_le (M.hexV (M.byteAt s (st.place + 2))) 0 with x | x
          · exact .inl x
          · exact .inr (by
              rcases Int.lt_or_le (M.hexV (M.byteAt s (st.place + 2))) 8 with y | y
              · exact absurd (this.1 ⟨x, y⟩) z2
              · exact y)
        obtain ⟨x1, x2⟩ := hz
        clear z1 z2 hd t e0
        go_wp2_with fail
        refine (readDigit_ok R s (st.goto (st.place + 1)) v 8 _ (by exact H1.goto (st.place + 1)) hs d HD x1 x2).mono ?_
        rintro rr W ⟨rfl, H2, F3⟩
        have F2 : Fr R v w W v := (F1.setR _).trans F3
        clear F1 F3 H1 k0 k1 k2 k3 k4 kf kl HD
        go_wp2_with fail
        refine (readDigit_no R s ((st.goto (st.place + 1)).goto (st.place + 1 + 1)) v 8 _ (by exact H2) hs (by exact hp1) HN).mono ?_
        rintro rr W2 ⟨rfl, H3, F3⟩
        have F4 : Fr R v w W2 v := F2.trans F3
        clear F2 F3 H2
        go_wp2
        go_ret
        exact ⟨false, st.place + 2, rfl, F4, .inr ⟨rfl, HS.out, H3⟩⟩
    · have HS : Hid (M.pairStep s st.place = some (st.place + 1)) := by unfold Hid M.pairStep; rw [if_neg (by omega), if_pos (by omega)]
      have HN : noDigit s (st.goto (st.place + 1)).place 8 := by
        have := (M.hexV_zone (M.byteAt s (st.place + 1)))
        show M.hexV (M.byteAt s (st.place + 1)) < 0 ∨ 8 ≤ M.hexV (M.byteAt s (st.place + 1))
        rcases Int.lt_or_le (M.hexV (M.byteAt s (st.place + 1))) 0 with x | x
        · exact .inl x
        · exact .inr (by
            rcases Int.lt_or_le (M.hexV (M.byteAt s (st.place + 1))) 8 with y | y
            · exact absurd (this.1 ⟨x, y⟩) z1
            · exact y)
      clear z1 t e0
      go_wp2_with fail
      refine (readDigit_no R s (st.goto (st.place + 1)) v 8 _ (by exact H1.goto (st.place + 1)) hs (by exact hp) HN).mono ?_
      rintro rr W ⟨rfl, H2, F3⟩
      have F2 : Fr R v w W v := (F1.setR _).trans F3
      clear F1 F3 H1 k0 k1 k2 k3 k4 kf kl
      go_wp2
      go_ret
      exact ⟨false, st.place + 1, rfl, F2, .inr ⟨rfl, HS.out, H2⟩⟩
  · have t1 : ((s[st.place].toNat : Int) != 59) = true := by rw [← e0]; simp [t]
    have HT : Hid (M.pairStep s st.place = some st.place) := by unfold Hid M.pairStep; rw [if_pos t]
    clear t e0
    go_enter Tryz.func49, Tryz.ntmps49
    go_wp2
    go_quiet (fail)
    go_wp2
    go_ret
    exact ⟨false, st.place, rfl, (Fr.refl _ _ _).drewN, .inr ⟨rfl, HT.out, H.drewN⟩⟩

/-- What readMap tells. -/
def MapR (s : ByteArray) (b : Bool) (k : Nat) : Prop :=
  (b = false ∧ (((M.top s).1 = false ∧ k = (M.top s).2.place) ∨ ((M.top s).1 = true ∧ M.pairsF s (s.size + 1) (M.top s).2.place = some k))) ∨
  (b = true ∧ (M.top s).1 = true ∧ M.pairsF s (s.size + 1) (M.top s).2.place = none)
def MapPost (R : Nat) (s : ByteArray) (v : Value) (w : World) (r : Ending) (w' : World) : Prop := ∃ (b : Bool) (k : Nat) (v' : Value) (ps : Nat → Bool), r = .returned (.bool b) ∧ Rd ps w' R s ((M.top s).2.goto k) v' ∧ Fr R v w w' v' ∧ MapR s b k ∧ (b = true → ps = M.prs s)

theorem goto_self (st : M.St) : st.goto st.place = st := rfl
theorem goto_goto (st : M.St) (i j : Nat) : (st.goto i).goto j = st.goto j := rfl

set_option maxHeartbeats 2000000 in
theorem readMap_any (R : Nat) (s : ByteArray) (v : Value) (w : World) (h : Rd M.noPairs w R s M.st0 v) (hs : s.size ≤ 512) :
    Calls Tryz.prog 27 #[.pointer (some ⟨R, 0, none⟩)] w (MapPost R s v w) := by
  have H := h
  have HI : Hid ((M.top s).2.Inv s) := M.top_inv s
  obtain ⟨p, hp⟩ : ∃ p, M.top s = p := ⟨_, rfl⟩
  have HP : Hid (M.top s = p) := hp
  have HP2 : Hid (M.tree s 12 M.cubeLo M.cubeHi M.st0 = p) := hp
  clear hp h
  go_enter Tryz.func27, Tryz.ntmps27
  go_wp2_with fail
  refine (cube_any _).mono ?_
  rintro rr W ⟨rfl, hb⟩
  have H1 := H.below hb
  have F1 := (Fr.refl R v w).below hb
  clear H hb
  go_wp2_with fail
  refine (readTree_ok 12 _ R s M.st0 v M.cubeLo M.cubeHi 0 _ (by exact H1.alloc) hs (M.st0_inv s) M.cubeLo_cub M.cubeHi_cub (by omega) (by omega)).mono ?_
  rw [HP2.out]
  rintro rr W2 ⟨v', rfl, H2, F3⟩
  have F2 : Fr R v w W2 v' := (F1.alloc _).trans F3
  rw [HP.out] at HI
  clear F1 F3 H1 HP2
  obtain ⟨ok, st⟩ := p
  cases ok
  · go_wp2
    go_ret
    refine ⟨false, st.place, v', M.noPairs, rfl, ?_, F2, .inl ⟨rfl, .inl ⟨?_, ?_⟩⟩, fun x => nomatch x⟩
    · rw [HP.out]; exact H2
    · rw [HP.out]
    · rw [HP.out]
  · go_wp2_with fail
    obtain ⟨Q, hQ⟩ : ∃ Q, M.pairsF s (s.size + 1) st.place = Q := ⟨_, rfl⟩
    have HQ : Hid (M.pairsF s (s.size + 1) st.place = Q) := hQ
    obtain ⟨T, hT⟩ : ∃ T, M.pairsT s (s.size + 1) st.place M.noPairs = T := ⟨_, rfl⟩
    have HT : Hid (M.pairsT s (s.size + 1) st.place M.noPairs = T) := hT
    have HTS : Hid (M.prs s = T) := by unfold Hid M.prs; rw [HP.out]; exact hT
    clear hQ hT
    have hpl := HI.out.pl
    go_loopg [] (s.size + 1) (fun k wr => ∃ (j : Nat) (ps : Nat → Bool), Rd ps wr R s (st.goto j) v' ∧ Fr R v w wr v' ∧ j ≤ s.size ∧ s.size < k + j ∧ Hid (M.pairsF s k j = Q) ∧ Hid (M.pairsT s k j ps = T))
    case atStart => exact ⟨st.place, M.noPairs, H2, F2, hpl, by omega, HQ, HT⟩
    case round =>
      obtain ⟨j, ps, H3, F3, hj, hk, hq, ht⟩ := hrel
      clear H2 F2
      obtain ⟨k0, k1, k2, k3, k4, kf, kl⟩ := H3.blk.five
      simp only [M.St.goto] at k1 k2 k3
      by_cases hlt : j < s.size
      · have hd0 : decide (j < s.size) = true := by simp; omega
        obtain ⟨k', rfl⟩ : ∃ k', gk = k' + 1 := ⟨gk - 1, by omega⟩
        go_wp2
        go_quiet (fail)
        have H4 := H3.drewN (n := nq)
        have F4 := F3.drewN (n := nq)
        generalize wr.drewN nq = w4 at H4 F4 ⊢
        clear H3 F3 k0 k1 k2 k3 k4 kf kl
        go_wp2_with fail
        refine (readPair_any R s (st.goto j) v' _ H4 hs hlt).mono ?_
        rintro rr W3 ⟨b, k2, rfl, F5, hb⟩
        have F6 := F4.trans F5
        clear H4 F4 F5
        rcases hb with ⟨rfl, rfl, hst, H5⟩ | ⟨rfl, hst, H5⟩
        · have HST : Hid (M.pairStep s j = none) := hst
          clear hst
          go_wp2
          go_roundg k'
          case measure => omega
          case rel =>
            have h3 := M.pairStep_in HST.out
            exact ⟨j + 3, _, H5, F6, by omega, by omega, by unfold Hid; rw [← M.pairsF_good hlt HST.out]; exact hq.out, by unfold Hid; have := ht.out; rw [M.pairsT_good hlt HST.out] at this; exact this⟩
        · have HST : Hid (M.pairStep s j = some k2) := hst
          clear hst
          go_wp2
          go_ret
          refine ⟨false, k2, v', ps, rfl, ?_, F6, .inl ⟨rfl, .inr ⟨?_, ?_⟩⟩, fun x => nomatch x⟩
          · rw [HP.out]; exact H5
          · rw [HP.out]
          · rw [HP.out]
            show M.pairsF s (s.size + 1) st.place = some k2
            rw [HQ.out, ← hq.out, M.pairsF_bad hlt HST.out]
      · have hd0 : decide (j < s.size) = false := by simp; omega
        go_wp2
        go_quiet (fail)
        go_wp2
        go_ret
        refine ⟨true, j, v', ps, rfl, ?_, F3.drewN, .inr ⟨rfl, ?_, ?_⟩, fun _ => ?_⟩
        · rw [HP.out]; exact H3.drewN
        · rw [HP.out]
        · rw [HP.out]
          show M.pairsF s (s.size + 1) st.place = none
          rw [HQ.out, ← hq.out, M.pairsF_end (by omega)]
        · rw [HTS.out, ← ht.out, M.pairsT_end (by omega)]

end Go.Proofs.YtonmihojfcjmjaaGreat

/- Contracts: Read, Check. -/
namespace Go.Proofs.YtonmihojfcjmjaaGreat
open Go.RowKit
set_option linter.unusedVariables false
attribute [local go_sem] cell_set_off cell_set_blk
attribute [local go_sem ↓] big65 big65'

/-- The cells of a map: its leaves, its pairs. -/
def mapC (v : Value) (ps : Nat → Bool) : Nat → Value
  | 0 => v
  | i + 1 => .bool (ps i)
/-- These are a map's cells. -/
structure MapIs (cs : Array Value) (v : Value) (ps : Nat → Bool) : Prop where
  is : cs = cellsOf 65 (mapC v ps)
theorem MapIs.at0 {cs : Array Value} {v : Value} {ps : Nat → Bool} (h : MapIs cs v ps) : cs[0]? = some v := by rw [h.is]; exact cellsOf_get _ (by omega)

theorem zeroReader : Tryz.zeroCells89 = cellsOf 69 (rdC ⟨#[]⟩ ⟨0, 0, 0, []⟩ (.slice none 0 0) M.noPairs) := by kernel_rfl
theorem zeroMap : Tryz.zeroCells46 = cellsOf 65 (mapC (.slice none 0 0) M.noPairs) := by kernel_rfl

/-- What Read gives back. -/
def ReadPost (s : ByteArray) (w : World) (r : Ending) (w' : World) : Prop := ∃ (e k : Int) (cs : Array Value), r = .returned (.tuple #[.agg cs, .int .i64 e, .int .i64 k]) ∧ (cs.size = 65 ∧ ∀ v ∈ cs.toList, v.oneCell' = true) ∧ M.errS s = (e, k) ∧
  (e = 0 → ∃ (x : Option Addr) (n cap : Nat), MapIs cs (.slice x n cap) (M.prs s) ∧ w'.ownsRow w.heap.size 137 7 (.slice x n cap) (M.top s).2.leaves.length (flat (M.top s).2.leaves)) ∧ Below w.heap.size w w'

theorem ReadPost.bad {s : ByteArray} {w w' : World} {e k : Int} {cs : Array Value} (h : M.errS s = (e, k)) (he : e ≠ 0) (hc : cs.size = 65 ∧ ∀ v ∈ cs.toList, v.oneCell' = true) (hb : Below w.heap.size w w') : ReadPost s w (.returned (.tuple #[.agg cs, .int .i64 e, .int .i64 k])) w' :=
  ⟨e, k, cs, rfl, hc, h, fun x => absurd x he, hb⟩
theorem errS_long {s : ByteArray} (h : 512 < s.size) : M.errS s = (2, 0) := by unfold M.errS; rw [if_pos h]
theorem errS_tree {s : ByteArray} (h : s.size ≤ 512) (h1 : (M.top s).1 = false) : M.errS s = (3, ((M.top s).2.place : Int)) := by unfold M.errS; rw [if_neg (by omega), if_pos h1]
theorem errS_pair {s : ByteArray} {k : Nat} (h : s.size ≤ 512) (h1 : (M.top s).1 = true) (h2 : M.pairsF s (s.size + 1) (M.top s).2.place = some k) : M.errS s = (3, (k : Int)) := by
  unfold M.errS; rw [if_neg (by omega), if_neg (by simp [h1]), h2]
theorem errS_none {s : ByteArray} (h : s.size ≤ 512) (h1 : (M.top s).1 = true) (h2 : M.pairsF s (s.size + 1) (M.top s).2.place = none) : M.errS s = if 0 ≤ (M.top s).2.wrong then (4, (M.top s).2.wrong) else (0, 0) := by
  unfold M.errS; rw [if_neg (by omega), if_neg (by simp [h1]), h2]

theorem Fr.toBelow {B R : Nat} {v v' : Value} {w W W' : World} (hw : Below B w W) (hB : B ≤ W.heap.size) (h : Fr R v W W' v') (hR : B ≤ R) (hv : ∀ g, v.ownBlock = some g → B ≤ g) : Below B w W' := by
  refine hw.trans ⟨h.os, h.tape, h.output, h.size, fun k hk => h.block k (by omega) (by omega) (fun e => ?_)⟩
  have := hv k e.symm
  omega

theorem reader_cells (s : ByteArray) : (Tryz.zeroCells89.toList.set 0 (.string s)).set 3 (.int .i64 (-1)) = (cellsOf 69 (rdC s M.st0 (.slice none 0 0) M.noPairs)).toList := by
  rw [zeroReader, cellsOf_toList_set, cellsOf_toList_set]
  exact congrArg Array.toList (cellsOf_congr (fun j _ => by match j with | 0 => rfl | 1 => rfl | 2 => rfl | 3 => rfl | 4 => rfl | j + 5 => simp [rdC]))
theorem rdC_one (s : ByteArray) (st : M.St) (x : Option Addr) (n cap : Nat) (ps : Nat → Bool) : ∀ i, i < 69 → (rdC s st (.slice x n cap) ps i).oneCell' = true := fun j _ => by match j with | 0 => rfl | 1 => rfl | 2 => rfl | 3 => rfl | 4 => rfl | j + 5 => rfl
theorem mapC_one (x : Option Addr) (n cap : Nat) (ps : Nat → Bool) : ∀ i, i < 65 → (mapC (.slice x n cap) ps i).oneCell' = true := fun j _ => by match j with | 0 => rfl | j + 1 => rfl
theorem zeroMap_one : ∀ v ∈ Tryz.zeroCells46.toList, v.oneCell' = true := by rw [zeroMap]; exact cellsOf_one (mapC_one _ _ _ _)

/-- A result that is a whole variable, and two more. -/
theorem results_map {fn : Func} {p u v : Tmp} (h : fn.results = #[.cell p 46, .tmp u, .tmp v]) (tmps : Array Value) (w : World) (g : Nat) (cs : Array Value)
    (hp : tmps.getD p undef = .pointer (some ⟨g, 0, none⟩)) (q : Blk w g cs 46) (hc : cs.size = 65) : (results fn tmps).run Tryz.prog w = .ok (.tuple #[.agg cs, tmps.getD u undef, tmps.getD v undef]) w := by
  have hp' : tmps[p]?.getD undef = .pointer (some ⟨g, 0, none⟩) := by simpa using hp
  have hl := run_loadVar_row (P := Tryz.prog) w g 46 46 cs (0, 0) _ q.at_ Tryz.underlying46 rfl (by rw [hc]; kernel_rfl)
  simp [results, h, hp', asAddr, hl]

set_option maxHeartbeats 1000000 in
theorem read_long (s : ByteArray) (w : World) (h : 512 < s.size) (hm : s.size ≤ maxLen) : Calls Tryz.prog 12 #[.string s] w (ReadPost s w) := by
  have E : Hid (M.errS s = (2, 0)) := errS_long h
  have hc : decide ((512 : Int) < (s.size : Int)) = true := by simp; omega
  unfold maxLen at hm
  obtain ⟨W1, hst, q0, ho⟩ := store_new (P := Tryz.prog) (show Blk (w.alloc (.cells Tryz.zeroCells46 46)) w.heap.size Tryz.zeroCells46 46 from Blk.new rfl) Tryz.zeroCells46.toList (by simp) zeroMap_one
  have hb : Below w.heap.size w W1 := On.toBelow (by go_grown) (by simp) ho (Nat.le_refl _)
  have c0 : Hid (Blk W1 w.heap.size Tryz.zeroCells46 46) := by unfold Hid; simpa using q0
  clear ho
  go_enter Tryz.func12, Tryz.ntmps12
  go_wp2
  exact bodyPost_ret (v := .tuple #[.agg Tryz.zeroCells46, .int .i64 2, .int .i64 0]) (results_map Tryz.results12 _ _ _ _ rfl c0.out Tryz.zeroCells46_size) rfl (.bad E.out (by omega) ⟨Tryz.zeroCells46_size, zeroMap_one⟩ hb)

set_option maxHeartbeats 1000000 in
theorem read_short (s : ByteArray) (w : World) (hs : s.size ≤ 512) : Calls Tryz.prog 12 #[.string s] w (ReadPost s w) := by
  have HI : Hid ((M.top s).2.Inv s) := M.top_inv s
  obtain ⟨W1, hst, q1, ho⟩ := store_new (P := Tryz.prog) (show Blk ((w.alloc (.cells Tryz.zeroCells46 46)).alloc (.cells Tryz.zeroCells89 89)) (w.heap.size + 1) Tryz.zeroCells89 89 from Blk.new (by simp)) ((Tryz.zeroCells89.toList.set 0 (.string s)).set 3 (.int .i64 (-1))) (by simp) (by rw [reader_cells]; exact cellsOf_one (rdC_one _ _ _ _ _ _))
  have q1' : Blk W1 (w.heap.size + 1) (cellsOf 69 (rdC s M.st0 (.slice none 0 0) M.noPairs)) 89 := by rw [reader_cells] at q1; exact q1
  have q0 : Blk W1 w.heap.size Tryz.zeroCells46 46 := (show Blk ((w.alloc (.cells Tryz.zeroCells46 46)).alloc (.cells Tryz.zeroCells89 89)) w.heap.size Tryz.zeroCells46 46 from (Blk.new rfl).alloc).on ho (by omega)
  have B1 : Below w.heap.size w W1 := On.toBelow (by go_grown) (by simp; omega) ho (by omega)
  clear q1 ho
  have z1 := q1'.lt
  go_enter Tryz.func12, Tryz.ntmps12
  go_wp2_with fail
  refine (readMap_any (w.heap.size + 1) s (.slice none 0 0) _ ⟨q1', ⟨rfl, .inl ⟨rfl, rfl⟩⟩, by simp [Value.ownBlock]⟩ hs).mono ?_
  rintro rr W ⟨b, k, v', ps, rfl, H, F, hR, hP⟩
  replace q0 := q0.fr F (by omega) (by simp [Value.ownBlock])
  have hb : Below w.heap.size w W := F.toBelow B1 (by omega) (by omega) (by simp [Value.ownBlock])
  have hvne : Hid (∀ g, v'.ownBlock = some g → g ≠ w.heap.size) := by
    intro g hg
    rcases F.row with e | ⟨x, e, hx⟩
    · rw [e] at hg; cases hg
    · rw [e] at hg
      have : x = g := by simpa using hg
      omega
  have hvge : Hid (∀ g, v'.ownBlock = some g → w.heap.size ≤ g) := by
    intro g hg
    rcases F.row with e | ⟨x, e, hx⟩
    · rw [e] at hg; cases hg
    · rw [e] at hg
      have : x = g := by simpa using hg
      omega
  have HR : Hid (MapR s b k) := hR
  have HPS : Hid (b = true → ps = M.prs s) := hP
  clear F hR hP hst q1' B1 z1
  obtain ⟨k0, k1, k2, k3, k4, kf, kl⟩ := H.blk.five
  have cf := q0.frozen
  cases b
  · have E : Hid (M.errS s = (3, (k : Int))) := by
      rcases HR.out with ⟨_, ⟨h1, rfl⟩ | ⟨h1, h2⟩⟩ | ⟨h, _⟩
      · exact errS_tree hs h1
      · exact errS_pair hs h1 h2
      · cases h
    clear HR HPS
    simp only [M.St.goto] at k1 k2 k3
    clear H
    have hst : (storeCells ⟨w.heap.size, 0, none⟩ Tryz.zeroCells46.toList 0).run Tryz.prog W.drew = .ok () W.drew := store_same (q0.same rfl) zeroMap_one
    have c0 := hid q0
    go_wp2
    go_region
    all_goals go_wp2
    all_goals exact bodyPost_ret (v := .tuple #[.agg Tryz.zeroCells46, .int .i64 3, .int .i64 k]) (results_map Tryz.results12 _ _ _ _ rfl (c0.out.same rfl) Tryz.zeroCells46_size) rfl (.bad E.out (by omega) ⟨Tryz.zeroCells46_size, zeroMap_one⟩ (by go_grown))
  · have E : Hid (M.errS s = if 0 ≤ (M.top s).2.wrong then (4, (M.top s).2.wrong) else (0, 0)) := by
      rcases HR.out with ⟨h, _⟩ | ⟨_, h1, h2⟩
      · cases h
      · exact errS_none hs h1 h2
    clear HR
    obtain rfl := HPS.out rfl
    simp only [M.St.goto] at k1 k2 k3
    have hw := HI.out.w1
    by_cases hz : 0 ≤ (M.top s).2.wrong
    · have E2 : Hid (M.errS s = (4, (M.top s).2.wrong)) := by unfold Hid; rw [E.out, if_pos hz]
      clear H E HPS
      generalize (M.top s).2.wrong = x at *
      have hx : (x != -1) = true := by rw [bne_iff_ne]; omega
      have hst : (storeCells ⟨w.heap.size, 0, none⟩ Tryz.zeroCells46.toList 0).run Tryz.prog W.drew = .ok () W.drew := store_same (q0.same rfl) zeroMap_one
      have c0 := hid q0
      clear hw hz
      go_wp2
      go_region
      all_goals go_wp2
      all_goals exact bodyPost_ret (v := .tuple #[.agg Tryz.zeroCells46, .int .i64 4, .int .i64 x]) (results_map Tryz.results12 _ _ _ _ rfl (c0.out.same rfl) Tryz.zeroCells46_size) rfl (.bad E2.out (by omega) ⟨Tryz.zeroCells46_size, zeroMap_one⟩ (by go_grown))
    · have E2 : Hid (M.errS s = (0, 0)) := by unfold Hid; rw [E.out, if_neg hz]
      have hx : (M.top s).2.wrong = -1 := by omega
      rw [hx] at k3
      have HO : Hid (W.ownsRow 0 137 7 v' (M.top s).2.leaves.length (flat (M.top s).2.leaves)) := H.own
      obtain ⟨x, n, cap, rfl⟩ : ∃ x n cap, v' = .slice x n cap := by
        rcases HO.out.2 with ⟨e, _⟩ | ⟨g, cap, _, e, _⟩
        · exact ⟨_, _, _, e⟩
        · exact ⟨_, _, _, e⟩
      have hld : (big 65 ⟨w.heap.size + 1, 4, none⟩).run Tryz.prog W = .ok (cellsOf 65 (mapC (.slice x n cap) (M.prs s))) W :=
        big_range (fun j hj => by rw [H.blk.cellC (4 + j) (by omega)]; match j with | 0 => rfl | j + 1 => rw [show 4 + (j + 1) = j + 5 by omega]; rfl)
      obtain ⟨W2, hst, q2, ho⟩ := store_new (P := Tryz.prog) q0 (cellsOf 65 (mapC (.slice x n cap) (M.prs s))).toList (by simp [cellsOf_size]) (cellsOf_one (mapC_one _ _ _ _))
      have hsz : (cellsOf 65 (mapC (.slice x n cap) (M.prs s))).size = 65 := cellsOf_size _ _
      have h1c : ∀ v ∈ (cellsOf 65 (mapC (.slice x n cap) (M.prs s))).toList, v.oneCell' = true := cellsOf_one (mapC_one _ _ _ _)
      have hb2 : Below w.heap.size w W2 := On.toBelow hb hb.size ho (Nat.le_refl _)
      have O2 : Hid (W2.ownsRow 0 137 7 (.slice x n cap) (M.top s).2.leaves.length (flat (M.top s).2.leaves)) := own_of HO.out (fun g hg => ho.block g (own_lt HO.out hg) (hvne.out g hg))
      have HM := hid (MapIs.mk (cs := cellsOf 65 (mapC (.slice x n cap) (M.prs s))) (v := .slice x n cap) (ps := M.prs s) rfl)
      generalize cellsOf 65 (mapC (.slice x n cap) (M.prs s)) = cs at *
      have c0 : Hid (Blk W2 w.heap.size cs 46) := by unfold Hid; simpa using q2
      clear E hw hz hx H HO HPS ho q0
      go_wp2
      exact bodyPost_ret (v := .tuple #[.agg cs, .int .i64 0, .int .i64 0]) (results_map Tryz.results12 _ _ _ _ rfl c0.out hsz) rfl ⟨0, 0, cs, rfl, ⟨hsz, h1c⟩, E2.out, fun _ => ⟨x, n, cap, HM.out, own_base O2.out hvge.out⟩, hb2⟩

theorem read_any (s : ByteArray) (w : World) (hm : s.size ≤ maxLen) : Calls Tryz.prog 12 #[.string s] w (ReadPost s w) := by
  by_cases h : 512 < s.size
  · exact read_long s w h hm
  · exact read_short s w (by omega)

/-- A map is laid into a variable of its own. -/
theorem keep_map (W : World) (cs : Array Value) (h : cs.size = 65 ∧ ∀ v ∈ cs.toList, v.oneCell' = true) : ∃ W2, (storeCells ⟨W.heap.size, 0, none⟩ cs.toList 0).run Tryz.prog (W.alloc (.cells Tryz.zeroCells46 46)) = .ok () W2 ∧ Blk W2 W.heap.size cs 46 ∧ Below W.heap.size W W2 ∧ W.heap.size < W2.heap.size := by
  obtain ⟨W2, h1, h2, h3⟩ := store_new (P := Tryz.prog) (show Blk (W.alloc (.cells Tryz.zeroCells46 46)) W.heap.size Tryz.zeroCells46 46 from Blk.new rfl) cs.toList (by rw [Tryz.zeroCells46_size]; simpa using h.1) h.2
  have h2' : Blk W2 W.heap.size cs 46 := by simpa using h2
  exact ⟨W2, h1, h2', On.toBelow (by go_grown) (by simp) h3 (Nat.le_refl _), h2'.lt⟩

/-- What Check gives back. -/
def CheckPost (s : ByteArray) (w : World) (r : Ending) (w' : World) : Prop := ∃ e k : Int, r = .returned (.tuple #[.int .i64 e, .int .i64 k]) ∧ M.errS s = (e, k) ∧ Below w.heap.size w w'


end Go.Proofs.YtonmihojfcjmjaaGreat
