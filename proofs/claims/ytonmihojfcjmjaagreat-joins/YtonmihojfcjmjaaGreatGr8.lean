import Derived.Test.YtonmihojfcjmjaaGreatGr7
import Derived.Test.YtonmihojfcjmjaaGreatBPk
/- Contracts of the document's game: Snapshot. -/
namespace Go.Proofs.YtonmihojfcjmjaaGreat
open Go.RowKit
set_option linter.unusedVariables false
attribute [local go_sem] cell_set_off cell_set_blk

/-- A slot's numbers are such that they can be told of. -/
structure M.Sane (s : M.Seat) : Prop where
  g1 : 0 ≤ s.gen
  g2 : s.gen ≤ 4611686018427387904
  h1 : 0 ≤ s.health
  h2 : s.health ≤ 100
  a1 : 0 ≤ s.ammo
  a2 : s.ammo ≤ 6
  s1 : -1 ≤ s.shot
  s2 : s.shot ≤ 3000
  p : M.InC s.pos

/-- What the loop has told so far. -/
structure SnL (g : M.Game) (i j : Nat) (L : ByteArray) (n : Int) : Prop where
  sl : L.data.toList ++ g.entries i (8 - j) j = g.entries i 8 0
  sn : n + (g.count i (8 - j) j : Int) = (g.count i 8 0 : Int)
  n0 : 0 ≤ n
  n8 : n ≤ j
  sz : L.size ≤ 9 * j

theorem entries_succ (g : M.Game) (i k j : Nat) : g.entries i (k + 1) j = (if g.told i j = true then (g.seat j).entry j else []) ++ g.entries i k (j + 1) := rfl
theorem count_succ (g : M.Game) (i k j : Nat) : g.count i (k + 1) j = (if g.told i j = true then 1 else 0) + g.count i k (j + 1) := rfl

theorem SnL.no {g : M.Game} {i j : Nat} {L : ByteArray} {n : Int} (h : SnL g i j L n) (hj : j < 8) (ht : g.told i j = false) : SnL g i (j + 1) L n := by
  obtain ⟨k, hk⟩ : ∃ k, 8 - j = k + 1 := ⟨7 - j, by omega⟩
  have hk2 : 8 - (j + 1) = k := by omega
  have h1 := h.sl
  have h2 := h.sn
  rw [hk, entries_succ, if_neg (by simp [ht]), List.nil_append] at h1
  rw [hk, count_succ, if_neg (by simp [ht]), Nat.zero_add] at h2
  exact ⟨by rw [hk2]; exact h1, by rw [hk2]; exact h2, h.n0, by have := h.n8; omega, by have := h.sz; omega⟩
theorem SnL.yes {g : M.Game} {i j : Nat} {L L' : ByteArray} {n : Int} (h : SnL g i j L n) (hj : j < 8) (ht : g.told i j = true) (hL : L'.data.toList = L.data.toList ++ (g.seat j).entry j) : SnL g i (j + 1) L' (n + 1) := by
  obtain ⟨k, hk⟩ : ∃ k, 8 - j = k + 1 := ⟨7 - j, by omega⟩
  have hk2 : 8 - (j + 1) = k := by omega
  have h1 := h.sl
  have h2 := h.sn
  rw [hk, entries_succ, if_pos ht] at h1
  rw [hk, count_succ, if_pos ht] at h2
  exact ⟨by rw [hk2, hL, List.append_assoc]; exact h1, by rw [hk2]; omega, by have := h.n0; omega, by have := h.n8; omega, by
    have e := congrArg List.length hL
    rw [List.length_append] at e
    have e2 : L'.size = L'.data.toList.length := rfl
    have e3 : L.size = L.data.toList.length := rfl
    have e4 : ((g.seat j).entry j).length = 9 := rfl
    have := h.sz
    omega⟩

theorem rbring_at (v lo hi : Int) (w : World) (F : Int) (hF : Hid (M.bring v lo hi = F)) : Calls Tryz.prog 45 #[.int .i64 v, .int .i64 lo, .int .i64 hi] w fun e w' => e = .returned (.int .i64 F) ∧ w' = w := by
  rw [← hF.out]
  exact rbring_any v lo hi w

theorem snap_eq {g : M.Game} {i : Nat} {s : M.Seat} {L : ByteArray} {n lb lf : Int} (hs : g.seat i = s) (hE : L.data.toList = g.entries i 8 0) (hN : n = (g.count i 8 0 : Int)) (hlb : M.fireN s.live = lb) (hlf : g.left s = lf) :
    (⟨#[83]⟩ : ByteArray) ++ ⟨(M.two g.tick).toArray⟩ ++ ⟨#[M.b8 (i : Int), M.b8 lb, M.b8 s.health, M.b8 s.ammo, M.b8 lf, M.b8 n]⟩ ++ L = ⟨(g.snap i).toArray⟩ := by
  apply of_list
  rw [app_list, app_list, app_list, hE]
  unfold M.Game.snap
  rw [hs, hlb, hlf, ← hN]

set_option maxRecDepth 100000 in
set_option maxHeartbeats 8000000 in
theorem gSnap_yes (b i : Nat) (m lv gv : Value) (g : M.Game) (wv : Nat → Value) (w : World) (hi : i < 8) (St : World → Prop) (h0 : St w) (hmono : ∀ W W' : World, St W → Below W.heap.size W W' → St W')
    (hGc : ∀ W, St W → Gc W b m lv (.int .i64 g.tick) gv (fun i => seatV (g.seat i) (wv i))) (hwv : ∀ i, ∃ x n c, wv i = .slice x n c)
    (T : ∀ (j : Nat) (W : World), j < 8 → St W → Calls Tryz.prog 43 #[.pointer (some ⟨b, 0, none⟩), .int .i64 i, .int .i64 j] W fun e W' => e = .returned (.bool (g.told i j)) ∧ Below W.heap.size W W')
    (hsane : ∀ j, j < 8 → M.Sane (g.seat j)) (hh : (g.seat i).here = true) (t1 : 0 ≤ g.tick) (t2 : g.tick ≤ 3000) :
    Calls Tryz.prog 24 #[.pointer (some ⟨b, 0, none⟩), .int .i64 i] w fun e w' => e = .returned (.tuple #[.string ⟨(g.snap i).toArray⟩, .int .i64 0]) ∧ Below w.heap.size w w' := by
  have HB : Hid (g.hereB i = true) := by unfold Hid M.Game.hereB; simp [hh]; omega
  have HG : Hid (∀ W, St W → Gc W b m lv (.int .i64 g.tick) gv (fun i => seatV (g.seat i) (wv i))) := hGc
  have HM : Hid (∀ W W' : World, St W → Below W.heap.size W W' → St W') := hmono
  have HT : Hid (∀ (j : Nat) (W : World), j < 8 → St W → Calls Tryz.prog 43 #[.pointer (some ⟨b, 0, none⟩), .int .i64 i, .int .i64 j] W fun e W' => e = .returned (.bool (g.told i j)) ∧ Below W.heap.size W W') := T
  have H0 : Hid (St w) := h0
  have HSN : Hid (∀ j, j < 8 → M.Sane (g.seat j)) := hsane
  have i0 : (0 : Int) ≤ (i : Int) := by omega
  have i1 : (i : Int) < 8 := by omega
  clear hGc hmono T h0 hsane hh
  go_enter Tryz.func24, Tryz.ntmps24
  go_wp2_with fail
  refine (gHere_any b m lv (.int .i64 g.tick) gv g wv i _ (HG.out w H0.out) true HB).mono ?_
  rintro e w1 ⟨rfl, rfl⟩
  go_wp2_with fail
  go_loopg [7, 8, 9] 9 (fun k u7 u8 u9 wr => ∃ (j : Nat) (L : ByteArray) (n : Int), u7 = .int .i64 n ∧ u8 = .string L ∧ u9 = .int .i64 j ∧ j ≤ 8 ∧ k + j = 9 ∧ Hid (SnL g i j L n) ∧ Below w1.heap.size w1 wr)
  case atStart => exact ⟨0, ⟨#[]⟩, 0, rfl, rfl, rfl, by omega, rfl, ⟨rfl, by simp, by omega, by omega, Nat.le_refl _⟩, Below.refl _ _⟩
  case round =>
    obtain ⟨j, L, n, rfl, rfl, rfl, hj, hk, hS, hB⟩ := hrel
    have j0 : (0 : Int) ≤ (j : Int) := by omega
    have n0 := hS.out.n0
    have n8 := hS.out.n8
    by_cases hlt : j < 8
    · have j1 : (j : Int) < 8 := by omega
      go_wp2_with fail
      refine (HT.out j _ hlt (HM.out _ _ H0.out hB)).mono ?_
      rintro e w2 ⟨rfl, hb⟩
      have B2 : Below w1.heap.size w1 w2 := bl hB hb
      clear hb hB
      cases ht : g.told i j
      · have HN := hS.out.no hlt ht
        have HN2 : Hid (SnL g i (j + 1) L n) := HN
        clear ht HN hS
        go_wp2
        go_roundg (gk - 1)
        case measure => omega
        case rel => exact ⟨j + 1, L, n, rfl, rfl, by go_num, by omega, by omega, HN2, B2⟩
      · have G2 := HG.out w2 (HM.out _ _ H0.out B2)
        obtain ⟨d0, d1, d2, d3, d4, d5, d6, d7, d8, d9, d10, d11, d12, d13, d14⟩ := G2.seat hlt (fun k _ => rfl)
        have gb := G2.lt
        have z2 : w1.heap.size ≤ w2.heap.size := B2.size
        obtain ⟨xj, nj, cj, hvj⟩ := hwv j
        rw [hvj] at d14
        obtain ⟨g1, g2, h1, h2, a1, a2, s1, s2, p1, p2, p3, p4, p5, p6⟩ := HSN.out j hlt
        have HY : Hid (∀ L' : ByteArray, L'.data.toList = L.data.toList ++ (g.seat j).entry j → SnL g i (j + 1) L' (n + 1)) := fun L' hL => hS.out.yes hlt ht hL
        generalize g.seat j = s at d0 d1 d2 d3 d4 d5 d6 d7 d8 d9 d10 d11 d12 d13 d14 g1 g2 h1 h2 a1 a2 s1 s2 p1 p2 p3 p4 p5 p6 HY
        have hconv := bytes_back (W := (w2.alloc (.cells #[.bool s.here, .bool s.live, .int .i64 s.pos.x, .int .i64 s.pos.y, .int .i64 s.pos.z, .int .i64 s.home.x, .int .i64 s.home.y, .int .i64 s.home.z, .int .i64 s.health, .int .i64 s.ammo, .int .i64 s.shot, .int .i64 s.died, .int .i64 s.gen, .int .i64 s.last, .slice xj nj cj] 74)).alloc (.cells #[.int .u8 (j : Int), .int .u8 (s.gen % 256), .int .u8 s.health] 5)) (g := w2.heap.size + 1) (xs := [(j : Int), s.gen % 256, s.health]) (Blk.new (by simp)) (by intro x hx; simp at hx; omega) 3 rfl
        have hsz := hS.out.sz
        have l1 : ¬ 9223372036854775807 < L.size + 3 := by omega
        clear ht hS G2 hvj
        go_wp2_with fail
        refine (rtwo_any s.pos.x _ (by omega) (by omega)).mono ?_
        rintro e w3 ⟨rfl, hb⟩
        have q1 := (show Blk ((w2.alloc (.cells #[.bool s.here, .bool s.live, .int .i64 s.pos.x, .int .i64 s.pos.y, .int .i64 s.pos.z, .int .i64 s.home.x, .int .i64 s.home.y, .int .i64 s.home.z, .int .i64 s.health, .int .i64 s.ammo, .int .i64 s.shot, .int .i64 s.died, .int .i64 s.gen, .int .i64 s.last, .slice xj nj cj] 74)).alloc (.cells #[.int .u8 (j : Int), .int .u8 (s.gen % 256), .int .u8 s.health] 5)) w2.heap.size #[.bool s.here, .bool s.live, .int .i64 s.pos.x, .int .i64 s.pos.y, .int .i64 s.pos.z, .int .i64 s.home.x, .int .i64 s.home.y, .int .i64 s.home.z, .int .i64 s.health, .int .i64 s.ammo, .int .i64 s.shot, .int .i64 s.died, .int .i64 s.gen, .int .i64 s.last, .slice xj nj cj] 74 from (Blk.new rfl).alloc).after hb
        have B3 : Below w1.heap.size w1 w3 := bl (by go_grown) hb
        clear hb hconv d0 d1 d2 d3 d4 d5 d6 d7 d8 d9 d10 d11 d12 d13 d14
        obtain ⟨L1, hL1⟩ : ∃ L1, L ++ (⟨#[M.b8 (j : Int), M.b8 (s.gen % 256), M.b8 s.health]⟩ : ByteArray) = L1 := ⟨_, rfl⟩
        have hs1 : L1.size = L.size + 3 := by rw [← hL1, ByteArray.size_append]; rfl
        have HL1 : Hid (L ++ (⟨#[M.b8 (j : Int), M.b8 (s.gen % 256), M.b8 s.health]⟩ : ByteArray) = L1) := hL1
        rw [hL1]
        clear hL1
        have x1 := q1.cell 2
        have x2 := q1.cell 3
        have x3 := q1.cell 4
        simp only [List.getElem?_toArray, List.getElem?_cons_zero, List.getElem?_cons_succ] at x1 x2 x3
        have xz := q1.lt
        have hw3 : (⟨(M.two s.pos.x).toArray⟩ : ByteArray).size = 2 := rfl
        go_wp2_with fail
        obtain ⟨L2, hL2⟩ : ∃ L2, L1 ++ (⟨(M.two s.pos.x).toArray⟩ : ByteArray) = L2 := ⟨_, rfl⟩
        have hs2 : L2.size = L.size + 5 := by rw [← hL2, ByteArray.size_append, hs1, hw3]
        have HL2 : Hid (L1 ++ (⟨(M.two s.pos.x).toArray⟩ : ByteArray) = L2) := hL2
        rw [hL2]
        clear hL2
        refine (rtwo_any s.pos.y _ (by omega) (by omega)).mono ?_
        rintro e w4 ⟨rfl, hb⟩
        replace q1 := q1.after hb
        have z3 : w1.heap.size ≤ w3.heap.size := B3.size
        have B4 : Below w1.heap.size w1 w4 := bl (by go_grown) hb
        clear hb x1 x2 x3 xz B3
        have x3 := q1.cell 4
        simp only [List.getElem?_toArray, List.getElem?_cons_zero, List.getElem?_cons_succ] at x3
        have xz := q1.lt
        have hw4 : (⟨(M.two s.pos.y).toArray⟩ : ByteArray).size = 2 := rfl
        go_wp2_with fail
        obtain ⟨L3, hL3⟩ : ∃ L3, L2 ++ (⟨(M.two s.pos.y).toArray⟩ : ByteArray) = L3 := ⟨_, rfl⟩
        have hs3 : L3.size = L.size + 7 := by rw [← hL3, ByteArray.size_append, hs2, hw4]
        have HL3 : Hid (L2 ++ (⟨(M.two s.pos.y).toArray⟩ : ByteArray) = L3) := hL3
        rw [hL3]
        clear hL3
        refine (rtwo_any s.pos.z _ (by omega) (by omega)).mono ?_
        rintro e w5 ⟨rfl, hb⟩
        have z4 : w1.heap.size ≤ w4.heap.size := B4.size
        have B5 : Below w1.heap.size w1 w5 := bl (by go_grown) hb
        clear hb x3 xz B4 q1
        have hw5 : (⟨(M.two s.pos.z).toArray⟩ : ByteArray).size = 2 := rfl
        go_wp2
        go_roundg (gk - 1)
        case measure => omega
        case rel =>
          refine ⟨j + 1, _, n + 1, rfl, rfl, by go_num, by omega, by omega, HY.out _ ?_, B5⟩
          rw [app_list, ← HL3.out, app_list, ← HL2.out, app_list, ← HL1.out, app_list]
          have eg : M.b8 (s.gen % 256) = M.b8 s.gen := by unfold M.b8; congr 2; omega
          rw [eg]
          simp [M.Seat.entry, M.two]
    · obtain rfl : j = 8 := by omega
      have hE : L.data.toList = g.entries i 8 0 := by have := hS.out.sl; simpa [M.Game.entries] using this
      have hN : n = (g.count i 8 0 : Int) := by have := hS.out.sn; simpa [M.Game.count] using this
      have G2 := HG.out wr (HM.out _ _ H0.out hB)
      obtain ⟨d0, d1, d2, d3, d4, d5, d6, d7, d8, d9, d10, d11, d12, d13, d14⟩ := G2.seat hi (fun k _ => rfl)
      have dt := G2.ct
      have gb := G2.lt
      obtain ⟨xj, nj, cj, hvj⟩ := hwv i
      rw [hvj] at d14
      obtain ⟨g1, g2, h1, h2, a1, a2, s1, s2, p1, p2, p3, p4, p5, p6⟩ := HSN.out i hi
      have hsz := hS.out.sz
      have zr : w1.heap.size ≤ wr.heap.size := hB.size
      have HE : Hid (L.data.toList = g.entries i 8 0) := hE
      have HN : Hid (n = (g.count i 8 0 : Int)) := hN
      have HSI : ∃ s, g.seat i = s := ⟨_, rfl⟩
      obtain ⟨s, hs⟩ := HSI
      rw [hs] at d0 d1 d2 d3 d4 d5 d6 d7 d8 d9 d10 d11 d12 d13 g1 g2 h1 h2 a1 a2 s1 s2
      have HS2 : Hid (g.seat i = s) := hs
      clear hs hE hN hS G2 hvj p1 p2 p3 p4 p5 p6
      have j1 : ¬ ((8 : Nat) : Int) < 8 := by omega
      cases hl : s.live
      · rw [hl] at d1
        have HLV : Hid (s.live = false) := hl
        clear hl
        by_cases hsh : 0 ≤ s.shot
        · have dsh : decide (0 ≤ s.shot) = true := by simp [hsh]
          obtain ⟨F, hF⟩ : ∃ F, M.bring (s.shot + 3 - g.tick) 0 3 = F := ⟨_, rfl⟩
          have HF : Hid (M.bring (s.shot + 3 - g.tick) 0 3 = F) := hF
          have Fb := M.bring_bd (v := s.shot + 3 - g.tick) (lo := 0) (hi := 3) (by omega)
          rw [hF] at Fb
          obtain ⟨F1, F2⟩ := Fb
          have HSH : Hid (0 ≤ s.shot) := hsh
          clear hF
          go_wp2_with fail
          go_quiet ((go_at_call 45; exact Calls.quiet_of_same (rbring_at _ 0 3 _ F HF)))
          go_wp2_with fail
          refine (rtwo_any g.tick _ (by omega) (by omega)).mono ?_
          rintro e w6 ⟨rfl, hb⟩
          have q1 := (show Blk _ wr.heap.size #[.bool s.here, .bool false, .int .i64 s.pos.x, .int .i64 s.pos.y, .int .i64 s.pos.z, .int .i64 s.home.x, .int .i64 s.home.y, .int .i64 s.home.z, .int .i64 s.health, .int .i64 s.ammo, .int .i64 s.shot, .int .i64 s.died, .int .i64 s.gen, .int .i64 s.last, .slice xj nj cj] 74 from (by repeat' (first | (with_reducible assumption) | (refine Blk.new ?_; (first | (simp; done) | rfl); done) | (with_reducible refine Blk.alloc ?_) | (with_reducible refine Blk.drew ?_) | (with_reducible refine Blk.drewN ?_)))).after hb
          have B6 : Below w1.heap.size w1 w6 := bl (by first | exact below_drewN (hB.alloc zr _) _ | exact hB.alloc zr _) hb
          clear hb d0 d1 d2 d3 d4 d5 d6 d7 d8 d9 d10 d11 d12 d13 d14 dt
          have x8 := q1.cell 8
          have x9 := q1.cell 9
          simp only [List.getElem?_toArray, List.getElem?_cons_zero, List.getElem?_cons_succ] at x8 x9
          have xz := q1.lt
          have z6 : w1.heap.size ≤ w6.heap.size := B6.size
          have hconv := bytes_back (W := w6.alloc (.cells #[.int .u8 (i : Int), .int .u8 0, .int .u8 s.health, .int .u8 s.ammo, .int .u8 F, .int .u8 n] 5)) (g := w6.heap.size) (xs := [(i : Int), 0, s.health, s.ammo, F, n]) (Blk.new rfl) (by intro x hx; simp only [List.mem_cons, List.not_mem_nil, or_false] at hx; omega) 6 rfl
          have hw6 : (⟨(M.two g.tick).toArray⟩ : ByteArray).size = 2 := rfl
          go_wp2
          go_ret2
          exact ⟨ret_str2 (snap_eq HS2.out HE.out HN.out (by rw [HLV.out]; rfl) (by unfold M.Game.left; rw [if_pos HSH.out]; exact HF.out)), by go_grown⟩
        · have dsh : decide (0 ≤ s.shot) = false := by simp; omega
          have HSH : Hid (¬ 0 ≤ s.shot) := hsh
          go_wp2_with fail
          refine (rtwo_any g.tick _ (by omega) (by omega)).mono ?_
          rintro e w6 ⟨rfl, hb⟩
          have q1 := (show Blk _ wr.heap.size #[.bool s.here, .bool false, .int .i64 s.pos.x, .int .i64 s.pos.y, .int .i64 s.pos.z, .int .i64 s.home.x, .int .i64 s.home.y, .int .i64 s.home.z, .int .i64 s.health, .int .i64 s.ammo, .int .i64 s.shot, .int .i64 s.died, .int .i64 s.gen, .int .i64 s.last, .slice xj nj cj] 74 from (by repeat' (first | (with_reducible assumption) | (refine Blk.new ?_; (first | (simp; done) | rfl); done) | (with_reducible refine Blk.alloc ?_) | (with_reducible refine Blk.drew ?_) | (with_reducible refine Blk.drewN ?_)))).after hb
          have B6 : Below w1.heap.size w1 w6 := bl (by first | exact below_drewN (hB.alloc zr _) _ | exact hB.alloc zr _) hb
          clear hb d0 d1 d2 d3 d4 d5 d6 d7 d8 d9 d10 d11 d12 d13 d14 dt
          have x8 := q1.cell 8
          have x9 := q1.cell 9
          simp only [List.getElem?_toArray, List.getElem?_cons_zero, List.getElem?_cons_succ] at x8 x9
          have xz := q1.lt
          have z6 : w1.heap.size ≤ w6.heap.size := B6.size
          have hconv := bytes_back (W := w6.alloc (.cells #[.int .u8 (i : Int), .int .u8 0, .int .u8 s.health, .int .u8 s.ammo, .int .u8 0, .int .u8 n] 5)) (g := w6.heap.size) (xs := [(i : Int), 0, s.health, s.ammo, 0, n]) (Blk.new rfl) (by intro x hx; simp only [List.mem_cons, List.not_mem_nil, or_false] at hx; omega) 6 rfl
          have hw6 : (⟨(M.two g.tick).toArray⟩ : ByteArray).size = 2 := rfl
          go_wp2
          go_ret2
          exact ⟨ret_str2 (snap_eq HS2.out HE.out HN.out (by rw [HLV.out]; rfl) (by unfold M.Game.left; rw [if_neg (by have := HSH.out; omega)])), by go_grown⟩
      · rw [hl] at d1
        have HLV : Hid (s.live = true) := hl
        clear hl
        by_cases hsh : 0 ≤ s.shot
        · have dsh : decide (0 ≤ s.shot) = true := by simp [hsh]
          obtain ⟨F, hF⟩ : ∃ F, M.bring (s.shot + 3 - g.tick) 0 3 = F := ⟨_, rfl⟩
          have HF : Hid (M.bring (s.shot + 3 - g.tick) 0 3 = F) := hF
          have Fb := M.bring_bd (v := s.shot + 3 - g.tick) (lo := 0) (hi := 3) (by omega)
          rw [hF] at Fb
          obtain ⟨F1, F2⟩ := Fb
          have HSH : Hid (0 ≤ s.shot) := hsh
          clear hF
          go_wp2_with fail
          go_quiet ((go_at_call 45; exact Calls.quiet_of_same (rbring_at _ 0 3 _ F HF)))
          go_wp2_with fail
          refine (rtwo_any g.tick _ (by omega) (by omega)).mono ?_
          rintro e w6 ⟨rfl, hb⟩
          have q1 := (show Blk _ wr.heap.size #[.bool s.here, .bool true, .int .i64 s.pos.x, .int .i64 s.pos.y, .int .i64 s.pos.z, .int .i64 s.home.x, .int .i64 s.home.y, .int .i64 s.home.z, .int .i64 s.health, .int .i64 s.ammo, .int .i64 s.shot, .int .i64 s.died, .int .i64 s.gen, .int .i64 s.last, .slice xj nj cj] 74 from (by repeat' (first | (with_reducible assumption) | (refine Blk.new ?_; (first | (simp; done) | rfl); done) | (with_reducible refine Blk.alloc ?_) | (with_reducible refine Blk.drew ?_) | (with_reducible refine Blk.drewN ?_)))).after hb
          have B6 : Below w1.heap.size w1 w6 := bl (by first | exact below_drewN (hB.alloc zr _) _ | exact hB.alloc zr _) hb
          clear hb d0 d1 d2 d3 d4 d5 d6 d7 d8 d9 d10 d11 d12 d13 d14 dt
          have x8 := q1.cell 8
          have x9 := q1.cell 9
          simp only [List.getElem?_toArray, List.getElem?_cons_zero, List.getElem?_cons_succ] at x8 x9
          have xz := q1.lt
          have z6 : w1.heap.size ≤ w6.heap.size := B6.size
          have hconv := bytes_back (W := w6.alloc (.cells #[.int .u8 (i : Int), .int .u8 1, .int .u8 s.health, .int .u8 s.ammo, .int .u8 F, .int .u8 n] 5)) (g := w6.heap.size) (xs := [(i : Int), 1, s.health, s.ammo, F, n]) (Blk.new rfl) (by intro x hx; simp only [List.mem_cons, List.not_mem_nil, or_false] at hx; omega) 6 rfl
          have hw6 : (⟨(M.two g.tick).toArray⟩ : ByteArray).size = 2 := rfl
          go_wp2
          go_ret2
          exact ⟨ret_str2 (snap_eq HS2.out HE.out HN.out (by rw [HLV.out]; rfl) (by unfold M.Game.left; rw [if_pos HSH.out]; exact HF.out)), by go_grown⟩
        · have dsh : decide (0 ≤ s.shot) = false := by simp; omega
          have HSH : Hid (¬ 0 ≤ s.shot) := hsh
          go_wp2_with fail
          refine (rtwo_any g.tick _ (by omega) (by omega)).mono ?_
          rintro e w6 ⟨rfl, hb⟩
          have q1 := (show Blk _ wr.heap.size #[.bool s.here, .bool true, .int .i64 s.pos.x, .int .i64 s.pos.y, .int .i64 s.pos.z, .int .i64 s.home.x, .int .i64 s.home.y, .int .i64 s.home.z, .int .i64 s.health, .int .i64 s.ammo, .int .i64 s.shot, .int .i64 s.died, .int .i64 s.gen, .int .i64 s.last, .slice xj nj cj] 74 from (by repeat' (first | (with_reducible assumption) | (refine Blk.new ?_; (first | (simp; done) | rfl); done) | (with_reducible refine Blk.alloc ?_) | (with_reducible refine Blk.drew ?_) | (with_reducible refine Blk.drewN ?_)))).after hb
          have B6 : Below w1.heap.size w1 w6 := bl (by first | exact below_drewN (hB.alloc zr _) _ | exact hB.alloc zr _) hb
          clear hb d0 d1 d2 d3 d4 d5 d6 d7 d8 d9 d10 d11 d12 d13 d14 dt
          have x8 := q1.cell 8
          have x9 := q1.cell 9
          simp only [List.getElem?_toArray, List.getElem?_cons_zero, List.getElem?_cons_succ] at x8 x9
          have xz := q1.lt
          have z6 : w1.heap.size ≤ w6.heap.size := B6.size
          have hconv := bytes_back (W := w6.alloc (.cells #[.int .u8 (i : Int), .int .u8 1, .int .u8 s.health, .int .u8 s.ammo, .int .u8 0, .int .u8 n] 5)) (g := w6.heap.size) (xs := [(i : Int), 1, s.health, s.ammo, 0, n]) (Blk.new rfl) (by intro x hx; simp only [List.mem_cons, List.not_mem_nil, or_false] at hx; omega) 6 rfl
          have hw6 : (⟨(M.two g.tick).toArray⟩ : ByteArray).size = 2 := rfl
          go_wp2
          go_ret2
          exact ⟨ret_str2 (snap_eq HS2.out HE.out HN.out (by rw [HLV.out]; rfl) (by unfold M.Game.left; rw [if_neg (by have := HSH.out; omega)])), by go_grown⟩
end Go.Proofs.YtonmihojfcjmjaaGreat
