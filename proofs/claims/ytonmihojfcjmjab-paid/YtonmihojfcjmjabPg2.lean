import Derived.Test.YtonmihojfcjmjabPg1
import Derived.Test.YtonmihojfcjmjabByt
/- Contracts of the program's game: row, head, shows, canStand. -/
namespace Go.Proofs.Ytonmihojfcjmjab
open Go.RowKit
set_option linter.unusedVariables false
attribute [local go_sem] cell_set_off cell_set_blk
attribute [local go_sem ↓] big65 big65'

theorem still_tail5 {P : Program} {id : Nat} {Q : Exit → Act → World → Prop} {a : Act} {w : World} {l : List Oper} (n : Nat) (hm : P.follows .mixedOrders = true) (hB : Region.lexTailB .any l.toArray n = true)
    (h : wpStill P l.toArray w.drew (fun a' => wpList P l.toArray Q (l.drop n) a' w.drew) (l.take n) a) : (Code.region id l.toArray true).wp P Q a w := wp_region_still_tail n hm hB h

theorem b8_mod (x : Int) : M.b8 (x % 256) = M.b8 x := by unfold M.b8; rw [Int.emod_emod_of_dvd _ (Int.dvd_refl _)]
theorem ret_str {a b : ByteArray} (h : a = b) : Ending.returned (.string a) = .returned (.string b) := by rw [h]

/-- A slot's numbers are such that they can be told of. -/
structure M.PSane (s : M.PSeat) : Prop where
  g1 : 0 ≤ s.gen
  g2 : s.gen ≤ 255
  h1 : 0 ≤ s.health
  h2 : s.health ≤ 100
  a1 : 0 ≤ s.ammo
  a2 : s.ammo ≤ 6
  r1 : 0 ≤ s.ready
  r2 : s.ready ≤ 3003
  p : M.InB M.cubeLo M.cubeHi s.place

set_option maxRecDepth 100000 in
set_option maxHeartbeats 2000000 in
theorem prow_any (b o i : Nat) (s : M.PSeat) (w : World) (h : Se w b o s) (hs : M.PSane s) (hi : i < 8) (hlt : b < w.heap.size) :
    Calls Try.prog 53 #[.int .i64 i, .pointer (some ⟨b, o, none⟩)] w fun e w' => e = .returned (.string ⟨(s.row i).toArray⟩) ∧ Below w.heap.size w w' := by
  obtain ⟨g1, g2, h1, h2, a1, a2, r1, r2, p1, p2, p3, p4, p5, p6⟩ := hs
  simp only [M.cubeLo, M.cubeHi] at p1 p2 p3 p4 p5 p6
  have i0 : (i : Int) < 8 := by omega
  have E : Hid ((⟨([(i : Int), s.gen, s.health, s.place.x % 256, s.place.x / 256, s.place.y % 256, s.place.y / 256, s.place.z % 256, s.place.z / 256].map M.b8).toArray⟩ : ByteArray) = ⟨(s.row i).toArray⟩) := by
    unfold Hid M.PSeat.row M.twoP
    simp [b8_mod]
  have hconv := bytes_back (W := ((w.alloc (.cells #[.int .i64 s.place.x, .int .i64 s.place.y, .int .i64 s.place.z] 33)).alloc (.cells #[.int .u8 (i : Int), .int .u8 s.gen, .int .u8 s.health, .int .u8 (s.place.x % 256), .int .u8 (s.place.x / 256), .int .u8 (s.place.y % 256), .int .u8 (s.place.y / 256), .int .u8 (s.place.z % 256), .int .u8 (s.place.z / 256)] 5)).drew) (g := w.heap.size + 1) (xs := [(i : Int), s.gen, s.health, s.place.x % 256, s.place.x / 256, s.place.y % 256, s.place.y / 256, s.place.z % 256, s.place.z / 256]) (Blk.drew (Blk.new (by simp))) (by intro x hx; simp at hx; omega) 9 rfl
  obtain ⟨c0, c1, c2, c39, c40, c41, c42, c43, c44, c45, c46, c47, c48, c118⟩ := h
  clear c0 c2 c39 c40 c41 c42 c47 c48 c118
  go_enter Try.func53, Try.ntmps53
  go_wp2_with fail
  refine still_tail5 34 (by kernel_rfl) (by kernel_rfl) ?_
  simp only [List.take_succ_cons, List.take_zero, List.drop_succ_cons, List.drop_zero]
  repeat still_step
  refine wpStill_nil ?_
  go_wp2
  go_ret
  exact ⟨ret_str E.out, by go_grown⟩

set_option maxRecDepth 100000 in
set_option maxHeartbeats 2000000 in
theorem phead_any (b : Nat) (mv : Value) (ps : Nat → Bool) (g : M.PGame) (i : Nat) (n : Int) (w : World) (h : Pg w b mv ps g) (hs : M.PSane (g.seat i)) (hr : (g.seat i).ready ≤ g.tick + 3) (hi : i < 8) (n0 : 0 ≤ n) (n8 : n ≤ 8) (t0 : 0 ≤ g.tick) (t1 : g.tick ≤ 3000) :
    Calls Try.prog 54 #[.pointer (some ⟨b, 0, none⟩), .int .i64 i, .pointer (some ⟨b, 66 + i * 119 + 40, none⟩), .int .i64 n] w fun e w' => e = .returned (.string ⟨(g.headP i n).toArray⟩) ∧ Below w.heap.size w w' := by
  obtain ⟨g1, g2, h1, h2, a1, a2, r1, r2, p1, p2, p3, p4, p5, p6⟩ := hs
  have i0 : (i : Int) < 8 := by omega
  have hse := h.se hi
  have c65 := h.ct
  have hlt := h.lt
  obtain ⟨c0, c1, c2, c39, c40, c41, c42, c43, c44, c45, c46, c47, c48, c118⟩ := hse
  have E : Hid ((⟨([83, g.tick % 256, g.tick / 256, (i : Int), (g.seat i).liveN, (g.seat i).health, (g.seat i).ammo, (g.seat i).cooling g.tick, n].map M.b8).toArray⟩ : ByteArray) = ⟨(g.headP i n).toArray⟩) := by
    unfold Hid M.PGame.headP M.twoP
    simp [b8_mod]
    rfl
  generalize g.seat i = s at *
  generalize g.tick = t at *
  clear c0 c1 c2 c39 c40 c41 c42 c43 c44 c45 c118 h
  obtain ⟨L, hL⟩ : ∃ L, s.liveN = L := ⟨_, rfl⟩
  obtain ⟨C, hC⟩ : ∃ C, s.cooling t = C := ⟨_, rfl⟩
  rw [hL, hC] at E
  have L1 : 0 ≤ L ∧ L ≤ 1 := by rw [← hL]; unfold M.PSeat.liveN; split <;> omega
  have C1 : 0 ≤ C ∧ C ≤ 3 := by rw [← hC]; unfold M.PSeat.cooling; split <;> omega
  have hC2 : Hid ((if s.ready ≤ t then 0 else s.ready - t) = C) := hC
  have hconv := bytes_back (W := (w.alloc (.cells #[.int .u8 83, .int .u8 (t % 256), .int .u8 (t / 256), .int .u8 (i : Int), .int .u8 L, .int .u8 s.health, .int .u8 s.ammo, .int .u8 C, .int .u8 n] 5)).drew) (g := w.heap.size) (xs := [83, t % 256, t / 256, (i : Int), L, s.health, s.ammo, C, n]) (Blk.drew (Blk.new (by simp))) (by intro x hx; simp at hx; omega) 9 rfl
  obtain ⟨L0, L2⟩ := L1
  obtain ⟨C0, C2⟩ := C1
  by_cases hl : 0 < s.health
  · have hB : Hid (decide (0 < s.health) = true) := decide_eq_true hl
    obtain rfl : L = 1 := by rw [← hL]; unfold M.PSeat.liveN; rw [if_pos hl]
    clear hL hC
    go_enter Try.func54, Try.ntmps54
    go_wp2_with fail
    refine (live_any b (66 + i * 119 + 40) _ s.health c46 true hB).mono ?_
    rintro e w1 ⟨rfl, rfl⟩
    go_wp2_with fail
    refine (cooling_any b (66 + i * 119 + 40) _ s.ready t c48 (by omega) (by omega) t0 t1).mono ?_
    rintro e w1 ⟨rfl, rfl⟩
    rw [hC2.out]
    go_wp2_with fail
    refine still_tail5 28 (by kernel_rfl) (by kernel_rfl) ?_
    simp only [List.take_succ_cons, List.take_zero, List.drop_succ_cons, List.drop_zero]
    repeat still_step
    refine wpStill_nil ?_
    go_wp2
    go_ret
    exact ⟨ret_str E.out, by go_grown⟩
  · have hB : Hid (decide (0 < s.health) = false) := decide_eq_false hl
    obtain rfl : L = 0 := by rw [← hL]; unfold M.PSeat.liveN; rw [if_neg hl]
    clear hL hC
    go_enter Try.func54, Try.ntmps54
    go_wp2_with fail
    refine (live_any b (66 + i * 119 + 40) _ s.health c46 false hB).mono ?_
    rintro e w1 ⟨rfl, rfl⟩
    go_wp2_with fail
    refine (cooling_any b (66 + i * 119 + 40) _ s.ready t c48 (by omega) (by omega) t0 t1).mono ?_
    rintro e w1 ⟨rfl, rfl⟩
    rw [hC2.out]
    go_wp2_with fail
    refine still_tail5 28 (by kernel_rfl) (by kernel_rfl) ?_
    simp only [List.take_succ_cons, List.take_zero, List.drop_succ_cons, List.drop_zero]
    repeat still_step
    refine wpStill_nil ?_
    go_wp2
    go_ret
    exact ⟨ret_str E.out, by go_grown⟩

end Go.Proofs.Ytonmihojfcjmjab
