import Derived.Test.YtonmihojfcjmjaaGreatBRc
import Derived.Test.YtonmihojfcjmjaaGreatBM
import Derived.Test.YtonmihojfcjmjaaGreatZn1
import Derived.Deep.LoopGhost
import Derived.Laws.IdiomStrings
import Derived.StillTailTactics
import Derived.Test.YtonmihojfcjmjaaGreatBPk
/- The program's game in memory; its small contracts. -/
namespace Go.Proofs.YtonmihojfcjmjaaGreat
open Go.RowKit
set_option linter.unusedVariables false
attribute [local go_sem] cell_set_off cell_set_blk
attribute [local go_sem ↓] big65 big65'

/-- A command's cells. -/
def cmdC (c : M.Cmd) : Nat → Value
  | 0 => .int .i64 c.seq
  | 1 => .bool c.fire
  | 2 => .int .i64 c.mv.x
  | 3 => .int .i64 c.mv.y
  | 4 => .int .i64 c.mv.z
  | 5 => .int .i64 c.aim.x
  | 6 => .int .i64 c.aim.y
  | 7 => .int .i64 c.aim.z
  | _ => .int .i64 c.time
/-- A record's cells. -/
def recC (r : M.Rec) : Nat → Value
  | 0 => .int .i64 r.tick
  | 1 => .int .i64 r.pos.x
  | 2 => .int .i64 r.pos.y
  | _ => .int .i64 r.pos.z
/-- A slot's cells. -/
def pseatC (s : M.PSeat) (k : Nat) : Value :=
  if k = 0 then .bool s.taken else if k = 1 then .int .i64 s.gen else if k = 2 then .int .i64 s.last
  else if k < 39 then cmdC (s.q ((k - 3) / 9)) ((k - 3) % 9)
  else if k = 39 then .int .i64 s.waiting
  else if k = 40 then .int .i64 s.home.x else if k = 41 then .int .i64 s.home.y else if k = 42 then .int .i64 s.home.z
  else if k = 43 then .int .i64 s.place.x else if k = 44 then .int .i64 s.place.y else if k = 45 then .int .i64 s.place.z
  else if k = 46 then .int .i64 s.health else if k = 47 then .int .i64 s.ammo else if k = 48 then .int .i64 s.ready else if k = 49 then .int .i64 s.back
  else if k < 118 then recC (s.track ((k - 50) / 4)) ((k - 50) % 4)
  else .int .i64 s.count

/-- A server's block: its map, the tick, the slots. -/
structure Pg (W : World) (b : Nat) (mv : Value) (ps : Nat → Bool) (g : M.PGame) : Prop where
  cm : Range W b 0 65 (mapC mv ps)
  ct : W.cell? ⟨b, 65, none⟩ = some (.int .i64 g.tick)
  cs : ∀ i k, i < 8 → k < 119 → W.cell? ⟨b, 66 + i * 119 + k, none⟩ = some (pseatC (g.seat i) k)
  free : ∀ o, W.frozen? ⟨b, o, none⟩ = false
  lt : b < W.heap.size

theorem Pg.of {W W' : World} {b : Nat} {mv : Value} {ps : Nat → Bool} {g : M.PGame} (h : Pg W b mv ps g) (e : W'.heap[b]? = W.heap[b]?) (hl : b < W'.heap.size) : Pg W' b mv ps g :=
  ⟨fun j hj => (World.cell?_of_block (a := ⟨b, _, none⟩) e).trans (h.cm j hj), (World.cell?_of_block (a := ⟨b, _, none⟩) e).trans h.ct, fun i k hi hk => (World.cell?_of_block (a := ⟨b, _, none⟩) e).trans (h.cs i k hi hk), fun o => (World.frozen?_of_block (a := ⟨b, o, none⟩) e).trans (h.free o), hl⟩
theorem Pg.after {W W' : World} {b : Nat} {mv : Value} {ps : Nat → Bool} {g : M.PGame} (h : Pg W b mv ps g) (hb : Below W.heap.size W W') : Pg W' b mv ps g := h.of (hb.block b h.lt) (by have := hb.size; have := h.lt; omega)
theorem Pg.alloc {W : World} {b : Nat} {mv : Value} {ps : Nat → Bool} {g : M.PGame} (h : Pg W b mv ps g) (o : Obj) : Pg (W.alloc o) b mv ps g := h.of (Below.heap_alloc _ _ _ h.lt) (by have := h.lt; simp; omega)

/-- A slot's plain cells, at its own place. -/
structure Se (W : World) (b o : Nat) (s : M.PSeat) : Prop where
  c0 : W.cell? ⟨b, o, none⟩ = some (.bool s.taken)
  c1 : W.cell? ⟨b, o + 1, none⟩ = some (.int .i64 s.gen)
  c2 : W.cell? ⟨b, o + 2, none⟩ = some (.int .i64 s.last)
  c39 : W.cell? ⟨b, o + 39, none⟩ = some (.int .i64 s.waiting)
  c40 : W.cell? ⟨b, o + 40, none⟩ = some (.int .i64 s.home.x)
  c41 : W.cell? ⟨b, o + 41, none⟩ = some (.int .i64 s.home.y)
  c42 : W.cell? ⟨b, o + 42, none⟩ = some (.int .i64 s.home.z)
  c43 : W.cell? ⟨b, o + 43, none⟩ = some (.int .i64 s.place.x)
  c44 : W.cell? ⟨b, o + 44, none⟩ = some (.int .i64 s.place.y)
  c45 : W.cell? ⟨b, o + 45, none⟩ = some (.int .i64 s.place.z)
  c46 : W.cell? ⟨b, o + 46, none⟩ = some (.int .i64 s.health)
  c47 : W.cell? ⟨b, o + 47, none⟩ = some (.int .i64 s.ammo)
  c48 : W.cell? ⟨b, o + 48, none⟩ = some (.int .i64 s.ready)
  c49 : W.cell? ⟨b, o + 49, none⟩ = some (.int .i64 s.back)
  c118 : W.cell? ⟨b, o + 118, none⟩ = some (.int .i64 s.count)
theorem Pg.se {W : World} {b : Nat} {mv : Value} {ps : Nat → Bool} {g : M.PGame} (h : Pg W b mv ps g) {i : Nat} (hi : i < 8) : Se W b (66 + i * 119) (g.seat i) :=
  ⟨h.cs i 0 hi (by omega), h.cs i 1 hi (by omega), h.cs i 2 hi (by omega), h.cs i 39 hi (by omega), h.cs i 40 hi (by omega), h.cs i 41 hi (by omega), h.cs i 42 hi (by omega), h.cs i 43 hi (by omega), h.cs i 44 hi (by omega), h.cs i 45 hi (by omega), h.cs i 46 hi (by omega), h.cs i 47 hi (by omega), h.cs i 48 hi (by omega), h.cs i 49 hi (by omega), h.cs i 118 hi (by omega)⟩

set_option maxHeartbeats 1000000 in
theorem pTaken_any (b : Nat) (mv : Value) (ps : Nat → Bool) (g : M.PGame) (slot : Int) (w : World) (h : Pg w b mv ps g) (B : Bool) (hB : Hid (g.takenB slot = B)) :
    Calls Tryz.prog 55 #[.pointer (some ⟨b, 0, none⟩), .int .i64 slot] w fun e w' => e = .returned (.bool B) ∧ w' = w := by
  by_cases h1 : 0 ≤ slot
  · by_cases h2 : slot < 8
    · obtain ⟨i, rfl⟩ : ∃ i : Nat, slot = (i : Int) := ⟨slot.toNat, by omega⟩
      have hi : i < 8 := by omega
      have c0 := (h.se hi).c0
      have e : (g.seat i).taken = B := by rw [← hB.out]; unfold M.PGame.takenB; simp [h2]
      rw [e] at c0
      clear hB e h
      go_enter Tryz.func55, Tryz.ntmps55
      go_wp2
      go_ret
      exact ⟨rfl, rfl⟩
    · obtain rfl : false = B := by rw [← hB.out]; unfold M.PGame.takenB; simp [h2]
      have d : decide (slot < 8) = false := by simp; omega
      clear hB h
      go_enter Tryz.func55, Tryz.ntmps55
      go_wp2
      go_ret
      exact ⟨rfl, rfl⟩
  · obtain rfl : false = B := by rw [← hB.out]; unfold M.PGame.takenB; simp [h1]
    have d : decide (0 ≤ slot) = false := by simp; omega
    clear hB h
    go_enter Tryz.func55, Tryz.ntmps55
    go_wp2
    go_ret
    exact ⟨rfl, rfl⟩

set_option maxHeartbeats 400000 in
theorem live_any (b o : Nat) (w : World) (h : Int) (hc : w.cell? ⟨b, o + 6, none⟩ = some (.int .i64 h)) (B : Bool) (hB : Hid (decide (0 < h) = B)) : Calls Tryz.prog 85 #[.pointer (some ⟨b, o, none⟩)] w fun e w' => e = .returned (.bool B) ∧ w' = w := by
  go_enter Tryz.func85, Tryz.ntmps85
  go_wp2
  go_ret
  exact ⟨ret_bool hB.out, rfl⟩

set_option maxHeartbeats 1000000 in
theorem minus_any (p q : M.V3) (w : World) (h1 : -1048576 ≤ p.x - q.x) (h2 : p.x - q.x ≤ 1048576) (h3 : -1048576 ≤ p.y - q.y) (h4 : p.y - q.y ≤ 1048576) (h5 : -1048576 ≤ p.z - q.z) (h6 : p.z - q.z ≤ 1048576) :
    Calls Tryz.prog 106 #[.agg #[.int .i64 p.x, .int .i64 p.y, .int .i64 p.z], .agg #[.int .i64 q.x, .int .i64 q.y, .int .i64 q.z]] w fun e w' => e = .returned (.agg #[.int .i64 (p.x - q.x), .int .i64 (p.y - q.y), .int .i64 (p.z - q.z)]) ∧ Below w.heap.size w w' := by
  go_enter Tryz.func106, Tryz.ntmps106
  go_wp2
  exact bodyPost_ret (v := .agg #[.int .i64 (p.x - q.x), .int .i64 (p.y - q.y), .int .i64 (p.z - q.z)]) (by simp [results, Tryz.results106, go_sem]) rfl ⟨rfl, by go_grown⟩

theorem sq_bd {a : Int} (h1 : -4096 ≤ a) (h2 : a ≤ 4096) : 0 ≤ a * a ∧ a * a ≤ 16777216 := by
  constructor
  · rcases Int.le_total 0 a with h | h
    · exact Int.mul_nonneg h h
    · have := Int.mul_nonneg (Int.neg_nonneg_of_nonpos h) (Int.neg_nonneg_of_nonpos h); rwa [Int.neg_mul_neg] at this
  · rcases Int.le_total 0 a with h | h
    · have := Int.mul_le_mul h2 h2 h (by omega); omega
    · have := Int.mul_le_mul (show -a ≤ 4096 by omega) (show -a ≤ 4096 by omega) (by omega) (by omega); rw [Int.neg_mul_neg] at this; omega

set_option maxHeartbeats 1000000 in
theorem pnear_any (p q : M.V3) (w : World) (hp : M.InB M.cubeLo M.cubeHi p) (hq : M.InB M.cubeLo M.cubeHi q) (B : Bool) (hB : Hid (M.nearP p q = B)) :
    Calls Tryz.prog 86 #[.agg #[.int .i64 p.x, .int .i64 p.y, .int .i64 p.z], .agg #[.int .i64 q.x, .int .i64 q.y, .int .i64 q.z]] w fun e w' => e = .returned (.bool B) ∧ Below w.heap.size w w' := by
  obtain ⟨a1, a2, a3, a4, a5, a6⟩ := hp
  obtain ⟨b1, b2, b3, b4, b5, b6⟩ := hq
  simp only [M.cubeLo, M.cubeHi] at a1 a2 a3 a4 a5 a6 b1 b2 b3 b4 b5 b6
  have s1 := sq_bd (a := p.x - q.x) (by omega) (by omega)
  have s2 := sq_bd (a := p.y - q.y) (by omega) (by omega)
  have s3 := sq_bd (a := p.z - q.z) (by omega) (by omega)
  obtain ⟨s10, s11⟩ := s1
  obtain ⟨s20, s21⟩ := s2
  obtain ⟨s30, s31⟩ := s3
  go_enter Tryz.func86, Tryz.ntmps86
  go_wp2_with fail
  refine (minus_any p q _ (by omega) (by omega) (by omega) (by omega) (by omega) (by omega)).mono ?_
  rintro e w1 ⟨rfl, hb⟩
  have B1 : Below w.heap.size w w1 := bl (by go_grown) hb
  clear hb
  have hz := B1.size
  generalize hx : p.x - q.x = x at s10 s11 ⊢
  generalize hy : p.y - q.y = y at s20 s21 ⊢
  generalize hzz : p.z - q.z = z at s30 s31 ⊢
  have HB : Hid (decide (x * x + y * y + z * z ≤ 1048576) = B) := by unfold Hid; rw [← hB.out]; unfold M.nearP; rw [hx, hy, hzz]
  clear hx hy hzz hB a1 a2 a3 a4 a5 a6 b1 b2 b3 b4 b5 b6
  go_wp2
  go_ret
  exact ⟨ret_bool HB.out, by go_grown⟩

set_option maxHeartbeats 1000000 in
theorem sees_any (cs : Array Value) (v : Value) (ps : Nat → Bool) (hcs : MapIs cs v ps) (a b : Int) (w : World) (B : Bool) (hB : Hid (M.seesP ps a b = B)) :
    Calls Tryz.prog 87 #[.agg cs, .int .i64 a, .int .i64 b] w fun e w' => e = .returned (.bool B) ∧ Below w.heap.size w w' := by
  have hin : ∀ A C : Nat, A < 8 → C < 8 → cs[1 + A * 8 + C]? = some (.bool (ps (8 * A + C))) := fun A C hA hC => by
    rw [hcs.is, cellsOf_get _ (by omega), show 1 + A * 8 + C = (8 * A + C) + 1 by omega]; rfl
  clear hcs
  by_cases h1 : a < 0
  · obtain rfl : false = B := by rw [← hB.out]; unfold M.seesP; simp; omega
    clear hB hin
    go_enter Tryz.func87, Tryz.ntmps87
    go_wp2
    go_ret
    exact ⟨rfl, by go_grown⟩
  by_cases h2 : 8 ≤ a
  · obtain rfl : false = B := by rw [← hB.out]; unfold M.seesP; simp; omega
    clear hB hin
    go_enter Tryz.func87, Tryz.ntmps87
    go_wp2
    go_ret
    exact ⟨rfl, by go_grown⟩
  by_cases h3 : b < 0
  · obtain rfl : false = B := by rw [← hB.out]; unfold M.seesP; simp; omega
    clear hB hin
    go_enter Tryz.func87, Tryz.ntmps87
    go_wp2
    go_ret
    exact ⟨rfl, by go_grown⟩
  by_cases h4 : 8 ≤ b
  · obtain rfl : false = B := by rw [← hB.out]; unfold M.seesP; simp; omega
    clear hB hin
    go_enter Tryz.func87, Tryz.ntmps87
    go_wp2
    go_ret
    exact ⟨rfl, by go_grown⟩
  obtain ⟨A, rfl⟩ : ∃ A : Nat, a = (A : Int) := ⟨a.toNat, by omega⟩
  obtain ⟨C, rfl⟩ : ∃ C : Nat, b = (C : Int) := ⟨b.toNat, by omega⟩
  have e : B = (decide ((A : Int) = (C : Int)) || ps (8 * A + C)) := by
    rw [← hB.out]; unfold M.seesP
    simp only [Int.toNat_natCast]
    rw [decide_eq_true (show (0 : Int) ≤ (A : Int) by omega), decide_eq_true (show (A : Int) < 8 by omega), decide_eq_true (show (0 : Int) ≤ (C : Int) by omega), decide_eq_true (show (C : Int) < 8 by omega)]
    simp only [Bool.true_and]
  clear hB
  have c0 := hin A C (by omega) (by omega)
  have hA : (A : Int) < 8 := by omega
  have hC : (C : Int) < 8 := by omega
  by_cases hac : A = C
  · subst hac
    obtain rfl : B = true := by rw [e]; simp
    clear e hin
    go_enter Tryz.func87, Tryz.ntmps87
    go_wp2
    go_ret
    exact ⟨rfl, by go_grown⟩
  · obtain rfl : B = ps (8 * A + C) := by rw [e, decide_eq_false (by omega)]; rfl
    have hac2 : ((A : Int) == (C : Int)) = false := by simp; omega
    clear e hin
    go_enter Tryz.func87, Tryz.ntmps87
    go_wp2
    go_ret
    exact ⟨rfl, by go_grown⟩

set_option maxHeartbeats 1000000 in
theorem cooling_any (b o : Nat) (w : World) (r t : Int) (hc : w.cell? ⟨b, o + 8, none⟩ = some (.int .i64 r)) (r1 : -10000 ≤ r) (r2 : r ≤ 10000) (t1 : 0 ≤ t) (t2 : t ≤ 3000) : Calls Tryz.prog 88 #[.pointer (some ⟨b, o, none⟩), .int .i64 t] w fun e w' => e = .returned (.int .i64 (if r ≤ t then 0 else r - t)) ∧ w' = w := by
  by_cases h : r ≤ t
  · rw [if_pos h]
    go_enter Tryz.func88, Tryz.ntmps88
    go_wp2
    go_ret
    exact ⟨rfl, rfl⟩
  · rw [if_neg h]
    go_enter Tryz.func88, Tryz.ntmps88
    go_wp2
    go_ret
    exact ⟨rfl, rfl⟩

end Go.Proofs.YtonmihojfcjmjaaGreat

/- Contracts of the program's game: row, head, shows, canStand. -/
namespace Go.Proofs.YtonmihojfcjmjaaGreat
open Go.RowKit
set_option linter.unusedVariables false
attribute [local go_sem] cell_set_off cell_set_blk
attribute [local go_sem ↓] big65 big65'

theorem still_tail5 {P : Program} {id : Nat} {Q : Exit → Act → World → Prop} {a : Act} {w : World} {l : List Oper} (n : Nat) (hm : P.follows .mixedOrders = true) (hB : Region.lexTailB .any l.toArray n = true)
    (h : wpStill P l.toArray w.drew (fun a' => wpList P l.toArray Q (l.drop n) a' w.drew) (l.take n) a) : (Code.region id l.toArray true).wp P Q a w := wp_region_still_tail n hm hB h

theorem b8_mod (x : Int) : M.b8 (x % 256) = M.b8 x := by unfold M.b8; rw [Int.emod_emod_of_dvd _ (Int.dvd_refl _)]
theorem ret_str {a b : ByteArray} (h : a = b) : Ending.returned (.string a) = .returned (.string b) := by rw [h]

/-- A slot's numbers are such that they can be told of. -/
structure M.PSane (s : M.PSeat) : Prop where
  g1 : 0 ≤ s.gen
  g2 : s.gen ≤ 255
  h1 : 0 ≤ s.health
  h2 : s.health ≤ 100
  a1 : 0 ≤ s.ammo
  a2 : s.ammo ≤ 6
  r1 : 0 ≤ s.ready
  r2 : s.ready ≤ 3003
  p : M.InB M.cubeLo M.cubeHi s.place

set_option maxRecDepth 100000 in
set_option maxHeartbeats 2000000 in
theorem prow_any (b o i : Nat) (s : M.PSeat) (w : World) (h : Se w b o s) (hs : M.PSane s) (hi : i < 8) (hlt : b < w.heap.size) :
    Calls Tryz.prog 66 #[.int .i64 i, .pointer (some ⟨b, o, none⟩)] w fun e w' => e = .returned (.string ⟨(s.row i).toArray⟩) ∧ Below w.heap.size w w' := by
  obtain ⟨g1, g2, h1, h2, a1, a2, r1, r2, p1, p2, p3, p4, p5, p6⟩ := hs
  simp only [M.cubeLo, M.cubeHi] at p1 p2 p3 p4 p5 p6
  have i0 : (i : Int) < 8 := by omega
  have E : Hid ((⟨([(i : Int), s.gen, s.health, s.place.x % 256, s.place.x / 256, s.place.y % 256, s.place.y / 256, s.place.z % 256, s.place.z / 256].map M.b8).toArray⟩ : ByteArray) = ⟨(s.row i).toArray⟩) := by
    unfold Hid M.PSeat.row M.twoP
    simp [b8_mod]
  have hconv := bytes_back (W := ((w.alloc (.cells #[.int .i64 s.place.x, .int .i64 s.place.y, .int .i64 s.place.z] 27)).alloc (.cells #[.int .u8 (i : Int), .int .u8 s.gen, .int .u8 s.health, .int .u8 (s.place.x % 256), .int .u8 (s.place.x / 256), .int .u8 (s.place.y % 256), .int .u8 (s.place.y / 256), .int .u8 (s.place.z % 256), .int .u8 (s.place.z / 256)] 5)).drew) (g := w.heap.size + 1) (xs := [(i : Int), s.gen, s.health, s.place.x % 256, s.place.x / 256, s.place.y % 256, s.place.y / 256, s.place.z % 256, s.place.z / 256]) (Blk.drew (Blk.new (by simp))) (by intro x hx; simp at hx; omega) 9 rfl
  obtain ⟨c0, c1, c2, c39, c40, c41, c42, c43, c44, c45, c46, c47, c48, c118⟩ := h
  clear c0 c2 c39 c40 c41 c42 c47 c48 c118
  go_enter Tryz.func66, Tryz.ntmps66
  go_wp2_with fail
  refine still_tail5 34 (by kernel_rfl) (by kernel_rfl) ?_
  simp only [List.take_succ_cons, List.take_zero, List.drop_succ_cons, List.drop_zero]
  repeat still_step
  refine wpStill_nil ?_
  go_wp2
  go_ret
  exact ⟨ret_str E.out, by go_grown⟩

set_option maxRecDepth 100000 in
set_option maxHeartbeats 2000000 in
theorem phead_any (b : Nat) (mv : Value) (ps : Nat → Bool) (g : M.PGame) (i : Nat) (n : Int) (w : World) (h : Pg w b mv ps g) (hs : M.PSane (g.seat i)) (hr : (g.seat i).ready ≤ g.tick + 3) (hi : i < 8) (n0 : 0 ≤ n) (n8 : n ≤ 8) (t0 : 0 ≤ g.tick) (t1 : g.tick ≤ 3000) :
    Calls Tryz.prog 67 #[.pointer (some ⟨b, 0, none⟩), .int .i64 i, .pointer (some ⟨b, 66 + i * 119 + 40, none⟩), .int .i64 n] w fun e w' => e = .returned (.string ⟨(g.headP i n).toArray⟩) ∧ Below w.heap.size w w' := by
  obtain ⟨g1, g2, h1, h2, a1, a2, r1, r2, p1, p2, p3, p4, p5, p6⟩ := hs
  have i0 : (i : Int) < 8 := by omega
  have hse := h.se hi
  have c65 := h.ct
  have hlt := h.lt
  obtain ⟨c0, c1, c2, c39, c40, c41, c42, c43, c44, c45, c46, c47, c48, c118⟩ := hse
  have E : Hid ((⟨([83, g.tick % 256, g.tick / 256, (i : Int), (g.seat i).liveN, (g.seat i).health, (g.seat i).ammo, (g.seat i).cooling g.tick, n].map M.b8).toArray⟩ : ByteArray) = ⟨(g.headP i n).toArray⟩) := by
    unfold Hid M.PGame.headP M.twoP
    simp [b8_mod]
    rfl
  generalize g.seat i = s at *
  generalize g.tick = t at *
  clear c0 c1 c2 c39 c40 c41 c42 c43 c44 c45 c118 h
  obtain ⟨L, hL⟩ : ∃ L, s.liveN = L := ⟨_, rfl⟩
  obtain ⟨C, hC⟩ : ∃ C, s.cooling t = C := ⟨_, rfl⟩
  rw [hL, hC] at E
  have L1 : 0 ≤ L ∧ L ≤ 1 := by rw [← hL]; unfold M.PSeat.liveN; split <;> omega
  have C1 : 0 ≤ C ∧ C ≤ 3 := by rw [← hC]; unfold M.PSeat.cooling; split <;> omega
  have hC2 : Hid ((if s.ready ≤ t then 0 else s.ready - t) = C) := hC
  have hconv := bytes_back (W := (w.alloc (.cells #[.int .u8 83, .int .u8 (t % 256), .int .u8 (t / 256), .int .u8 (i : Int), .int .u8 L, .int .u8 s.health, .int .u8 s.ammo, .int .u8 C, .int .u8 n] 5)).drew) (g := w.heap.size) (xs := [83, t % 256, t / 256, (i : Int), L, s.health, s.ammo, C, n]) (Blk.drew (Blk.new (by simp))) (by intro x hx; simp at hx; omega) 9 rfl
  obtain ⟨L0, L2⟩ := L1
  obtain ⟨C0, C2⟩ := C1
  by_cases hl : 0 < s.health
  · have hB : Hid (decide (0 < s.health) = true) := decide_eq_true hl
    obtain rfl : L = 1 := by rw [← hL]; unfold M.PSeat.liveN; rw [if_pos hl]
    clear hL hC
    go_enter Tryz.func67, Tryz.ntmps67
    go_wp2_with fail
    refine (live_any b (66 + i * 119 + 40) _ s.health c46 true hB).mono ?_
    rintro e w1 ⟨rfl, rfl⟩
    go_wp2_with fail
    refine (cooling_any b (66 + i * 119 + 40) _ s.ready t c48 (by omega) (by omega) t0 t1).mono ?_
    rintro e w1 ⟨rfl, rfl⟩
    rw [hC2.out]
    go_wp2_with fail
    refine still_tail5 28 (by kernel_rfl) (by kernel_rfl) ?_
    simp only [List.take_succ_cons, List.take_zero, List.drop_succ_cons, List.drop_zero]
    repeat still_step
    refine wpStill_nil ?_
    go_wp2
    go_ret
    exact ⟨ret_str E.out, by go_grown⟩
  · have hB : Hid (decide (0 < s.health) = false) := decide_eq_false hl
    obtain rfl : L = 0 := by rw [← hL]; unfold M.PSeat.liveN; rw [if_neg hl]
    clear hL hC
    go_enter Tryz.func67, Tryz.ntmps67
    go_wp2_with fail
    refine (live_any b (66 + i * 119 + 40) _ s.health c46 false hB).mono ?_
    rintro e w1 ⟨rfl, rfl⟩
    go_wp2_with fail
    refine (cooling_any b (66 + i * 119 + 40) _ s.ready t c48 (by omega) (by omega) t0 t1).mono ?_
    rintro e w1 ⟨rfl, rfl⟩
    rw [hC2.out]
    go_wp2_with fail
    refine still_tail5 28 (by kernel_rfl) (by kernel_rfl) ?_
    simp only [List.take_succ_cons, List.take_zero, List.drop_succ_cons, List.drop_zero]
    repeat still_step
    refine wpStill_nil ?_
    go_wp2
    go_ret
    exact ⟨ret_str E.out, by go_grown⟩

end Go.Proofs.YtonmihojfcjmjaaGreat

/- Contracts of the program's game: shows, canStand. -/
namespace Go.Proofs.YtonmihojfcjmjaaGreat
open Go.RowKit
set_option linter.unusedVariables false
attribute [local go_sem] cell_set_off cell_set_blk
attribute [local go_sem ↓] big65 big65'

def M.inCube (p : M.V3) : Bool := decide (0 ≤ p.x) && decide (p.x ≤ 4096) && decide (0 ≤ p.y) && decide (p.y ≤ 4096) && decide (0 ≤ p.z) && decide (p.z ≤ 4096)
theorem M.inCube_iff (p : M.V3) : M.inCube p = true ↔ M.InB M.cubeLo M.cubeHi p := by
  unfold M.inCube
  simp only [Bool.and_eq_true, decide_eq_true_eq]
  constructor
  · rintro ⟨⟨⟨⟨⟨a, b⟩, c⟩, d⟩, e⟩, f⟩; exact ⟨a, b, c, d, e, f⟩
  · rintro ⟨a, b, c, d, e, f⟩; exact ⟨⟨⟨⟨⟨a, b⟩, c⟩, d⟩, e⟩, f⟩
theorem holds_inCube (p : M.V3) (w : World) (B : Bool) (hB : Hid (M.inCube p = B)) :
    Calls Tryz.prog 71 #[.agg #[.int .i64 0, .int .i64 0, .int .i64 0, .int .i64 4096, .int .i64 4096, .int .i64 4096], .agg #[.int .i64 p.x, .int .i64 p.y, .int .i64 p.z]] w fun e w' => e = .returned (.bool B) ∧ Below w.heap.size w w' := by
  rw [← hB.out]
  exact holds_any M.cubeLo M.cubeHi p w

/-- A map is read out of a server's block, in a region that draws its order. -/
theorem still_map {ops : Array Oper} {rest : List Oper} {o : Oper} {a : Act} {w : World} {Q : Act → Prop} (b : Nat) (v : Value) (ps : Nat → Bool) (cs : Array Value) (hcs : MapIs cs v ps) (hc : Range w b 0 65 (mapC v ps))
    (x : Operand) (ho : o.op = .load 46 x) (hw : Region.wanted o (yielded ops a.tmps) = true) (hx : a.eval x = .pointer (some ⟨b, 0, none⟩))
    (h : wpStill Tryz.prog ops w Q rest (a.put o.dst (.agg cs))) : wpStill Tryz.prog ops w Q (o :: rest) a := by
  unfold wpStill
  rw [if_pos hw]
  unfold Oper.still execOp
  have hl := run_loadVar_mid (P := Tryz.prog) w b 0 46 cs.toList _ (fun j u hu => by
    rw [hcs.is] at hu
    have hj : j < 65 := by
      have := (List.getElem?_eq_some_iff.1 hu).1
      simpa [cellsOf] using this
    rw [hc j hj]
    rw [Array.getElem?_toList, cellsOf_get _ hj] at hu
    exact hu) Tryz.underlying46 rfl (by rw [hcs.is, Array.length_toList, cellsOf_size]; kernel_rfl)
  simp only [ho, hx, Instr.loadAt, Instr.sureAddr, Sem.run_bind, Sem.run_pure, Result.andThen_ok, hl]
  rw [Oper.stillUpon_value]
  exact h

set_option maxRecDepth 100000 in
set_option maxHeartbeats 2000000 in
theorem pshows_any (b : Nat) (x : Option Addr) (n cap : Nat) (ps : Nat → Bool) (ls : List M.Lf) (g : M.PGame) (i j : Nat) (w : World) (h : Pg w b (.slice x n cap) ps g) (hown : w.ownsRow 0 137 7 (.slice x n cap) ls.length (flat ls)) (hl : ls.length ≤ 512)
    (hi : i < 8) (hj : j < 8) (hpi : M.InB M.cubeLo M.cubeHi (g.seat i).place) (hpj : M.InB M.cubeLo M.cubeHi (g.seat j).place) (B : Bool) (hB : Hid (M.showsP ls ps (g.seat i) (g.seat j) = B)) :
    Calls Tryz.prog 65 #[.pointer (some ⟨b, 0, none⟩), .pointer (some ⟨b, 66 + i * 119 + 40, none⟩), .pointer (some ⟨b, 66 + j * 119 + 40, none⟩)] w fun e w' => e = .returned (.bool B) ∧ Below w.heap.size w w' := by
  have HP : Hid (Pg w b (.slice x n cap) ps g) := h
  have HO : Hid (w.ownsRow 0 137 7 (.slice x n cap) ls.length (flat ls)) := hown
  have i3 := (h.se hi).c43
  have i4 := (h.se hi).c44
  have i5 := (h.se hi).c45
  have j3 := (h.se hj).c43
  have j4 := (h.se hj).c44
  have j5 := (h.se hj).c45
  have j6 := (h.se hj).c46
  have hlt := h.lt
  clear hown h
  obtain ⟨N, hN⟩ : ∃ N, M.nearP (g.seat i).place (g.seat j).place = N := ⟨_, rfl⟩
  have HN : Hid (M.nearP (g.seat i).place (g.seat j).place = N) := hN
  by_cases hl : 0 < (g.seat j).health
  · have hL : Hid (decide (0 < (g.seat j).health) = true) := decide_eq_true hl
    have HB2 : Hid ((N && M.seesP ps (M.zP (g.seat i).place ls (-1)) (M.zP (g.seat j).place ls (-1))) = B) := by
      unfold Hid; rw [← hB.out]; unfold M.showsP; rw [decide_eq_true hl, hN, Bool.true_and]
    clear hB hN hl
    go_enter Tryz.func65, Tryz.ntmps65
    go_wp2_with fail
    refine still_tail5 12 (by kernel_rfl) (by kernel_rfl) ?_
    simp only [List.take_succ_cons, List.take_zero, List.drop_succ_cons, List.drop_zero]
    still_step
    still_call (live_any b (66 + j * 119 + 40) _ (g.seat j).health (by exact j6) true hL)
    repeat still_step
    refine wpStill_nil ?_
    go_wp2_with fail
    refine (pnear_any (g.seat i).place (g.seat j).place _ hpi hpj N HN).mono ?_
    rintro e w1 ⟨rfl, hb⟩
    have P1 : Hid (Pg w1 b (.slice x n cap) ps g) := HP.out.of (hb.block b hlt) (by have := hb.size; simp at this; omega)
    have O1 : Hid (w1.ownsRow 0 137 7 (.slice x n cap) ls.length (flat ls)) := own_of HO.out (fun k hk => hb.block k (own_lt HO.out hk))
    have B1 : Below w.heap.size w w1 := bl (by go_grown) hb
    clear hb HP HO HN i3 i4 i5 j3 j4 j5 j6 hL
    cases N
    · obtain rfl : false = B := by rw [← HB2.out]; rfl
      go_wp2
      go_ret
      exact ⟨rfl, B1⟩
    · have HB3 : Hid (M.seesP ps (M.zP (g.seat i).place ls (-1)) (M.zP (g.seat j).place ls (-1)) = B) := HB2.out
      clear HB2
      have i3 := (P1.out.se hi).c43
      have i4 := (P1.out.se hi).c44
      have i5 := (P1.out.se hi).c45
      obtain ⟨cs, hcs⟩ : ∃ cs, MapIs cs (.slice x n cap) ps := ⟨_, ⟨rfl⟩⟩
      have HCS := hid hcs
      have c00 := hid hcs.at0
      clear hcs
      go_wp2_with fail
      refine still_tail5 8 (by kernel_rfl) (by kernel_rfl) ?_
      simp only [List.take_succ_cons, List.take_zero, List.drop_succ_cons, List.drop_zero]
      iterate 3 still_step
      refine still_map b (.slice x n cap) ps cs HCS.out (by exact P1.out.cm) (.tmp 26) rfl rfl rfl ?_
      repeat still_step
      refine wpStill_nil ?_
      go_wp2_with fail
      refine (mapZone_any cs x n cap 0 ls (g.seat i).place w1.drew c00.out (own_of O1.out (fun k hk => rfl)) hl).mono ?_
      rintro e w2 ⟨rfl, hb⟩
      have hlt1 := P1.out.lt
      have P2 : Hid (Pg w2 b (.slice x n cap) ps g) := P1.out.of (hb.block b hlt1) (by have := hb.size; simp at this; omega)
      have O2 : Hid (w2.ownsRow 0 137 7 (.slice x n cap) ls.length (flat ls)) := own_of O1.out (fun k hk => hb.block k (own_lt O1.out hk))
      have B2 : Below w.heap.size w w2 := bl (by have := B1.size; go_grown) hb
      clear hb i3 i4 i5 P1 O1 B1
      have j3 := (P2.out.se hj).c43
      have j4 := (P2.out.se hj).c44
      have j5 := (P2.out.se hj).c45
      go_wp2_with fail
      refine still_tail5 8 (by kernel_rfl) (by kernel_rfl) ?_
      simp only [List.take_succ_cons, List.take_zero, List.drop_succ_cons, List.drop_zero]
      iterate 3 still_step
      refine still_map b (.slice x n cap) ps cs HCS.out (by exact P2.out.cm) (.tmp 35) rfl rfl rfl ?_
      repeat still_step
      refine wpStill_nil ?_
      go_wp2_with fail
      refine (mapZone_any cs x n cap 0 ls (g.seat j).place w2.drew c00.out (own_of O2.out (fun k hk => rfl)) hl).mono ?_
      rintro e w3 ⟨rfl, hb⟩
      have hlt2 := P2.out.lt
      have P3 : Hid (Pg w3 b (.slice x n cap) ps g) := P2.out.of (hb.block b hlt2) (by have := hb.size; simp at this; omega)
      have B3 : Below w.heap.size w w3 := bl (by have := B2.size; go_grown) hb
      clear hb j3 j4 j5 P2 O2 B2
      have ld : (big 65 ⟨b, 0, none⟩).run Tryz.prog w3 = .ok cs w3 := by rw [HCS.out.is]; exact big_range P3.out.cm
      go_wp2_with fail
      refine (sees_any cs (.slice x n cap) ps HCS.out _ _ _ B HB3).mono ?_
      rintro e w4 ⟨rfl, hb⟩
      have B4 : Below w.heap.size w w4 := bl B3 hb
      clear hb B3 ld
      go_wp2
      go_ret
      exact ⟨rfl, B4⟩
  · obtain rfl : false = B := by rw [← hB.out]; unfold M.showsP; rw [decide_eq_false hl, Bool.false_and, Bool.false_and]
    have hL : Hid (decide (0 < (g.seat j).health) = false) := decide_eq_false hl
    clear hB hN hl
    go_enter Tryz.func65, Tryz.ntmps65
    go_wp2_with fail
    go_quiet ((go_at_call 85; exact Calls.quiet_of_same (live_any b (66 + j * 119 + 40) _ (g.seat j).health (by exact j6) false hL)))
    go_wp2
    go_ret
    exact ⟨rfl, below_drewN (Below.refl _ _) _⟩

set_option maxRecDepth 100000 in
set_option maxHeartbeats 2000000 in
theorem pcan_any (b : Nat) (x : Option Addr) (n cap : Nat) (ps : Nat → Bool) (ls : List M.Lf) (g : M.PGame) (p : M.V3) (w : World) (h : Pg w b (.slice x n cap) ps g) (hown : w.ownsRow 0 137 7 (.slice x n cap) ls.length (flat ls)) (hl : ls.length ≤ 512) (B : Bool) (hB : Hid ((M.inCube p && decide (0 ≤ M.zP p ls (-1))) = B)) :
    Calls Tryz.prog 52 #[.pointer (some ⟨b, 0, none⟩), .agg #[.int .i64 p.x, .int .i64 p.y, .int .i64 p.z]] w fun e w' => e = .returned (.bool B) ∧ Below w.heap.size w w' := by
  have HP : Hid (Pg w b (.slice x n cap) ps g) := h
  have HO : Hid (w.ownsRow 0 137 7 (.slice x n cap) ls.length (flat ls)) := hown
  have hlt := h.lt
  clear h hown
  obtain ⟨C, hC⟩ : ∃ C, M.inCube p = C := ⟨_, rfl⟩
  have HC : Hid (M.inCube p = C) := hC
  have HB2 : Hid ((C && decide (0 ≤ M.zP p ls (-1))) = B) := by unfold Hid; rw [← hB.out, hC]
  clear hB hC
  go_enter Tryz.func52, Tryz.ntmps52
  go_wp2_with fail
  refine (cube_any _).mono ?_
  rintro e w1 ⟨rfl, hb⟩
  have q0 := (show Blk _ w.heap.size #[.int .i64 p.x, .int .i64 p.y, .int .i64 p.z] 27 from (by repeat' (first | (with_reducible assumption) | (refine Blk.new ?_; (first | (simp; done) | rfl); done) | (with_reducible refine Blk.alloc ?_) | (with_reducible refine Blk.drew ?_) | (with_reducible refine Blk.drewN ?_)))).after hb
  have P1 : Hid (Pg w1 b (.slice x n cap) ps g) := HP.out.of (by rw [hb.block b (by simp; omega), Below.heap_alloc _ _ _ hlt]) (by have := hb.size; simp at this; omega)
  have O1 : Hid (w1.ownsRow 0 137 7 (.slice x n cap) ls.length (flat ls)) := own_of HO.out (fun k hk => by have := own_lt HO.out hk; rw [hb.block k (by simp; omega), Below.heap_alloc _ _ _ this])
  have B1 : Below w.heap.size w w1 := bl (by go_grown) hb
  clear hb HP HO
  obtain ⟨a0, a1, a2, af, al⟩ := q0.three
  have hlt1 := P1.out.lt
  go_wp2_with fail
  refine (holds_inCube p _ C HC).mono ?_
  rintro e w2 ⟨rfl, hb⟩
  replace q0 := q0.alloc.after hb
  have P2 : Hid (Pg w2 b (.slice x n cap) ps g) := P1.out.of (by rw [hb.block b (by simp; omega), Below.heap_alloc _ _ _ hlt1]) (by have := hb.size; simp at this; omega)
  have O2 : Hid (w2.ownsRow 0 137 7 (.slice x n cap) ls.length (flat ls)) := own_of O1.out (fun k hk => by have := own_lt O1.out hk; rw [hb.block k (by simp; omega), Below.heap_alloc _ _ _ this])
  have B2 : Below w.heap.size w w2 := bl (by have := B1.size; go_grown) hb
  clear hb P1 O1 B1 a0 a1 a2 af al
  cases C
  · obtain rfl : false = B := by rw [← HB2.out]; rfl
    go_wp2
    go_ret
    exact ⟨rfl, B2⟩
  · have HB3 : Hid (decide (0 ≤ M.zP p ls (-1)) = B) := HB2.out
    clear HB2
    obtain ⟨a0, a1, a2, af, al⟩ := q0.three
    obtain ⟨cs, hcs⟩ : ∃ cs, MapIs cs (.slice x n cap) ps := ⟨_, ⟨rfl⟩⟩
    have HCS := hid hcs
    have c00 := hid hcs.at0
    have hlt2 := P2.out.lt
    clear hcs
    go_wp2_with fail
    refine still_tail5 5 (by kernel_rfl) (by kernel_rfl) ?_
    simp only [List.take_succ_cons, List.take_zero, List.drop_succ_cons, List.drop_zero]
    iterate 3 still_step
    refine still_map b (.slice x n cap) ps cs HCS.out (by exact P2.out.cm) (.tmp 14) rfl rfl rfl ?_
    repeat still_step
    refine wpStill_nil ?_
    go_wp2_with fail
    refine (mapZone_any cs x n cap 0 ls p w2.drew c00.out (own_of O2.out (fun k hk => rfl)) hl).mono ?_
    rintro e w3 ⟨rfl, hb⟩
    have B3 : Below w.heap.size w w3 := bl (by have := B2.size; go_grown) hb
    clear hb B2 P2 O2 a0 a1 a2 af al
    go_wp2
    go_ret
    exact ⟨ret_bool HB3.out, B3⟩

end Go.Proofs.YtonmihojfcjmjaaGreat
