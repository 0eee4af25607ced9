import Derived.Test.YtonmihojfcjmjabRd7
import Derived.Test.YtonmihojfcjmjabBM
import Derived.Test.YtonmihojfcjmjabZn1
import Derived.Deep.LoopGhost
import Derived.Laws.IdiomStrings
import Derived.StillTailTactics
/- The program's game in memory; its small contracts. -/
namespace Go.Proofs.Ytonmihojfcjmjab
open Go.RowKit
set_option linter.unusedVariables false
attribute [local go_sem] cell_set_off cell_set_blk
attribute [local go_sem ↓] big65 big65'

/-- A command's cells. -/
def cmdC (c : M.Cmd) : Nat → Value
  | 0 => .int .i64 c.seq
  | 1 => .bool c.fire
  | 2 => .int .i64 c.mv.x
  | 3 => .int .i64 c.mv.y
  | 4 => .int .i64 c.mv.z
  | 5 => .int .i64 c.aim.x
  | 6 => .int .i64 c.aim.y
  | 7 => .int .i64 c.aim.z
  | _ => .int .i64 c.time
/-- A record's cells. -/
def recC (r : M.Rec) : Nat → Value
  | 0 => .int .i64 r.tick
  | 1 => .int .i64 r.pos.x
  | 2 => .int .i64 r.pos.y
  | _ => .int .i64 r.pos.z
/-- A slot's cells. -/
def pseatC (s : M.PSeat) (k : Nat) : Value :=
  if k = 0 then .bool s.taken else if k = 1 then .int .i64 s.gen else if k = 2 then .int .i64 s.last
  else if k < 39 then cmdC (s.q ((k - 3) / 9)) ((k - 3) % 9)
  else if k = 39 then .int .i64 s.waiting
  else if k = 40 then .int .i64 s.home.x else if k = 41 then .int .i64 s.home.y else if k = 42 then .int .i64 s.home.z
  else if k = 43 then .int .i64 s.place.x else if k = 44 then .int .i64 s.place.y else if k = 45 then .int .i64 s.place.z
  else if k = 46 then .int .i64 s.health else if k = 47 then .int .i64 s.ammo else if k = 48 then .int .i64 s.ready else if k = 49 then .int .i64 s.back
  else if k < 118 then recC (s.track ((k - 50) / 4)) ((k - 50) % 4)
  else .int .i64 s.count

/-- A server's block: its map, the tick, the slots. -/
structure Pg (W : World) (b : Nat) (mv : Value) (ps : Nat → Bool) (g : M.PGame) : Prop where
  cm : Range W b 0 65 (mapC mv ps)
  ct : W.cell? ⟨b, 65, none⟩ = some (.int .i64 g.tick)
  cs : ∀ i k, i < 8 → k < 119 → W.cell? ⟨b, 66 + i * 119 + k, none⟩ = some (pseatC (g.seat i) k)
  free : ∀ o, W.frozen? ⟨b, o, none⟩ = false
  lt : b < W.heap.size

theorem Pg.of {W W' : World} {b : Nat} {mv : Value} {ps : Nat → Bool} {g : M.PGame} (h : Pg W b mv ps g) (e : W'.heap[b]? = W.heap[b]?) (hl : b < W'.heap.size) : Pg W' b mv ps g :=
  ⟨fun j hj => (World.cell?_of_block (a := ⟨b, _, none⟩) e).trans (h.cm j hj), (World.cell?_of_block (a := ⟨b, _, none⟩) e).trans h.ct, fun i k hi hk => (World.cell?_of_block (a := ⟨b, _, none⟩) e).trans (h.cs i k hi hk), fun o => (World.frozen?_of_block (a := ⟨b, o, none⟩) e).trans (h.free o), hl⟩
theorem Pg.after {W W' : World} {b : Nat} {mv : Value} {ps : Nat → Bool} {g : M.PGame} (h : Pg W b mv ps g) (hb : Below W.heap.size W W') : Pg W' b mv ps g := h.of (hb.block b h.lt) (by have := hb.size; have := h.lt; omega)
theorem Pg.alloc {W : World} {b : Nat} {mv : Value} {ps : Nat → Bool} {g : M.PGame} (h : Pg W b mv ps g) (o : Obj) : Pg (W.alloc o) b mv ps g := h.of (Below.heap_alloc _ _ _ h.lt) (by have := h.lt; simp; omega)

/-- A slot's plain cells, at its own place. -/
structure Se (W : World) (b o : Nat) (s : M.PSeat) : Prop where
  c0 : W.cell? ⟨b, o, none⟩ = some (.bool s.taken)
  c1 : W.cell? ⟨b, o + 1, none⟩ = some (.int .i64 s.gen)
  c2 : W.cell? ⟨b, o + 2, none⟩ = some (.int .i64 s.last)
  c39 : W.cell? ⟨b, o + 39, none⟩ = some (.int .i64 s.waiting)
  c40 : W.cell? ⟨b, o + 40, none⟩ = some (.int .i64 s.home.x)
  c41 : W.cell? ⟨b, o + 41, none⟩ = some (.int .i64 s.home.y)
  c42 : W.cell? ⟨b, o + 42, none⟩ = some (.int .i64 s.home.z)
  c43 : W.cell? ⟨b, o + 43, none⟩ = some (.int .i64 s.place.x)
  c44 : W.cell? ⟨b, o + 44, none⟩ = some (.int .i64 s.place.y)
  c45 : W.cell? ⟨b, o + 45, none⟩ = some (.int .i64 s.place.z)
  c46 : W.cell? ⟨b, o + 46, none⟩ = some (.int .i64 s.health)
  c47 : W.cell? ⟨b, o + 47, none⟩ = some (.int .i64 s.ammo)
  c48 : W.cell? ⟨b, o + 48, none⟩ = some (.int .i64 s.ready)
  c49 : W.cell? ⟨b, o + 49, none⟩ = some (.int .i64 s.back)
  c118 : W.cell? ⟨b, o + 118, none⟩ = some (.int .i64 s.count)
theorem Pg.se {W : World} {b : Nat} {mv : Value} {ps : Nat → Bool} {g : M.PGame} (h : Pg W b mv ps g) {i : Nat} (hi : i < 8) : Se W b (66 + i * 119) (g.seat i) :=
  ⟨h.cs i 0 hi (by omega), h.cs i 1 hi (by omega), h.cs i 2 hi (by omega), h.cs i 39 hi (by omega), h.cs i 40 hi (by omega), h.cs i 41 hi (by omega), h.cs i 42 hi (by omega), h.cs i 43 hi (by omega), h.cs i 44 hi (by omega), h.cs i 45 hi (by omega), h.cs i 46 hi (by omega), h.cs i 47 hi (by omega), h.cs i 48 hi (by omega), h.cs i 49 hi (by omega), h.cs i 118 hi (by omega)⟩

set_option maxHeartbeats 1000000 in
theorem pTaken_any (b : Nat) (mv : Value) (ps : Nat → Bool) (g : M.PGame) (slot : Int) (w : World) (h : Pg w b mv ps g) (B : Bool) (hB : Hid (g.takenB slot = B)) :
    Calls Try.prog 45 #[.pointer (some ⟨b, 0, none⟩), .int .i64 slot] w fun e w' => e = .returned (.bool B) ∧ w' = w := by
  by_cases h1 : 0 ≤ slot
  · by_cases h2 : slot < 8
    · obtain ⟨i, rfl⟩ : ∃ i : Nat, slot = (i : Int) := ⟨slot.toNat, by omega⟩
      have hi : i < 8 := by omega
      have c0 := (h.se hi).c0
      have e : (g.seat i).taken = B := by rw [← hB.out]; unfold M.PGame.takenB; simp [h2]
      rw [e] at c0
      clear hB e h
      go_enter Try.func45, Try.ntmps45
      go_wp2
      go_ret
      exact ⟨rfl, rfl⟩
    · obtain rfl : false = B := by rw [← hB.out]; unfold M.PGame.takenB; simp [h2]
      have d : decide (slot < 8) = false := by simp; omega
      clear hB h
      go_enter Try.func45, Try.ntmps45
      go_wp2
      go_ret
      exact ⟨rfl, rfl⟩
  · obtain rfl : false = B := by rw [← hB.out]; unfold M.PGame.takenB; simp [h1]
    have d : decide (0 ≤ slot) = false := by simp; omega
    clear hB h
    go_enter Try.func45, Try.ntmps45
    go_wp2
    go_ret
    exact ⟨rfl, rfl⟩

set_option maxHeartbeats 400000 in
theorem live_any (b o : Nat) (w : World) (h : Int) (hc : w.cell? ⟨b, o + 6, none⟩ = some (.int .i64 h)) (B : Bool) (hB : Hid (decide (0 < h) = B)) : Calls Try.prog 66 #[.pointer (some ⟨b, o, none⟩)] w fun e w' => e = .returned (.bool B) ∧ w' = w := by
  go_enter Try.func66, Try.ntmps66
  go_wp2
  go_ret
  exact ⟨ret_bool hB.out, rfl⟩

set_option maxHeartbeats 1000000 in
theorem minus_any (p q : M.V3) (w : World) (h1 : -1048576 ≤ p.x - q.x) (h2 : p.x - q.x ≤ 1048576) (h3 : -1048576 ≤ p.y - q.y) (h4 : p.y - q.y ≤ 1048576) (h5 : -1048576 ≤ p.z - q.z) (h6 : p.z - q.z ≤ 1048576) :
    Calls Try.prog 85 #[.agg #[.int .i64 p.x, .int .i64 p.y, .int .i64 p.z], .agg #[.int .i64 q.x, .int .i64 q.y, .int .i64 q.z]] w fun e w' => e = .returned (.agg #[.int .i64 (p.x - q.x), .int .i64 (p.y - q.y), .int .i64 (p.z - q.z)]) ∧ Below w.heap.size w w' := by
  go_enter Try.func85, Try.ntmps85
  go_wp2
  exact bodyPost_ret (v := .agg #[.int .i64 (p.x - q.x), .int .i64 (p.y - q.y), .int .i64 (p.z - q.z)]) (by simp [results, Try.results85, go_sem]) rfl ⟨rfl, by go_grown⟩

theorem sq_bd {a : Int} (h1 : -4096 ≤ a) (h2 : a ≤ 4096) : 0 ≤ a * a ∧ a * a ≤ 16777216 := by
  constructor
  · rcases Int.le_total 0 a with h | h
    · exact Int.mul_nonneg h h
    · have := Int.mul_nonneg (Int.neg_nonneg_of_nonpos h) (Int.neg_nonneg_of_nonpos h); rwa [Int.neg_mul_neg] at this
  · rcases Int.le_total 0 a with h | h
    · have := Int.mul_le_mul h2 h2 h (by omega); omega
    · have := Int.mul_le_mul (show -a ≤ 4096 by omega) (show -a ≤ 4096 by omega) (by omega) (by omega); rw [Int.neg_mul_neg] at this; omega

set_option maxHeartbeats 1000000 in
theorem pnear_any (p q : M.V3) (w : World) (hp : M.InB M.cubeLo M.cubeHi p) (hq : M.InB M.cubeLo M.cubeHi q) (B : Bool) (hB : Hid (M.nearP p q = B)) :
    Calls Try.prog 76 #[.agg #[.int .i64 p.x, .int .i64 p.y, .int .i64 p.z], .agg #[.int .i64 q.x, .int .i64 q.y, .int .i64 q.z]] w fun e w' => e = .returned (.bool B) ∧ Below w.heap.size w w' := by
  obtain ⟨a1, a2, a3, a4, a5, a6⟩ := hp
  obtain ⟨b1, b2, b3, b4, b5, b6⟩ := hq
  simp only [M.cubeLo, M.cubeHi] at a1 a2 a3 a4 a5 a6 b1 b2 b3 b4 b5 b6
  have s1 := sq_bd (a := p.x - q.x) (by omega) (by omega)
  have s2 := sq_bd (a := p.y - q.y) (by omega) (by omega)
  have s3 := sq_bd (a := p.z - q.z) (by omega) (by omega)
  obtain ⟨s10, s11⟩ := s1
  obtain ⟨s20, s21⟩ := s2
  obtain ⟨s30, s31⟩ := s3
  go_enter Try.func76, Try.ntmps76
  go_wp2_with fail
  refine (minus_any p q _ (by omega) (by omega) (by omega) (by omega) (by omega) (by omega)).mono ?_
  rintro e w1 ⟨rfl, hb⟩
  have B1 : Below w.heap.size w w1 := bl (by go_grown) hb
  clear hb
  have hz := B1.size
  generalize hx : p.x - q.x = x at s10 s11 ⊢
  generalize hy : p.y - q.y = y at s20 s21 ⊢
  generalize hzz : p.z - q.z = z at s30 s31 ⊢
  have HB : Hid (decide (x * x + y * y + z * z ≤ 1048576) = B) := by unfold Hid; rw [← hB.out]; unfold M.nearP; rw [hx, hy, hzz]
  clear hx hy hzz hB a1 a2 a3 a4 a5 a6 b1 b2 b3 b4 b5 b6
  go_wp2
  go_ret
  exact ⟨ret_bool HB.out, by go_grown⟩

set_option maxHeartbeats 1000000 in
theorem sees_any (cs : Array Value) (v : Value) (ps : Nat → Bool) (hcs : MapIs cs v ps) (a b : Int) (w : World) (B : Bool) (hB : Hid (M.seesP ps a b = B)) :
    Calls Try.prog 77 #[.agg cs, .int .i64 a, .int .i64 b] w fun e w' => e = .returned (.bool B) ∧ Below w.heap.size w w' := by
  have hin : ∀ A C : Nat, A < 8 → C < 8 → cs[1 + A * 8 + C]? = some (.bool (ps (8 * A + C))) := fun A C hA hC => by
    rw [hcs.is, cellsOf_get _ (by omega), show 1 + A * 8 + C = (8 * A + C) + 1 by omega]; rfl
  clear hcs
  by_cases h1 : a < 0
  · obtain rfl : false = B := by rw [← hB.out]; unfold M.seesP; simp; omega
    clear hB hin
    go_enter Try.func77, Try.ntmps77
    go_wp2
    go_ret
    exact ⟨rfl, by go_grown⟩
  by_cases h2 : 8 ≤ a
  · obtain rfl : false = B := by rw [← hB.out]; unfold M.seesP; simp; omega
    clear hB hin
    go_enter Try.func77, Try.ntmps77
    go_wp2
    go_ret
    exact ⟨rfl, by go_grown⟩
  by_cases h3 : b < 0
  · obtain rfl : false = B := by rw [← hB.out]; unfold M.seesP; simp; omega
    clear hB hin
    go_enter Try.func77, Try.ntmps77
    go_wp2
    go_ret
    exact ⟨rfl, by go_grown⟩
  by_cases h4 : 8 ≤ b
  · obtain rfl : false = B := by rw [← hB.out]; unfold M.seesP; simp; omega
    clear hB hin
    go_enter Try.func77, Try.ntmps77
    go_wp2
    go_ret
    exact ⟨rfl, by go_grown⟩
  obtain ⟨A, rfl⟩ : ∃ A : Nat, a = (A : Int) := ⟨a.toNat, by omega⟩
  obtain ⟨C, rfl⟩ : ∃ C : Nat, b = (C : Int) := ⟨b.toNat, by omega⟩
  have e : B = (decide ((A : Int) = (C : Int)) || ps (8 * A + C)) := by
    rw [← hB.out]; unfold M.seesP
    simp only [Int.toNat_natCast]
    rw [decide_eq_true (show (0 : Int) ≤ (A : Int) by omega), decide_eq_true (show (A : Int) < 8 by omega), decide_eq_true (show (0 : Int) ≤ (C : Int) by omega), decide_eq_true (show (C : Int) < 8 by omega)]
    simp only [Bool.true_and]
  clear hB
  have c0 := hin A C (by omega) (by omega)
  have hA : (A : Int) < 8 := by omega
  have hC : (C : Int) < 8 := by omega
  by_cases hac : A = C
  · subst hac
    obtain rfl : B = true := by rw [e]; simp
    clear e hin
    go_enter Try.func77, Try.ntmps77
    go_wp2
    go_ret
    exact ⟨rfl, by go_grown⟩
  · obtain rfl : B = ps (8 * A + C) := by rw [e, decide_eq_false (by omega)]; rfl
    have hac2 : ((A : Int) == (C : Int)) = false := by simp; omega
    clear e hin
    go_enter Try.func77, Try.ntmps77
    go_wp2
    go_ret
    exact ⟨rfl, by go_grown⟩

set_option maxHeartbeats 1000000 in
theorem cooling_any (b o : Nat) (w : World) (r t : Int) (hc : w.cell? ⟨b, o + 8, none⟩ = some (.int .i64 r)) (r1 : -10000 ≤ r) (r2 : r ≤ 10000) (t1 : 0 ≤ t) (t2 : t ≤ 3000) : Calls Try.prog 70 #[.pointer (some ⟨b, o, none⟩), .int .i64 t] w fun e w' => e = .returned (.int .i64 (if r ≤ t then 0 else r - t)) ∧ w' = w := by
  by_cases h : r ≤ t
  · rw [if_pos h]
    go_enter Try.func70, Try.ntmps70
    go_wp2
    go_ret
    exact ⟨rfl, rfl⟩
  · rw [if_neg h]
    go_enter Try.func70, Try.ntmps70
    go_wp2
    go_ret
    exact ⟨rfl, rfl⟩

end Go.Proofs.Ytonmihojfcjmjab
