import Derived.Test.YtonmihojfcjmjaaGreatBPg
import Derived.Test.YtonmihojfcjmjaaGreatBM
import Derived.Test.YtonmihojfcjmjaaGreatBPo
import Derived.Test.YtonmihojfcjmjaaGreatBox
/- Contracts of the program's shots: ways, times, boxes, hits. -/
namespace Go.Proofs.YtonmihojfcjmjaaGreat
open Go.RowKit
set_option linter.unusedVariables false
attribute [local go_sem] cell_set_off cell_set_blk
attribute [local go_sem ↓] big65 big65'

set_option maxHeartbeats 1000000 in
theorem wayOf_any (p : M.V3) (w : World) (h : M.Small p) :
    Calls Tryz.prog 98 #[.agg #[.int .i64 p.x, .int .i64 p.y, .int .i64 p.z]] w fun e w' => e = .returned (.agg #[.int .i64 (16 * p.x), .int .i64 (16 * p.y), .int .i64 (16 * p.z)]) ∧ Below w.heap.size w w' := by
  obtain ⟨h1, h2, h3, h4, h5, h6⟩ := h
  go_enter Tryz.func98, Tryz.ntmps98
  go_wp2
  exact bodyPost_ret (v := .agg #[.int .i64 (16 * p.x), .int .i64 (16 * p.y), .int .i64 (16 * p.z)]) (by simp [results, Tryz.results98, go_sem]) rfl ⟨rfl, by go_grown⟩

set_option maxHeartbeats 1000000 in
theorem pTimeOf_any (b : Nat) (t : Int) (c : M.Cmd) (w : World) (hc : w.cell? ⟨b, 65, none⟩ = some (.int .i64 t)) (t0 : 0 ≤ t) (t1 : t ≤ 3000) (c0 : 0 ≤ c.time) (c1 : c.time ≤ 16777215) :
    Calls Tryz.prog 99 #[.pointer (some ⟨b, 0, none⟩), .agg #[.int .i64 c.seq, .bool c.fire, .int .i64 c.mv.x, .int .i64 c.mv.y, .int .i64 c.mv.z, .int .i64 c.aim.x, .int .i64 c.aim.y, .int .i64 c.aim.z, .int .i64 c.time]] w fun e w' => e = .returned (.int .i64 (M.timeP t c.time)) ∧ Below w.heap.size w w' := by
  have hlt : b < w.heap.size := World.block_lt_of_cell? w _ hc
  by_cases h1 : c.time < 256 * (t - 16)
  · have e1 : M.timeP t c.time = 256 * (t - 16) := by unfold M.timeP; rw [if_pos h1]
    rw [e1]
    clear e1
    go_enter Tryz.func99, Tryz.ntmps99
    go_wp2
    go_ret
    exact ⟨rfl, by go_grown⟩
  · by_cases h2 : 256 * t < c.time
    · have e1 : M.timeP t c.time = 256 * t := by unfold M.timeP; rw [if_neg h1, if_pos h2]
      rw [e1]
      clear e1
      go_enter Tryz.func99, Tryz.ntmps99
      go_wp2
      go_ret
      exact ⟨rfl, by go_grown⟩
    · have e1 : M.timeP t c.time = c.time := by unfold M.timeP; rw [if_neg h1, if_neg h2]
      rw [e1]
      clear e1
      go_enter Tryz.func99, Tryz.ntmps99
      go_wp2
      go_ret
      exact ⟨rfl, by go_grown⟩

set_option maxHeartbeats 1000000 in
theorem bodyOf_any (p : M.V3) (w : World) (h : M.InB M.cubeLo M.cubeHi p) :
    Calls Tryz.prog 125 #[.agg #[.int .i64 p.x, .int .i64 p.y, .int .i64 p.z]] w fun e w' => e = .returned (.agg #[.int .i64 (M.bodyLo p).x, .int .i64 (M.bodyLo p).y, .int .i64 (M.bodyLo p).z, .int .i64 (M.bodyHi p).x, .int .i64 (M.bodyHi p).y, .int .i64 (M.bodyHi p).z]) ∧ Below w.heap.size w w' := by
  obtain ⟨a1, a2, a3, a4, a5, a6⟩ := h
  simp only [M.cubeLo, M.cubeHi] at a1 a2 a3 a4 a5 a6
  go_enter Tryz.func125, Tryz.ntmps125
  go_wp2
  exact bodyPost_ret (v := .agg #[.int .i64 (p.x - 8), .int .i64 (p.y - 8), .int .i64 (p.z - 16), .int .i64 (p.x + 8), .int .i64 (p.y + 8), .int .i64 (p.z + 8)]) (by simp [results, Tryz.results125, go_sem]) rfl ⟨rfl, by go_grown⟩

set_option maxHeartbeats 1000000 in
theorem headOf_any (p : M.V3) (w : World) (h : M.InB M.cubeLo M.cubeHi p) :
    Calls Tryz.prog 124 #[.agg #[.int .i64 p.x, .int .i64 p.y, .int .i64 p.z]] w fun e w' => e = .returned (.agg #[.int .i64 (M.headLo p).x, .int .i64 (M.headLo p).y, .int .i64 (M.headLo p).z, .int .i64 (M.headHi p).x, .int .i64 (M.headHi p).y, .int .i64 (M.headHi p).z]) ∧ Below w.heap.size w w' := by
  obtain ⟨a1, a2, a3, a4, a5, a6⟩ := h
  simp only [M.cubeLo, M.cubeHi] at a1 a2 a3 a4 a5 a6
  go_enter Tryz.func124, Tryz.ntmps124
  go_wp2
  exact bodyPost_ret (v := .agg #[.int .i64 (p.x - 4), .int .i64 (p.y - 4), .int .i64 (p.z + 8), .int .i64 (p.x + 4), .int .i64 (p.y + 4), .int .i64 (p.z + 16)]) (by simp [results, Tryz.results124, go_sem]) rfl ⟨rfl, by go_grown⟩

/-- A hit, as Go has it. -/
def hitV : M.Hit → Value
  | some (a, k, d) => .agg #[.bool true, .int .i64 a, .int .i64 k, .int .i64 d]
  | none => .agg #[.bool false, .int .i64 0, .int .i64 0, .int .i64 0]
def HitOk (h : M.Hit) : Prop := ∀ a k d, h = some (a, k, d) → 0 ≤ a ∧ a ≤ k ∧ 1 ≤ k ∧ k ≤ 1048576
theorem HitOk.none : HitOk none := fun _ _ _ h => by cases h
theorem boxHit_ok (p d lo hi : M.V3) (D : Int) : HitOk (M.boxHit p d lo hi D) := fun a k x h => by
  unfold M.boxHit at h
  cases e : M.entO (M.lies p d lo hi) with
  | none => rw [e] at h; cases h
  | some q =>
    rw [e] at h
    cases h
    unfold M.entO at e
    split at e
    · rename_i hx
      have := Classical.choose_spec hx
      cases e
      obtain ⟨a, b, c, d, _⟩ := this.yes rfl
      exact ⟨a, c, b, d⟩
    · cases e
theorem hitAt_ok (p d q : M.V3) : HitOk (M.hitAt p d q) := by
  unfold M.hitAt
  split <;> exact boxHit_ok _ _ _ _ _

set_option maxHeartbeats 1000000 in
theorem ahead_any (h o : M.Hit) (w : World) (hh : HitOk h) (ho : HitOk o) (B : Bool) (hB : Hid (M.Hit.ahead h o = B)) :
    Calls Tryz.prog 114 #[hitV h, hitV o] w fun e w' => e = .returned (.bool B) ∧ Below w.heap.size w w' := by
  match h, o with
  | none, none =>
    obtain rfl : false = B := hB.out
    clear hB hh ho
    simp only [hitV]
    go_enter Tryz.func114, Tryz.ntmps114
    go_wp2
    go_ret
    exact ⟨rfl, by go_grown⟩
  | none, some (n, e, y) =>
    obtain rfl : false = B := hB.out
    clear hB hh ho
    simp only [hitV]
    go_enter Tryz.func114, Tryz.ntmps114
    go_wp2
    go_ret
    exact ⟨rfl, by go_grown⟩
  | some (a, k, x), none =>
    obtain rfl : true = B := hB.out
    clear hB hh ho
    simp only [hitV]
    go_enter Tryz.func114, Tryz.ntmps114
    go_wp2
    go_ret
    exact ⟨rfl, by go_grown⟩
  | some (a, k, x), some (n, e, y) =>
    obtain ⟨a0, a1, a2, a3⟩ := hh a k x rfl
    obtain ⟨n0, n1, n2, n3⟩ := ho n e y rfl
    have HB : Hid (decide (a * e < n * k) = B) := hB
    clear hB hh ho
    simp only [hitV]
    go_enter Tryz.func114, Tryz.ntmps114
    go_wp2_with fail
    refine (above_is n e a k _ B HB (by omega) (by omega) (by omega) (by omega) (by omega) (by omega) (by omega) (by omega)).mono ?_
    rintro r w1 ⟨rfl, hb⟩
    have B1 : Below w.heap.size w w1 := bl (by go_grown) hb
    clear hb
    go_wp2
    go_ret
    exact ⟨rfl, B1⟩

end Go.Proofs.YtonmihojfcjmjaaGreat

/- Contracts of the program's shots: a box, a player, a track. -/
namespace Go.Proofs.YtonmihojfcjmjaaGreat
open Go.RowKit
set_option linter.unusedVariables false
attribute [local go_sem] cell_set_off cell_set_blk
attribute [local go_sem ↓] big65 big65'

theorem boxHit_is {p d lo hi : M.V3} {f : Bool} {n k : Int} (D : Int) (h : M.Ent p d lo hi f n k) : M.boxHit p d lo hi D = if f = true then some (n, k, D) else none := by
  unfold M.boxHit
  rw [M.entO_is h.toG]
  cases f <;> rfl

set_option maxHeartbeats 1000000 in
theorem enterBox_any (p d lo hi : M.V3) (t D : Int) (w : World) (hp : p.Near) (hd : d.Near) (hlo : lo.Near) (hhi : hi.Near) (h : M.Hit) (hh : Hid (M.boxHit p d lo hi D = h)) :
    Calls Tryz.prog 123 #[.agg #[.int .i64 p.x, .int .i64 p.y, .int .i64 p.z, .int .i64 d.x, .int .i64 d.y, .int .i64 d.z, .int .i64 t], .agg #[.int .i64 lo.x, .int .i64 lo.y, .int .i64 lo.z, .int .i64 hi.x, .int .i64 hi.y, .int .i64 hi.z], .int .i64 D] w fun e w' => e = .returned (hitV h) ∧ Below w.heap.size w w' := by
  have H := hid (fun W => boxEnter_any p d lo hi W hp hd hlo hhi)
  clear hp hd hlo hhi
  go_enter Tryz.func123, Tryz.ntmps123
  go_wp2_with fail
  refine (H.out _).mono ?_
  rintro r w1 ⟨f, n, k, rfl, hE, hb⟩
  have e : h = if f = true then some (n, k, D) else none := by rw [← hh.out]; exact boxHit_is D hE
  have B1 : Below w.heap.size w w1 := bl (by go_grown) hb
  have hz := B1.size
  have q2 := (show Blk _ (w.heap.size + 1 + 1) #[.bool false, .int .i64 0, .int .i64 0, .int .i64 0] 168 from (by repeat' (first | (with_reducible assumption) | (refine Blk.new ?_; (first | (simp; done) | rfl); done) | (with_reducible refine Blk.alloc ?_) | (with_reducible refine Blk.drew ?_) | (with_reducible refine Blk.drewN ?_)))).after hb
  obtain ⟨a0, a1, a2, a3, af, al⟩ := q2.four
  have HQ := hid q2
  clear hb hE hh q2
  cases f
  · subst e
    go_wp2
    exact bodyPost_ret (v := .agg #[.bool false, .int .i64 0, .int .i64 0, .int .i64 0]) (by simp [results, Tryz.results123, go_sem, *]) rfl ⟨rfl, by go_grown⟩
  · subst e
    go_wp2
    exact bodyPost_ret (v := .agg #[.bool true, .int .i64 n, .int .i64 k, .int .i64 D]) (by simp [results, Tryz.results123, go_sem, *]) rfl ⟨rfl, by go_grown⟩

theorem hitV_lit (h : M.Hit) : ∃ (s : Bool) (a k d : Int), hitV h = .agg #[.bool s, .int .i64 a, .int .i64 k, .int .i64 d] := by
  match h with
  | none => exact ⟨_, _, _, _, rfl⟩
  | some (a, k, d) => exact ⟨_, _, _, _, rfl⟩

theorem near_lo {q : M.V3} (h : M.InB M.cubeLo M.cubeHi q) : (M.bodyLo q).Near ∧ (M.bodyHi q).Near ∧ (M.headLo q).Near ∧ (M.headHi q).Near := by
  obtain ⟨a1, a2, a3, a4, a5, a6⟩ := h
  simp only [M.cubeLo, M.cubeHi] at a1 a2 a3 a4 a5 a6
  refine ⟨⟨?_, ?_, ?_, ?_, ?_, ?_⟩, ⟨?_, ?_, ?_, ?_, ?_, ?_⟩, ⟨?_, ?_, ?_, ?_, ?_, ?_⟩, ⟨?_, ?_, ?_, ?_, ?_, ?_⟩⟩ <;> simp only [M.bodyLo, M.bodyHi, M.headLo, M.headHi] <;> omega

end Go.Proofs.YtonmihojfcjmjaaGreat
