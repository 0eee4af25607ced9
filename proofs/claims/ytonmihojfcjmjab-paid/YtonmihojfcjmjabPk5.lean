import Derived.Test.YtonmihojfcjmjabBPl
/- Contracts of packets: Decode. -/
namespace Go.Proofs.Ytonmihojfcjmjab
open Go.RowKit
set_option linter.unusedVariables false
attribute [local go_sem] cell_set_off cell_set_blk

/-- No command. -/
def M.Cmd.zero : M.Cmd := ⟨0, false, ⟨0, 0, 0⟩, ⟨0, 0, 0⟩, 0⟩
/-- Is it a packet? -/
def M.okB (p : ByteArray) : Bool := decide (p.size = 14) && (M.decC p).fitsB && decide ((M.decC p).pack = p)
def M.decR (p : ByteArray) : M.Cmd := if M.okB p then M.decC p else M.Cmd.zero
def M.decE (p : ByteArray) : Int := if 14 < p.size then 2 else if M.okB p then 0 else 8

theorem M.okB_size {p : ByteArray} (h : p.size ≠ 14) : M.okB p = false := by unfold M.okB; simp [h]

theorem M.toList_inj {a b : ByteArray} (h : a.toList = b.toList) : a = b := by
  have e := congrArg List.toArray h
  have k : ∀ x : ByteArray, x.toList.toArray = x.data := fun x => by simp [ByteArray.toList_eq]
  rw [k, k] at e
  cases a; cases b
  simpa using e

set_option maxHeartbeats 2000000 in
theorem pDecode_any (p : ByteArray) (w : World) (c : M.Cmd) (e : Int) (hs : p.size ≤ maxLen) (hc : Hid (M.decR p = c)) (he : Hid (M.decE p = e)) :
    Calls Try.prog 46 #[.string p] w fun r w' => r = .returned (.tuple #[.agg #[.int .i64 c.seq, .bool c.fire, .int .i64 c.mv.x, .int .i64 c.mv.y, .int .i64 c.mv.z, .int .i64 c.aim.x, .int .i64 c.aim.y, .int .i64 c.aim.z, .int .i64 c.time], .int .i64 e]) ∧ Below w.heap.size w w' := by
  unfold maxLen at hs
  by_cases h1 : 14 < p.size
  · obtain rfl : M.Cmd.zero = c := by rw [← hc.out]; unfold M.decR; rw [M.okB_size (by omega)]; rfl
    obtain rfl : (2 : Int) = e := by rw [← he.out]; unfold M.decE; rw [if_pos h1]
    clear hc he
    go_enter Try.func46, Try.ntmps46
    go_wp2
    exact bodyPost_ret (v := .tuple #[.agg #[.int .i64 0, .bool false, .int .i64 0, .int .i64 0, .int .i64 0, .int .i64 0, .int .i64 0, .int .i64 0, .int .i64 0], .int .i64 2]) (by simp [results, Try.results46, go_sem]) rfl ⟨rfl, by go_grown⟩
  by_cases h2 : p.size < 14
  · obtain rfl : M.Cmd.zero = c := by rw [← hc.out]; unfold M.decR; rw [M.okB_size (by omega)]; rfl
    obtain rfl : (8 : Int) = e := by rw [← he.out]; unfold M.decE; rw [if_neg h1, M.okB_size (by omega)]; rfl
    clear hc he
    go_enter Try.func46, Try.ntmps46
    go_wp2
    exact bodyPost_ret (v := .tuple #[.agg #[.int .i64 0, .bool false, .int .i64 0, .int .i64 0, .int .i64 0, .int .i64 0, .int .i64 0, .int .i64 0, .int .i64 0], .int .i64 8]) (by simp [results, Try.results46, go_sem]) rfl ⟨rfl, by go_grown⟩
  have hp : p.size = 14 := by omega
  obtain ⟨d, hd⟩ : ∃ d, M.decC p = d := ⟨_, rfl⟩
  have HD : Hid (M.decC p = d) := hd
  have HP : Hid (p.size = 14) := hp
  by_cases hf : d.fitsB = true
  · have hE : M.encE d = 0 := by unfold M.encE; rw [if_pos hf]
    have hS : M.encS d = d.pack := by unfold M.encS; rw [if_pos hf]
    have HS : Hid (M.encS d = d.pack) := hS
    have HE : Hid (M.encE d = 0) := hE
    by_cases hk : d.pack = p
    · have ho : M.okB p = true := by unfold M.okB; rw [hp, hd, hf, hk]; simp
      obtain rfl : d = c := by rw [← hc.out, ← hd]; unfold M.decR; rw [ho]; rfl
      obtain rfl : (0 : Int) = e := by rw [← he.out]; unfold M.decE; rw [if_neg h1, ho]; rfl
      have hkk : (d.pack.toList == p.toList) = true := by rw [hk]; simp
      clear hc he hS hE hk hf hd ho
      go_enter Try.func46, Try.ntmps46
      go_wp2_with fail
      refine (pread_any p _ d HP.out HD).mono ?_
      rintro r w1 ⟨rfl, hb⟩
      have q0 := (show Blk _ w.heap.size #[.int .i64 0, .bool false, .int .i64 0, .int .i64 0, .int .i64 0, .int .i64 0, .int .i64 0, .int .i64 0, .int .i64 0] 74 from (by repeat' (first | (with_reducible assumption) | (refine Blk.new ?_; (first | (simp; done) | rfl); done) | (with_reducible refine Blk.alloc ?_) | (with_reducible refine Blk.drew ?_) | (with_reducible refine Blk.drewN ?_)))).after hb
      have hb1 : Below w.heap.size w w1 := bl (by go_grown) hb
      clear hb
      obtain ⟨a0, a1, a2, a3, a4, a5, a6, a7, a8, af, az⟩ := q0.nine
      go_wp2_with fail
      refine (pEncode_any d _).mono ?_
      rintro r w2 ⟨rfl, hb⟩
      have q1 := (show Blk (w1.alloc _) w1.heap.size #[.int .i64 d.seq, .bool d.fire, .int .i64 d.mv.x, .int .i64 d.mv.y, .int .i64 d.mv.z, .int .i64 d.aim.x, .int .i64 d.aim.y, .int .i64 d.aim.z, .int .i64 d.time] 74 from Blk.new rfl).after hb
      replace q0 := q0.alloc.after hb
      have hb2 : Below w.heap.size w w2 := bl (by go_grown) hb
      have hne : w.heap.size < w1.heap.size := az
      clear hb a0 a1 a2 a3 a4 a5 a6 a7 a8 af az
      rw [HS.out, HE.out]
      obtain ⟨a0, a1, a2, a3, a4, a5, a6, a7, a8, af, az⟩ := q0.nine
      obtain ⟨b0, b1, b2, b3, b4, b5, b6, b7, b8, bf, bz⟩ := q1.nine
      go_wp2
      exact bodyPost_ret (v := .tuple #[.agg #[.int .i64 d.seq, .bool d.fire, .int .i64 d.mv.x, .int .i64 d.mv.y, .int .i64 d.mv.z, .int .i64 d.aim.x, .int .i64 d.aim.y, .int .i64 d.aim.z, .int .i64 d.time], .int .i64 0]) (by simp [results, Try.results46, go_sem, a0, a1, a2, a3, a4, a5, a6, a7, a8]) rfl ⟨rfl, by go_grown⟩
    · have ho : M.okB p = false := by unfold M.okB; rw [hp, hd, hf]; simp [hk]
      obtain rfl : M.Cmd.zero = c := by rw [← hc.out]; unfold M.decR; rw [ho]; rfl
      obtain rfl : (8 : Int) = e := by rw [← he.out]; unfold M.decE; rw [if_neg h1, ho]; rfl
      have hkk : (d.pack.toList == p.toList) = false := by simp; exact fun x => hk (M.toList_inj x)
      clear hc he hS hE hk hf hd ho
      go_enter Try.func46, Try.ntmps46
      go_wp2_with fail
      refine (pread_any p _ d HP.out HD).mono ?_
      rintro r w1 ⟨rfl, hb⟩
      have q0 := (show Blk _ w.heap.size #[.int .i64 0, .bool false, .int .i64 0, .int .i64 0, .int .i64 0, .int .i64 0, .int .i64 0, .int .i64 0, .int .i64 0] 74 from (by repeat' (first | (with_reducible assumption) | (refine Blk.new ?_; (first | (simp; done) | rfl); done) | (with_reducible refine Blk.alloc ?_) | (with_reducible refine Blk.drew ?_) | (with_reducible refine Blk.drewN ?_)))).after hb
      have hb1 : Below w.heap.size w w1 := bl (by go_grown) hb
      clear hb
      obtain ⟨a0, a1, a2, a3, a4, a5, a6, a7, a8, af, az⟩ := q0.nine
      go_wp2_with fail
      refine (pEncode_any d _).mono ?_
      rintro r w2 ⟨rfl, hb⟩
      have q1 := (show Blk (w1.alloc _) w1.heap.size #[.int .i64 d.seq, .bool d.fire, .int .i64 d.mv.x, .int .i64 d.mv.y, .int .i64 d.mv.z, .int .i64 d.aim.x, .int .i64 d.aim.y, .int .i64 d.aim.z, .int .i64 d.time] 74 from Blk.new rfl).after hb
      replace q0 := q0.alloc.after hb
      have hb2 : Below w.heap.size w w2 := bl (by go_grown) hb
      have hne : w.heap.size < w1.heap.size := az
      clear hb a0 a1 a2 a3 a4 a5 a6 a7 a8 af az
      rw [HS.out, HE.out]
      obtain ⟨a0, a1, a2, a3, a4, a5, a6, a7, a8, af, az⟩ := q0.nine
      obtain ⟨b0, b1, b2, b3, b4, b5, b6, b7, b8, bf, bz⟩ := q1.nine
      go_wp2
      exact bodyPost_ret (v := .tuple #[.agg #[.int .i64 0, .bool false, .int .i64 0, .int .i64 0, .int .i64 0, .int .i64 0, .int .i64 0, .int .i64 0, .int .i64 0], .int .i64 8]) (by simp [results, Try.results46, go_sem, a0, a1, a2, a3, a4, a5, a6, a7, a8]) rfl ⟨rfl, by go_grown⟩
  · have ho : M.okB p = false := by unfold M.okB; rw [hd]; simp [hf]
    have HE : Hid (M.encE d = 5) := by unfold Hid M.encE; rw [if_neg hf]
    obtain ⟨S, hS⟩ : ∃ S, M.encS d = S := ⟨_, rfl⟩
    have HS : Hid (M.encS d = S) := hS
    obtain rfl : M.Cmd.zero = c := by rw [← hc.out]; unfold M.decR; rw [ho]; rfl
    obtain rfl : (8 : Int) = e := by rw [← he.out]; unfold M.decE; rw [if_neg h1, ho]; rfl
    clear hc he hS hf hd ho
    go_enter Try.func46, Try.ntmps46
    go_wp2_with fail
    refine (pread_any p _ d HP.out HD).mono ?_
    rintro r w1 ⟨rfl, hb⟩
    have q0 := (show Blk _ w.heap.size #[.int .i64 0, .bool false, .int .i64 0, .int .i64 0, .int .i64 0, .int .i64 0, .int .i64 0, .int .i64 0, .int .i64 0] 74 from (by repeat' (first | (with_reducible assumption) | (refine Blk.new ?_; (first | (simp; done) | rfl); done) | (with_reducible refine Blk.alloc ?_) | (with_reducible refine Blk.drew ?_) | (with_reducible refine Blk.drewN ?_)))).after hb
    have hb1 : Below w.heap.size w w1 := bl (by go_grown) hb
    clear hb
    obtain ⟨a0, a1, a2, a3, a4, a5, a6, a7, a8, af, az⟩ := q0.nine
    go_wp2_with fail
    refine (pEncode_any d _).mono ?_
    rintro r w2 ⟨rfl, hb⟩
    have q1 := (show Blk (w1.alloc _) w1.heap.size #[.int .i64 d.seq, .bool d.fire, .int .i64 d.mv.x, .int .i64 d.mv.y, .int .i64 d.mv.z, .int .i64 d.aim.x, .int .i64 d.aim.y, .int .i64 d.aim.z, .int .i64 d.time] 74 from Blk.new rfl).after hb
    replace q0 := q0.alloc.after hb
    have hb2 : Below w.heap.size w w2 := bl (by go_grown) hb
    have hne : w.heap.size < w1.heap.size := az
    clear hb a0 a1 a2 a3 a4 a5 a6 a7 a8 af az
    rw [HS.out, HE.out]
    obtain ⟨a0, a1, a2, a3, a4, a5, a6, a7, a8, af, az⟩ := q0.nine
    obtain ⟨b0, b1, b2, b3, b4, b5, b6, b7, b8, bf, bz⟩ := q1.nine
    go_wp2
    exact bodyPost_ret (v := .tuple #[.agg #[.int .i64 0, .bool false, .int .i64 0, .int .i64 0, .int .i64 0, .int .i64 0, .int .i64 0, .int .i64 0, .int .i64 0], .int .i64 8]) (by simp [results, Try.results46, go_sem, a0, a1, a2, a3, a4, a5, a6, a7, a8]) rfl ⟨rfl, by go_grown⟩


end Go.Proofs.Ytonmihojfcjmjab
