import Derived.Test.YtonmihojfcjmjabPg2
/- Contracts of the program's game: shows, canStand. -/
namespace Go.Proofs.Ytonmihojfcjmjab
open Go.RowKit
set_option linter.unusedVariables false
attribute [local go_sem] cell_set_off cell_set_blk
attribute [local go_sem ↓] big65 big65'

def M.inCube (p : M.V3) : Bool := decide (0 ≤ p.x) && decide (p.x ≤ 4096) && decide (0 ≤ p.y) && decide (p.y ≤ 4096) && decide (0 ≤ p.z) && decide (p.z ≤ 4096)
theorem M.inCube_iff (p : M.V3) : M.inCube p = true ↔ M.InB M.cubeLo M.cubeHi p := by
  unfold M.inCube
  simp only [Bool.and_eq_true, decide_eq_true_eq]
  constructor
  · rintro ⟨⟨⟨⟨⟨a, b⟩, c⟩, d⟩, e⟩, f⟩; exact ⟨a, b, c, d, e, f⟩
  · rintro ⟨a, b, c, d, e, f⟩; exact ⟨⟨⟨⟨⟨a, b⟩, c⟩, d⟩, e⟩, f⟩
theorem holds_inCube (p : M.V3) (w : World) (B : Bool) (hB : Hid (M.inCube p = B)) :
    Calls Try.prog 61 #[.agg #[.int .i64 0, .int .i64 0, .int .i64 0, .int .i64 4096, .int .i64 4096, .int .i64 4096], .agg #[.int .i64 p.x, .int .i64 p.y, .int .i64 p.z]] w fun e w' => e = .returned (.bool B) ∧ Below w.heap.size w w' := by
  rw [← hB.out]
  exact holds_any M.cubeLo M.cubeHi p w

/-- A map is read out of a server's block, in a region that draws its order. -/
theorem still_map {ops : Array Oper} {rest : List Oper} {o : Oper} {a : Act} {w : World} {Q : Act → Prop} (b : Nat) (v : Value) (ps : Nat → Bool) (cs : Array Value) (hcs : MapIs cs v ps) (hc : Range w b 0 65 (mapC v ps))
    (x : Operand) (ho : o.op = .load 70 x) (hw : Region.wanted o (yielded ops a.tmps) = true) (hx : a.eval x = .pointer (some ⟨b, 0, none⟩))
    (h : wpStill Try.prog ops w Q rest (a.put o.dst (.agg cs))) : wpStill Try.prog ops w Q (o :: rest) a := by
  unfold wpStill
  rw [if_pos hw]
  unfold Oper.still execOp
  have hl := run_loadVar_mid (P := Try.prog) w b 0 70 cs.toList _ (fun j u hu => by
    rw [hcs.is] at hu
    have hj : j < 65 := by
      have := (List.getElem?_eq_some_iff.1 hu).1
      simpa [cellsOf] using this
    rw [hc j hj]
    rw [Array.getElem?_toList, cellsOf_get _ hj] at hu
    exact hu) Try.underlying70 rfl (by rw [hcs.is, Array.length_toList, cellsOf_size]; kernel_rfl)
  simp only [ho, hx, Instr.loadAt, Instr.sureAddr, Sem.run_bind, Sem.run_pure, Result.andThen_ok, hl]
  rw [Oper.stillUpon_value]
  exact h

set_option maxRecDepth 100000 in
set_option maxHeartbeats 2000000 in
theorem pshows_any (b : Nat) (x : Option Addr) (n cap : Nat) (ps : Nat → Bool) (ls : List M.Lf) (g : M.PGame) (i j : Nat) (w : World) (h : Pg w b (.slice x n cap) ps g) (hown : w.ownsRow 0 154 7 (.slice x n cap) ls.length (flat ls)) (hl : ls.length ≤ 512)
    (hi : i < 8) (hj : j < 8) (hpi : M.InB M.cubeLo M.cubeHi (g.seat i).place) (hpj : M.InB M.cubeLo M.cubeHi (g.seat j).place) (B : Bool) (hB : Hid (M.showsP ls ps (g.seat i) (g.seat j) = B)) :
    Calls Try.prog 52 #[.pointer (some ⟨b, 0, none⟩), .pointer (some ⟨b, 66 + i * 119 + 40, none⟩), .pointer (some ⟨b, 66 + j * 119 + 40, none⟩)] w fun e w' => e = .returned (.bool B) ∧ Below w.heap.size w w' := by
  have HP : Hid (Pg w b (.slice x n cap) ps g) := h
  have HO : Hid (w.ownsRow 0 154 7 (.slice x n cap) ls.length (flat ls)) := hown
  have i3 := (h.se hi).c43
  have i4 := (h.se hi).c44
  have i5 := (h.se hi).c45
  have j3 := (h.se hj).c43
  have j4 := (h.se hj).c44
  have j5 := (h.se hj).c45
  have j6 := (h.se hj).c46
  have hlt := h.lt
  clear hown h
  obtain ⟨N, hN⟩ : ∃ N, M.nearP (g.seat i).place (g.seat j).place = N := ⟨_, rfl⟩
  have HN : Hid (M.nearP (g.seat i).place (g.seat j).place = N) := hN
  by_cases hl : 0 < (g.seat j).health
  · have hL : Hid (decide (0 < (g.seat j).health) = true) := decide_eq_true hl
    have HB2 : Hid ((N && M.seesP ps (M.zP (g.seat i).place ls (-1)) (M.zP (g.seat j).place ls (-1))) = B) := by
      unfold Hid; rw [← hB.out]; unfold M.showsP; rw [decide_eq_true hl, hN, Bool.true_and]
    clear hB hN hl
    go_enter Try.func52, Try.ntmps52
    go_wp2_with fail
    refine still_tail5 12 (by kernel_rfl) (by kernel_rfl) ?_
    simp only [List.take_succ_cons, List.take_zero, List.drop_succ_cons, List.drop_zero]
    still_step
    still_call (live_any b (66 + j * 119 + 40) _ (g.seat j).health (by exact j6) true hL)
    repeat still_step
    refine wpStill_nil ?_
    go_wp2_with fail
    refine (pnear_any (g.seat i).place (g.seat j).place _ hpi hpj N HN).mono ?_
    rintro e w1 ⟨rfl, hb⟩
    have P1 : Hid (Pg w1 b (.slice x n cap) ps g) := HP.out.of (hb.block b hlt) (by have := hb.size; simp at this; omega)
    have O1 : Hid (w1.ownsRow 0 154 7 (.slice x n cap) ls.length (flat ls)) := own_of HO.out (fun k hk => hb.block k (own_lt HO.out hk))
    have B1 : Below w.heap.size w w1 := bl (by go_grown) hb
    clear hb HP HO HN i3 i4 i5 j3 j4 j5 j6 hL
    cases N
    · obtain rfl : false = B := by rw [← HB2.out]; rfl
      go_wp2
      go_ret
      exact ⟨rfl, B1⟩
    · have HB3 : Hid (M.seesP ps (M.zP (g.seat i).place ls (-1)) (M.zP (g.seat j).place ls (-1)) = B) := HB2.out
      clear HB2
      have i3 := (P1.out.se hi).c43
      have i4 := (P1.out.se hi).c44
      have i5 := (P1.out.se hi).c45
      obtain ⟨cs, hcs⟩ : ∃ cs, MapIs cs (.slice x n cap) ps := ⟨_, ⟨rfl⟩⟩
      have HCS := hid hcs
      have c00 := hid hcs.at0
      clear hcs
      go_wp2_with fail
      refine still_tail5 8 (by kernel_rfl) (by kernel_rfl) ?_
      simp only [List.take_succ_cons, List.take_zero, List.drop_succ_cons, List.drop_zero]
      iterate 3 still_step
      refine still_map b (.slice x n cap) ps cs HCS.out (by exact P1.out.cm) (.tmp 26) rfl rfl rfl ?_
      repeat still_step
      refine wpStill_nil ?_
      go_wp2_with fail
      refine (mapZone_any cs x n cap 0 ls (g.seat i).place w1.drew c00.out (own_of O1.out (fun k hk => rfl)) hl).mono ?_
      rintro e w2 ⟨rfl, hb⟩
      have hlt1 := P1.out.lt
      have P2 : Hid (Pg w2 b (.slice x n cap) ps g) := P1.out.of (hb.block b hlt1) (by have := hb.size; simp at this; omega)
      have O2 : Hid (w2.ownsRow 0 154 7 (.slice x n cap) ls.length (flat ls)) := own_of O1.out (fun k hk => hb.block k (own_lt O1.out hk))
      have B2 : Below w.heap.size w w2 := bl (by have := B1.size; go_grown) hb
      clear hb i3 i4 i5 P1 O1 B1
      have j3 := (P2.out.se hj).c43
      have j4 := (P2.out.se hj).c44
      have j5 := (P2.out.se hj).c45
      go_wp2_with fail
      refine still_tail5 8 (by kernel_rfl) (by kernel_rfl) ?_
      simp only [List.take_succ_cons, List.take_zero, List.drop_succ_cons, List.drop_zero]
      iterate 3 still_step
      refine still_map b (.slice x n cap) ps cs HCS.out (by exact P2.out.cm) (.tmp 35) rfl rfl rfl ?_
      repeat still_step
      refine wpStill_nil ?_
      go_wp2_with fail
      refine (mapZone_any cs x n cap 0 ls (g.seat j).place w2.drew c00.out (own_of O2.out (fun k hk => rfl)) hl).mono ?_
      rintro e w3 ⟨rfl, hb⟩
      have hlt2 := P2.out.lt
      have P3 : Hid (Pg w3 b (.slice x n cap) ps g) := P2.out.of (hb.block b hlt2) (by have := hb.size; simp at this; omega)
      have B3 : Below w.heap.size w w3 := bl (by have := B2.size; go_grown) hb
      clear hb j3 j4 j5 P2 O2 B2
      have ld : (big 65 ⟨b, 0, none⟩).run Try.prog w3 = .ok cs w3 := by rw [HCS.out.is]; exact big_range P3.out.cm
      go_wp2_with fail
      refine (sees_any cs (.slice x n cap) ps HCS.out _ _ _ B HB3).mono ?_
      rintro e w4 ⟨rfl, hb⟩
      have B4 : Below w.heap.size w w4 := bl B3 hb
      clear hb B3 ld
      go_wp2
      go_ret
      exact ⟨rfl, B4⟩
  · obtain rfl : false = B := by rw [← hB.out]; unfold M.showsP; rw [decide_eq_false hl, Bool.false_and, Bool.false_and]
    have hL : Hid (decide (0 < (g.seat j).health) = false) := decide_eq_false hl
    clear hB hN hl
    go_enter Try.func52, Try.ntmps52
    go_wp2_with fail
    go_quiet ((go_at_call 66; exact Calls.quiet_of_same (live_any b (66 + j * 119 + 40) _ (g.seat j).health (by exact j6) false hL)))
    go_wp2
    go_ret
    exact ⟨rfl, below_drewN (Below.refl _ _) _⟩

set_option maxRecDepth 100000 in
set_option maxHeartbeats 2000000 in
theorem pcan_any (b : Nat) (x : Option Addr) (n cap : Nat) (ps : Nat → Bool) (ls : List M.Lf) (g : M.PGame) (p : M.V3) (w : World) (h : Pg w b (.slice x n cap) ps g) (hown : w.ownsRow 0 154 7 (.slice x n cap) ls.length (flat ls)) (hl : ls.length ≤ 512) (B : Bool) (hB : Hid ((M.inCube p && decide (0 ≤ M.zP p ls (-1))) = B)) :
    Calls Try.prog 43 #[.pointer (some ⟨b, 0, none⟩), .agg #[.int .i64 p.x, .int .i64 p.y, .int .i64 p.z]] w fun e w' => e = .returned (.bool B) ∧ Below w.heap.size w w' := by
  have HP : Hid (Pg w b (.slice x n cap) ps g) := h
  have HO : Hid (w.ownsRow 0 154 7 (.slice x n cap) ls.length (flat ls)) := hown
  have hlt := h.lt
  clear h hown
  obtain ⟨C, hC⟩ : ∃ C, M.inCube p = C := ⟨_, rfl⟩
  have HC : Hid (M.inCube p = C) := hC
  have HB2 : Hid ((C && decide (0 ≤ M.zP p ls (-1))) = B) := by unfold Hid; rw [← hB.out, hC]
  clear hB hC
  go_enter Try.func43, Try.ntmps43
  go_wp2_with fail
  refine (cube_any _).mono ?_
  rintro e w1 ⟨rfl, hb⟩
  have q0 := (show Blk _ w.heap.size #[.int .i64 p.x, .int .i64 p.y, .int .i64 p.z] 33 from (by repeat' (first | (with_reducible assumption) | (refine Blk.new ?_; (first | (simp; done) | rfl); done) | (with_reducible refine Blk.alloc ?_) | (with_reducible refine Blk.drew ?_) | (with_reducible refine Blk.drewN ?_)))).after hb
  have P1 : Hid (Pg w1 b (.slice x n cap) ps g) := HP.out.of (by rw [hb.block b (by simp; omega), Below.heap_alloc _ _ _ hlt]) (by have := hb.size; simp at this; omega)
  have O1 : Hid (w1.ownsRow 0 154 7 (.slice x n cap) ls.length (flat ls)) := own_of HO.out (fun k hk => by have := own_lt HO.out hk; rw [hb.block k (by simp; omega), Below.heap_alloc _ _ _ this])
  have B1 : Below w.heap.size w w1 := bl (by go_grown) hb
  clear hb HP HO
  obtain ⟨a0, a1, a2, af, al⟩ := q0.three
  have hlt1 := P1.out.lt
  go_wp2_with fail
  refine (holds_inCube p _ C HC).mono ?_
  rintro e w2 ⟨rfl, hb⟩
  replace q0 := q0.alloc.after hb
  have P2 : Hid (Pg w2 b (.slice x n cap) ps g) := P1.out.of (by rw [hb.block b (by simp; omega), Below.heap_alloc _ _ _ hlt1]) (by have := hb.size; simp at this; omega)
  have O2 : Hid (w2.ownsRow 0 154 7 (.slice x n cap) ls.length (flat ls)) := own_of O1.out (fun k hk => by have := own_lt O1.out hk; rw [hb.block k (by simp; omega), Below.heap_alloc _ _ _ this])
  have B2 : Below w.heap.size w w2 := bl (by have := B1.size; go_grown) hb
  clear hb P1 O1 B1 a0 a1 a2 af al
  cases C
  · obtain rfl : false = B := by rw [← HB2.out]; rfl
    go_wp2
    go_ret
    exact ⟨rfl, B2⟩
  · have HB3 : Hid (decide (0 ≤ M.zP p ls (-1)) = B) := HB2.out
    clear HB2
    obtain ⟨a0, a1, a2, af, al⟩ := q0.three
    obtain ⟨cs, hcs⟩ : ∃ cs, MapIs cs (.slice x n cap) ps := ⟨_, ⟨rfl⟩⟩
    have HCS := hid hcs
    have c00 := hid hcs.at0
    have hlt2 := P2.out.lt
    clear hcs
    go_wp2_with fail
    refine still_tail5 5 (by kernel_rfl) (by kernel_rfl) ?_
    simp only [List.take_succ_cons, List.take_zero, List.drop_succ_cons, List.drop_zero]
    iterate 3 still_step
    refine still_map b (.slice x n cap) ps cs HCS.out (by exact P2.out.cm) (.tmp 14) rfl rfl rfl ?_
    repeat still_step
    refine wpStill_nil ?_
    go_wp2_with fail
    refine (mapZone_any cs x n cap 0 ls p w2.drew c00.out (own_of O2.out (fun k hk => rfl)) hl).mono ?_
    rintro e w3 ⟨rfl, hb⟩
    have B3 : Below w.heap.size w w3 := bl (by have := B2.size; go_grown) hb
    clear hb B2 P2 O2 a0 a1 a2 af al
    go_wp2
    go_ret
    exact ⟨ret_bool HB3.out, B3⟩

end Go.Proofs.Ytonmihojfcjmjab
