import Derived.Test.YtonmihojfcjmjaaGreatBQb
import Derived.Test.YtonmihojfcjmjaaGreatBQa
/- Contracts of the program's game: obey. -/
namespace Go.Proofs.YtonmihojfcjmjaaGreat
open Go.RowKit
set_option linter.unusedVariables false
attribute [local go_sem] cell_set_off cell_set_blk
attribute [local go_sem ↓] big65 big65'

theorem cmd_lit (c : M.Cmd) : cellsOf 9 (cmdC c) = #[.int .i64 c.seq, .bool c.fire, .int .i64 c.mv.x, .int .i64 c.mv.y, .int .i64 c.mv.z, .int .i64 c.aim.x, .int .i64 c.aim.y, .int .i64 c.aim.z, .int .i64 c.time] := rfl
/-- A slot behind its command. -/
noncomputable def M.PSeat.obeyed (s : M.PSeat) (ls : List M.Lf) : M.PSeat := if s.waiting = 0 then s else if 0 < s.health then s.up.moved ls (s.q 0).mv else s.up

/-- The command that a slot obeys. -/
def M.PSeat.order (s : M.PSeat) : M.Cmd := if s.waiting = 0 then M.Cmd.nought else if 0 < s.health then s.q 0 else M.Cmd.nought

theorem put_put (g : M.PGame) (i : Nat) (s t : M.PSeat) : (g.put i s).put i t = g.put i t := by
  unfold M.PGame.put
  congr 1
  funext j
  by_cases h : j = i <;> simp [h]

/-- A whole command stored: simp does not open it. -/
def bigS (a : Addr) (vs : List Value) : Sem Unit := storeCells a vs 0
theorem bigS9 (a : Addr) (x0 x1 x2 x3 x4 x5 x6 x7 x8 : Value) : storeCells a [x0, x1, x2, x3, x4, x5, x6, x7, x8] 0 = bigS a [x0, x1, x2, x3, x4, x5, x6, x7, x8] := rfl
theorem bigS_new {P : Program} {W : World} {b : Nat} {old : Array Value} {t : TypeId} (q : Blk W b old t) (vs : List Value) (hl : vs.length = old.size) (h1 : ∀ v ∈ vs, v.oneCell' = true) :
    ∃ W', (bigS ⟨b, 0, none⟩ vs).run P W = .ok () W' ∧ Blk W' b vs.toArray t ∧ On b W W' := store_new q vs hl h1

theorem On.far {b k : Nat} {w W W' : World} (h : On b w W) (g : On k W W') (hk : w.heap.size ≤ k) : On b w W' :=
  ⟨g.os.trans h.os, g.tape.trans h.tape, g.output.trans h.output, Nat.le_trans h.size g.size, fun j hj hb => (g.block j (by have := h.size; omega) (by omega)).trans (h.block j hj hb)⟩
theorem on9 (b : Nat) (W : World) (y0 y1 y2 y3 y4 y5 y6 y7 y8 : Value) : On b W (((((((((W.setCell ⟨b, 0, none⟩ y0).setCell ⟨b, 1, none⟩ y1).setCell ⟨b, 2, none⟩ y2).setCell ⟨b, 3, none⟩ y3).setCell ⟨b, 4, none⟩ y4).setCell ⟨b, 5, none⟩ y5).setCell ⟨b, 6, none⟩ y6).setCell ⟨b, 7, none⟩ y7).setCell ⟨b, 8, none⟩ y8) :=
  ((((((((On.set b 0 W y0).trans (On.set b 1 _ y1)).trans (On.set b 2 _ y2)).trans (On.set b 3 _ y3)).trans (On.set b 4 _ y4)).trans (On.set b 5 _ y5)).trans (On.set b 6 _ y6)).trans (On.set b 7 _ y7)).trans (On.set b 8 _ y8)
theorem Pg.on {W W' : World} {b k : Nat} {mv : Value} {ps : Nat → Bool} {g : M.PGame} (h : Pg W b mv ps g) (ho : On k W W') (hk : b ≠ k) : Pg W' b mv ps g := h.of (ho.block b h.lt hk) (by have := ho.size; have := h.lt; omega)

attribute [local go_sem high] bigS9 in
attribute [local go_sem ↓] bigS9 big9 big9' in
set_option maxRecDepth 100000 in
set_option maxHeartbeats 1000000 in
theorem pObey_any (b : Nat) (x : Option Addr) (n cap : Nat) (ps : Nat → Bool) (ls : List M.Lf) (g : M.PGame) (i : Nat) (w : World) (h : Pg w b (.slice x n cap) ps g) (hown : w.ownsRow 0 137 7 (.slice x n cap) ls.length (flat ls)) (hne : ∀ k, (Value.slice x n cap).ownBlock = some k → k ≠ b) (hl : ls.length ≤ 512) (hc : ∀ l ∈ ls, l.lo.Cub ∧ l.hi.Cub) (hi : i < 8) (hp : M.InB M.cubeLo M.cubeHi (g.seat i).place) (w1 : 0 ≤ (g.seat i).waiting) (w2 : (g.seat i).waiting ≤ 4) :
    Calls Tryz.prog 79 #[.pointer (some ⟨b, 0, none⟩), .pointer (some ⟨b, 66 + i * 119, none⟩)] w fun e w' => e = .returned (.agg (cellsOf 9 (cmdC (g.seat i).order))) ∧ Pg w' b (.slice x n cap) ps (g.put i ((g.seat i).obeyed ls)) ∧ On b w w' := by
  have HP := hid h
  have HO := hid hown
  have HC := hid hc
  have HI := hid hp
  have HN := hid hne
  have hlt := h.lt
  clear h hown hc hp hne
  obtain ⟨W0, hW0⟩ : ∃ W0, w.alloc (.cells #[.int .i64 0, .bool false, .int .i64 0, .int .i64 0, .int .i64 0, .int .i64 0, .int .i64 0, .int .i64 0, .int .i64 0] 50) = W0 := ⟨_, rfl⟩
  have QZ := hid (show Blk W0 w.heap.size #[.int .i64 0, .bool false, .int .i64 0, .int .i64 0, .int .i64 0, .int .i64 0, .int .i64 0, .int .i64 0, .int .i64 0] 50 from by rw [← hW0]; exact Blk.new rfl)
  have B0 := hid (show Below w.heap.size w W0 from by rw [← hW0]; go_grown)
  have P0 := hid (HP.out.after B0.out)
  have OR0 := hid (own_of HO.out (fun k hk => B0.out.block k (own_lt HO.out hk)))
  have O0 := hid (show On b w W0 from On.below B0.out)
  go_enter Tryz.func79, Tryz.ntmps79
  go_wp2_with fail
  try rw [hW0]
  clear hW0 HP HO B0
  have lz := QZ.out.lt
  refine (stake_any b (66 + i * 119) (g.seat i) W0 (fun k hk => P0.out.cs i k hi hk) P0.out.free P0.out.lt w1 w2).mono ?_
  rintro rr v1 (⟨h0, rfl, hb⟩ | ⟨h0, rfl, hr, ho⟩)
  · have HM : Hid ((g.seat i).obeyed ls = g.seat i) := by unfold Hid M.PSeat.obeyed; rw [if_pos h0]
    have EO : Hid ((g.seat i).order = M.Cmd.nought) := by unfold Hid M.PSeat.order; rw [if_pos h0]
    have P1 := hid (P0.out.after hb)
    have O1 := hid (O0.out.trans (On.below hb))
    have Q1 := hid (QZ.out.after hb)
    have z1 := hb.size
    clear hb h0 P0 O0 QZ
    obtain ⟨V, hst1, qV, oV⟩ := bigS_new (P := Tryz.prog) (show Blk (v1.alloc (.cells #[.int .i64 0, .bool false, .int .i64 0, .int .i64 0, .int .i64 0, .int .i64 0, .int .i64 0, .int .i64 0, .int .i64 0] 50)) v1.heap.size #[.int .i64 0, .bool false, .int .i64 0, .int .i64 0, .int .i64 0, .int .i64 0, .int .i64 0, .int .i64 0, .int .i64 0] 50 from Blk.new rfl) [.int .i64 0, .bool false, .int .i64 0, .int .i64 0, .int .i64 0, .int .i64 0, .int .i64 0, .int .i64 0, .int .i64 0] rfl (by simp [Value.oneCell'])
    have BV : Below v1.heap.size v1 V := On.toBelow (by go_grown) (by simp) oV (Nat.le_refl _)
    obtain ⟨V2, hst2, q2, o2⟩ := bigS_new (P := Tryz.prog) (Q1.out.after BV) [.int .i64 0, .bool false, .int .i64 0, .int .i64 0, .int .i64 0, .int .i64 0, .int .i64 0, .int .i64 0, .int .i64 0] rfl (by simp [Value.oneCell'])
    have lw := Q1.out.lt
    have ld := hid (big_blk (P := Tryz.prog) (n := 9) q2 rfl)
    have P2 := hid ((P1.out.after BV).on o2 (by omega))
    have O2 := hid ((O1.out.trans (On.below BV)).far o2 (Nat.le_refl _))
    clear P1 O1 Q1 qV oV BV q2 o2
    go_wp2
    exact bodyPost_ret (v := .agg #[.int .i64 0, .bool false, .int .i64 0, .int .i64 0, .int .i64 0, .int .i64 0, .int .i64 0, .int .i64 0, .int .i64 0]) (by simp [results, Tryz.results79, go_sem, ld.out]) rfl ⟨by rw [EO.out]; rfl, by rw [HM.out, put_same]; exact P2.out, O2.out⟩
  · obtain ⟨c, hc⟩ : ∃ c, (g.seat i).q 0 = c := ⟨_, rfl⟩
    have HQ := hid hc
    rw [hc, cmd_lit]
    have P1 := hid (P0.out.put hi hr ho)
    have O1 := hid (O0.out.trans ho.on)
    have OR1 := hid (own_of OR0.out (fun k hk => ho.on.block k (own_lt OR0.out hk) (HN.out k hk)))
    have Q1 := hid (QZ.out.on ho.on (by omega))
    have H0 := hid h0
    obtain ⟨V, hst1, qc, oV⟩ := bigS_new (P := Tryz.prog) (show Blk (v1.alloc (.cells #[.int .i64 0, .bool false, .int .i64 0, .int .i64 0, .int .i64 0, .int .i64 0, .int .i64 0, .int .i64 0, .int .i64 0] 50)) v1.heap.size #[.int .i64 0, .bool false, .int .i64 0, .int .i64 0, .int .i64 0, .int .i64 0, .int .i64 0, .int .i64 0, .int .i64 0] 50 from Blk.new rfl) [.int .i64 c.seq, .bool c.fire, .int .i64 c.mv.x, .int .i64 c.mv.y, .int .i64 c.mv.z, .int .i64 c.aim.x, .int .i64 c.aim.y, .int .i64 c.aim.z, .int .i64 c.time] rfl (by simp [Value.oneCell'])
    have BV : Below v1.heap.size v1 V := On.toBelow (by go_grown) (by simp) oV (Nat.le_refl _)
    have PV := hid (P1.out.after BV)
    have OV := hid (O1.out.trans (On.below BV))
    have RV := hid (own_of OR1.out (fun k hk => BV.block k (own_lt OR1.out hk)))
    have QV := hid (Q1.out.after BV)
    have HQC := hid qc
    have k46 : V.cell? ⟨b, 66 + i * 119 + 46, none⟩ = some (.int .i64 (g.seat i).health) := (World.cell?_of_block (a := ⟨b, _, none⟩) (BV.block b P1.out.lt)).trans (hr 46 (by omega))
    have lb := PV.out.lt
    have lq := qc.lt
    have lv := Q1.out.lt
    clear hr ho hc h0 P0 O0 QZ OR0 P1 O1 OR1 Q1 BV oV qc
    by_cases hl0 : 0 < (g.seat i).health
    · have HL : Hid (decide (0 < (g.seat i).health) = true) := decide_eq_true hl0
      have HM : Hid ((g.seat i).obeyed ls = (g.seat i).up.moved ls c.mv) := by unfold Hid M.PSeat.obeyed; rw [if_neg (by have := H0.out; omega), if_pos hl0, HQ.out]
      have EO : Hid ((g.seat i).order = c) := by unfold Hid M.PSeat.order; rw [if_neg (by have := H0.out; omega), if_pos hl0, HQ.out]
      clear hl0
      go_wp2_with fail
      refine (live_any b (66 + i * 119 + 40) _ (g.seat i).health k46 true HL).mono ?_
      rintro e V' ⟨rfl, rfl⟩
      obtain ⟨v0, v1', v2, v3, v4, v5, v6, v7, v8, vf, vl⟩ := HQC.out.nine
      go_wp2_with fail
      refine still_tail5 6 (by kernel_rfl) (by kernel_rfl) ?_
      simp only [List.take_succ_cons, List.take_zero, List.drop_succ_cons, List.drop_zero]
      repeat still_step
      refine wpStill_nil ?_
      go_wp2_with fail
      refine (pMove_any b x n cap ps ls (g.put i (g.seat i).up) i c.mv V'.drew (PV.out.of rfl PV.out.lt) (own_of RV.out (fun k hk => rfl)) hl HC.out hi (by rw [M.PGame.put_at]; exact HI.out)).mono ?_
      rw [M.PGame.put_at, put_put]
      rintro e u2 ⟨rfl, hp2, ho2⟩
      have ho2 := ho2.undrew
      obtain ⟨U, hst2, q2, o2⟩ := bigS_new (P := Tryz.prog) (QV.out.on ho2 (by omega)) [.int .i64 c.seq, .bool c.fire, .int .i64 c.mv.x, .int .i64 c.mv.y, .int .i64 c.mv.z, .int .i64 c.aim.x, .int .i64 c.aim.y, .int .i64 c.aim.z, .int .i64 c.time] rfl (by simp [Value.oneCell'])
      have ld1 := big_blk (P := Tryz.prog) (n := 9) (HQC.out.on ho2 (by omega)) rfl
      have ld := hid (big_blk (P := Tryz.prog) (n := 9) q2 rfl)
      have P2 := hid (hp2.on o2 (by omega))
      have O2 := hid ((OV.out.trans ho2).far o2 (Nat.le_refl _))
      clear hp2 ho2 PV OV RV QV HQC v0 v1' v2 v3 v4 v5 v6 v7 v8 vf vl k46 q2 o2
      go_wp2
      exact bodyPost_ret (v := .agg #[.int .i64 c.seq, .bool c.fire, .int .i64 c.mv.x, .int .i64 c.mv.y, .int .i64 c.mv.z, .int .i64 c.aim.x, .int .i64 c.aim.y, .int .i64 c.aim.z, .int .i64 c.time]) (by simp [results, Tryz.results79, go_sem, ld.out]) rfl ⟨by rw [EO.out]; rfl, by rw [HM.out]; exact P2.out, O2.out⟩
    · have HL : Hid (decide (0 < (g.seat i).health) = false) := decide_eq_false hl0
      have HM : Hid ((g.seat i).obeyed ls = (g.seat i).up) := by unfold Hid M.PSeat.obeyed; rw [if_neg (by have := H0.out; omega), if_neg hl0]
      have EO : Hid ((g.seat i).order = M.Cmd.nought) := by unfold Hid M.PSeat.order; rw [if_neg (by have := H0.out; omega), if_neg hl0]
      clear hl0
      obtain ⟨U, hst2, q2, o2⟩ := bigS_new (P := Tryz.prog) QV.out [.int .i64 0, .bool false, .int .i64 0, .int .i64 0, .int .i64 0, .int .i64 0, .int .i64 0, .int .i64 0, .int .i64 0] rfl (by simp [Value.oneCell'])
      have ld := hid (big_blk (P := Tryz.prog) (n := 9) q2 rfl)
      have P2 := hid (PV.out.on o2 (by omega))
      have O2 := hid (OV.out.far o2 (Nat.le_refl _))
      clear PV OV RV QV HQC q2 o2
      go_wp2_with fail
      refine (live_any b (66 + i * 119 + 40) _ (g.seat i).health k46 false HL).mono ?_
      rintro e V' ⟨rfl, rfl⟩
      go_wp2
      exact bodyPost_ret (v := .agg #[.int .i64 0, .bool false, .int .i64 0, .int .i64 0, .int .i64 0, .int .i64 0, .int .i64 0, .int .i64 0, .int .i64 0]) (by simp [results, Tryz.results79, go_sem, ld.out]) rfl ⟨by rw [EO.out]; rfl, by rw [HM.out]; exact P2.out, O2.out⟩

end Go.Proofs.YtonmihojfcjmjaaGreat

/- Contracts of the program's game: bringBack. -/
namespace Go.Proofs.YtonmihojfcjmjaaGreat
open Go.RowKit
set_option linter.unusedVariables false
attribute [local go_sem] cell_set_off cell_set_blk
attribute [local go_sem ↓] big65 big65'

/-- A slot at the tick t: a dead player that has waited long enough comes back. -/
def M.PSeat.revived (s : M.PSeat) (t : Int) : M.PSeat := if s.taken = true ∧ ¬ 0 < s.health ∧ s.back ≤ t then s.enter s.home else s

set_option maxRecDepth 100000 in
set_option maxHeartbeats 2000000 in
theorem pBring_any (b : Nat) (mv : Value) (ps : Nat → Bool) (g : M.PGame) (i : Nat) (w : World) (h : Pg w b mv ps g) (hi : i < 8) (g1 : 0 ≤ (g.seat i).gen) (g2 : (g.seat i).gen ≤ 255) :
    Calls Tryz.prog 78 #[.pointer (some ⟨b, 0, none⟩), .pointer (some ⟨b, 66 + i * 119, none⟩)] w fun e w' => e = .returned (.tuple #[]) ∧ Pg w' b mv ps (g.put i ((g.seat i).revived g.tick)) ∧ On b w w' := by
  have hlt := h.lt
  obtain ⟨V, hV⟩ : ∃ V, w.alloc (.cells #[.int .i64 (g.seat i).home.x, .int .i64 (g.seat i).home.y, .int .i64 (g.seat i).home.z] 27) = V := ⟨_, rfl⟩
  have QH := hid (show Blk V w.heap.size #[.int .i64 (g.seat i).home.x, .int .i64 (g.seat i).home.y, .int .i64 (g.seat i).home.z] 27 from by rw [← hV]; exact Blk.new rfl)
  have BV := hid (show Below w.heap.size w V from by rw [← hV]; go_grown)
  have PV := hid (h.after BV.out)
  have c40 := (h.se hi).c40
  have c41 := (h.se hi).c41
  have c42 := (h.se hi).c42
  have v0 := (PV.out.se hi).c0
  have v46 := (PV.out.se hi).c46
  have v49 := (PV.out.se hi).c49
  have v65 := PV.out.ct
  have lb := PV.out.lt
  clear h
  have skip : ∀ (N : Nat), Hid ((g.seat i).revived g.tick = g.seat i) → Pg (V.drewN N) b mv ps (g.put i ((g.seat i).revived g.tick)) ∧ On b w (V.drewN N) := fun N e => ⟨by rw [e.out, put_same]; exact PV.out.of rfl PV.out.lt, On.below (below_drewN BV.out _)⟩
  have HSK := hid skip
  clear skip
  cases ht : (g.seat i).taken
  · have E : Hid ((g.seat i).revived g.tick = g.seat i) := by unfold Hid M.PSeat.revived; rw [if_neg (by simp [ht])]
    rw [ht] at v0
    clear ht
    go_enter Tryz.func78, Tryz.ntmps78
    go_wp2_with fail
    try rw [hV]
    go_quiet (fail)
    go_wp2
    go_end0
    exact ⟨rfl, HSK.out _ E⟩
  · rw [ht] at v0
    by_cases hl : 0 < (g.seat i).health
    · have HL : Hid (decide (0 < (g.seat i).health) = true) := decide_eq_true hl
      have E : Hid ((g.seat i).revived g.tick = g.seat i) := by unfold Hid M.PSeat.revived; rw [if_neg (by simp [hl])]
      clear ht hl
      go_enter Tryz.func78, Tryz.ntmps78
      go_wp2_with fail
      try rw [hV]
      go_quiet ((go_at_call 85; exact Calls.quiet_of_same (live_any b (66 + i * 119 + 40) _ (g.seat i).health (by exact v46) true HL)))
      go_wp2
      go_end0
      exact ⟨rfl, HSK.out _ E⟩
    · have HL : Hid (decide (0 < (g.seat i).health) = false) := decide_eq_false hl
      by_cases hb : (g.seat i).back ≤ g.tick
      · have E : Hid ((g.seat i).revived g.tick = (g.seat i).enter (g.seat i).home) := by unfold Hid M.PSeat.revived; rw [if_pos ⟨ht, hl, hb⟩]
        clear ht hl
        go_enter Tryz.func78, Tryz.ntmps78
        go_wp2_with fail
        try rw [hV]
        go_quiet ((go_at_call 85; exact Calls.quiet_of_same (live_any b (66 + i * 119 + 40) _ (g.seat i).health (by exact v46) false HL)))
        have QN := hid (show Blk (V.drewN nq) w.heap.size #[.int .i64 (g.seat i).home.x, .int .i64 (g.seat i).home.y, .int .i64 (g.seat i).home.z] 27 from QH.out.drewN)
        obtain ⟨a0, a1, a2, af, al⟩ := QN.out.three
        go_wp2_with fail
        refine (senter_any b (66 + i * 119) (g.seat i) (g.seat i).home (V.drewN nq) (fun k hk => by exact PV.out.cs i k hi hk) (by exact PV.out.free) (by exact lb) g1 g2).mono ?_
        rintro e w2 ⟨rfl, hr, ho⟩
        have P2 := hid ((show Pg (V.drewN nq) b mv ps g from PV.out.of rfl PV.out.lt).put hi hr ho)
        have O2 := hid ((show On b w (V.drewN nq) from On.below (below_drewN BV.out _)).trans ho.on)
        clear hr ho a0 a1 a2 af al QN
        go_wp2
        go_end0
        exact ⟨rfl, by rw [E.out]; exact P2.out, O2.out⟩
      · have E : Hid ((g.seat i).revived g.tick = g.seat i) := by unfold Hid M.PSeat.revived; rw [if_neg (by simp [hb])]
        have hb2 : decide ((g.seat i).back ≤ g.tick) = false := decide_eq_false hb
        clear ht hl
        go_enter Tryz.func78, Tryz.ntmps78
        go_wp2_with fail
        try rw [hV]
        go_quiet ((go_at_call 85; exact Calls.quiet_of_same (live_any b (66 + i * 119 + 40) _ (g.seat i).health (by exact v46) false HL)))
        go_wp2
        go_end0
        exact ⟨rfl, HSK.out _ E⟩

end Go.Proofs.YtonmihojfcjmjaaGreat
