import Derived.Test.YtonmihojfcjmjabPq8
/- Contracts of the program's game: bringBack. -/
namespace Go.Proofs.Ytonmihojfcjmjab
open Go.RowKit
set_option linter.unusedVariables false
attribute [local go_sem] cell_set_off cell_set_blk
attribute [local go_sem ↓] big65 big65'

/-- A slot at the tick t: a dead player that has waited long enough comes back. -/
def M.PSeat.revived (s : M.PSeat) (t : Int) : M.PSeat := if s.taken = true ∧ ¬ 0 < s.health ∧ s.back ≤ t then s.enter s.home else s

set_option maxRecDepth 100000 in
set_option maxHeartbeats 2000000 in
theorem pBring_any (b : Nat) (mv : Value) (ps : Nat → Bool) (g : M.PGame) (i : Nat) (w : World) (h : Pg w b mv ps g) (hi : i < 8) (g1 : 0 ≤ (g.seat i).gen) (g2 : (g.seat i).gen ≤ 255) :
    Calls Try.prog 48 #[.pointer (some ⟨b, 0, none⟩), .pointer (some ⟨b, 66 + i * 119, none⟩)] w fun e w' => e = .returned (.tuple #[]) ∧ Pg w' b mv ps (g.put i ((g.seat i).revived g.tick)) ∧ On b w w' := by
  have hlt := h.lt
  obtain ⟨V, hV⟩ : ∃ V, w.alloc (.cells #[.int .i64 (g.seat i).home.x, .int .i64 (g.seat i).home.y, .int .i64 (g.seat i).home.z] 33) = V := ⟨_, rfl⟩
  have QH := hid (show Blk V w.heap.size #[.int .i64 (g.seat i).home.x, .int .i64 (g.seat i).home.y, .int .i64 (g.seat i).home.z] 33 from by rw [← hV]; exact Blk.new rfl)
  have BV := hid (show Below w.heap.size w V from by rw [← hV]; go_grown)
  have PV := hid (h.after BV.out)
  have c40 := (h.se hi).c40
  have c41 := (h.se hi).c41
  have c42 := (h.se hi).c42
  have v0 := (PV.out.se hi).c0
  have v46 := (PV.out.se hi).c46
  have v49 := (PV.out.se hi).c49
  have v65 := PV.out.ct
  have lb := PV.out.lt
  clear h
  have skip : ∀ (N : Nat), Hid ((g.seat i).revived g.tick = g.seat i) → Pg (V.drewN N) b mv ps (g.put i ((g.seat i).revived g.tick)) ∧ On b w (V.drewN N) := fun N e => ⟨by rw [e.out, put_same]; exact PV.out.of rfl PV.out.lt, On.below (below_drewN BV.out _)⟩
  have HSK := hid skip
  clear skip
  cases ht : (g.seat i).taken
  · have E : Hid ((g.seat i).revived g.tick = g.seat i) := by unfold Hid M.PSeat.revived; rw [if_neg (by simp [ht])]
    rw [ht] at v0
    clear ht
    go_enter Try.func48, Try.ntmps48
    go_wp2_with fail
    try rw [hV]
    go_quiet (fail)
    go_wp2
    go_end0
    exact ⟨rfl, HSK.out _ E⟩
  · rw [ht] at v0
    by_cases hl : 0 < (g.seat i).health
    · have HL : Hid (decide (0 < (g.seat i).health) = true) := decide_eq_true hl
      have E : Hid ((g.seat i).revived g.tick = g.seat i) := by unfold Hid M.PSeat.revived; rw [if_neg (by simp [hl])]
      clear ht hl
      go_enter Try.func48, Try.ntmps48
      go_wp2_with fail
      try rw [hV]
      go_quiet ((go_at_call 66; exact Calls.quiet_of_same (live_any b (66 + i * 119 + 40) _ (g.seat i).health (by exact v46) true HL)))
      go_wp2
      go_end0
      exact ⟨rfl, HSK.out _ E⟩
    · have HL : Hid (decide (0 < (g.seat i).health) = false) := decide_eq_false hl
      by_cases hb : (g.seat i).back ≤ g.tick
      · have E : Hid ((g.seat i).revived g.tick = (g.seat i).enter (g.seat i).home) := by unfold Hid M.PSeat.revived; rw [if_pos ⟨ht, hl, hb⟩]
        clear ht hl
        go_enter Try.func48, Try.ntmps48
        go_wp2_with fail
        try rw [hV]
        go_quiet ((go_at_call 66; exact Calls.quiet_of_same (live_any b (66 + i * 119 + 40) _ (g.seat i).health (by exact v46) false HL)))
        have QN := hid (show Blk (V.drewN nq) w.heap.size #[.int .i64 (g.seat i).home.x, .int .i64 (g.seat i).home.y, .int .i64 (g.seat i).home.z] 33 from QH.out.drewN)
        obtain ⟨a0, a1, a2, af, al⟩ := QN.out.three
        go_wp2_with fail
        refine (senter_any b (66 + i * 119) (g.seat i) (g.seat i).home (V.drewN nq) (fun k hk => by exact PV.out.cs i k hi hk) (by exact PV.out.free) (by exact lb) g1 g2).mono ?_
        rintro e w2 ⟨rfl, hr, ho⟩
        have P2 := hid ((show Pg (V.drewN nq) b mv ps g from PV.out.of rfl PV.out.lt).put hi hr ho)
        have O2 := hid ((show On b w (V.drewN nq) from On.below (below_drewN BV.out _)).trans ho.on)
        clear hr ho a0 a1 a2 af al QN
        go_wp2
        go_end0
        exact ⟨rfl, by rw [E.out]; exact P2.out, O2.out⟩
      · have E : Hid ((g.seat i).revived g.tick = g.seat i) := by unfold Hid M.PSeat.revived; rw [if_neg (by simp [hb])]
        have hb2 : decide ((g.seat i).back ≤ g.tick) = false := decide_eq_false hb
        clear ht hl
        go_enter Try.func48, Try.ntmps48
        go_wp2_with fail
        try rw [hV]
        go_quiet ((go_at_call 66; exact Calls.quiet_of_same (live_any b (66 + i * 119 + 40) _ (g.seat i).health (by exact v46) false HL)))
        go_wp2
        go_end0
        exact ⟨rfl, HSK.out _ E⟩

end Go.Proofs.Ytonmihojfcjmjab
