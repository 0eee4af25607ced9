import Derived.Test.YtonmihojfcjmjabPq5
import Derived.Test.YtonmihojfcjmjabBPn
import Derived.Test.YtonmihojfcjmjabTr1
import Derived.Deep.DeepCutAuto
/- Contracts of the program's game: record, move. -/
namespace Go.Proofs.Ytonmihojfcjmjab
open Go.RowKit
set_option linter.unusedVariables false
attribute [local go_sem] cell_set_off cell_set_blk
attribute [local go_sem ↓] big65 big65'

/-- A live player's record. -/
def M.PSeat.note (s : M.PSeat) (t : Int) : M.PSeat := if 0 < s.health then s.add ⟨t, s.place⟩ else s

theorem put_same (g : M.PGame) (i : Nat) : g.put i (g.seat i) = g := by
  unfold M.PGame.put
  have : (fun j => if j = i then g.seat i else g.seat j) = g.seat := by funext j; by_cases h : j = i <;> simp [h]
  rw [this]

set_option maxRecDepth 100000 in
set_option maxHeartbeats 2000000 in
theorem pRecord_any (b : Nat) (mv : Value) (ps : Nat → Bool) (g : M.PGame) (i : Nat) (w : World) (h : Pg w b mv ps g) (hi : i < 8) (n0 : 0 ≤ (g.seat i).count) (n1 : (g.seat i).count ≤ 17) :
    Calls Try.prog 50 #[.pointer (some ⟨b, 0, none⟩), .pointer (some ⟨b, 66 + i * 119 + 40, none⟩)] w fun e w' => e = .returned (.tuple #[]) ∧ Pg w' b mv ps (g.put i ((g.seat i).note g.tick)) ∧ On b w w' := by
  have HP := hid h
  have c46 := (h.se hi).c46
  have c43 := (h.se hi).c43
  have c44 := (h.se hi).c44
  have c45 := (h.se hi).c45
  have c65 := h.ct
  have hlt := h.lt
  clear h
  by_cases hl : 0 < (g.seat i).health
  · have HL : Hid (decide (0 < (g.seat i).health) = true) := decide_eq_true hl
    have HA : Hid ((g.seat i).note g.tick = (g.seat i).add ⟨g.tick, (g.seat i).place⟩) := by unfold Hid M.PSeat.note; rw [if_pos hl]
    rw [HA.out]
    clear HA hl
    go_enter Try.func50, Try.ntmps50
    go_wp2_with fail
    refine (live_any b (66 + i * 119 + 40) _ (g.seat i).health c46 true HL).mono ?_
    rintro e w1 ⟨rfl, rfl⟩
    go_wp2_with fail
    refine still_tail5 12 (by kernel_rfl) (by kernel_rfl) ?_
    simp only [List.take_succ_cons, List.take_zero, List.drop_succ_cons, List.drop_zero]
    repeat still_step
    refine wpStill_nil ?_
    go_wp2_with fail
    refine (trAdd_any b (66 + i * 119) (g.seat i) ⟨g.tick, (g.seat i).place⟩ w1.drew (fun k hk => by exact HP.out.cs i k hi hk) (by exact HP.out.free) (by exact hlt) n0 n1).mono ?_
    rintro e w2 ⟨rfl, hr, ho⟩
    have P2 := hid (HP.out.put hi hr ⟨ho.on.undrew, ho.out, ho.fz⟩)
    have O2 := ho.on.undrew
    clear hr ho HP c46 c43 c44 c45 c65
    go_wp2
    go_end0
    exact ⟨rfl, P2.out, O2⟩
  · have HL : Hid (decide (0 < (g.seat i).health) = false) := decide_eq_false hl
    have HA : Hid ((g.seat i).note g.tick = g.seat i) := by unfold Hid M.PSeat.note; rw [if_neg hl]
    rw [HA.out, put_same]
    clear HA hl
    go_enter Try.func50, Try.ntmps50
    go_wp2_with fail
    refine (live_any b (66 + i * 119 + 40) _ (g.seat i).health c46 false HL).mono ?_
    rintro e w1 ⟨rfl, rfl⟩
    go_wp2
    go_end0
    exact ⟨rfl, HP.out, On.refl _ _⟩

open Classical in
/-- Is there something solid on the way? -/
noncomputable def M.hitB (p d : M.V3) (ls : List M.Lf) : Bool := if ∃ n k : Int, M.EntG (M.US p d ls) true n k then true else false
theorem M.hitB_is {p d : M.V3} {ls : List M.Lf} {f : Bool} {n k : Int} (h : M.EntG (M.US p d ls) f n k) : M.hitB p d ls = f := by
  unfold M.hitB
  cases f
  · rw [if_neg]
    rintro ⟨a, b, h2⟩
    have := (h.one h2).1
    cases this
  · rw [if_pos ⟨n, k, h⟩]

def M.subV (p q : M.V3) : M.V3 := ⟨p.x - q.x, p.y - q.y, p.z - q.z⟩
/-- Where a player stands behind its move. -/
noncomputable def M.PSeat.moved (s : M.PSeat) (ls : List M.Lf) (m : M.V3) : M.PSeat := if M.hitB s.place (M.subV (M.goalP s.place m) s.place) ls = true then s else { s with place := M.goalP s.place m }

theorem goal_in (p m : M.V3) : M.InB M.cubeLo M.cubeHi (M.goalP p m) :=
  ⟨(M.clamp_bd (by decide)).1, (M.clamp_bd (by decide)).2, (M.clamp_bd (by decide)).1, (M.clamp_bd (by decide)).2, (M.clamp_bd (by decide)).1, (M.clamp_bd (by decide)).2⟩

end Go.Proofs.Ytonmihojfcjmjab
