import Derived.Test.YtonmihojfcjmjabPq1
import Derived.Test.YtonmihojfcjmjabPg6
/- Contracts of the program's game: Disconnect, Packet, Snapshot of a slot without a client. -/
namespace Go.Proofs.Ytonmihojfcjmjab
open Go.RowKit
set_option linter.unusedVariables false
attribute [local go_sem] cell_set_off cell_set_blk
attribute [local go_sem ↓] big65 big65'

/-- Disconnect. -/
def M.PGame.leave (g : M.PGame) (slot : Int) : Int × M.PGame := if g.takenB slot then (0, g.put slot.toNat (M.PSeat.empty (g.seat slot.toNat).gen)) else (7, g)
/-- Packet, of what Decode tells. -/
def M.PGame.packet (g : M.PGame) (slot : Int) (c : M.Cmd) (e : Int) : Int × M.PGame :=
  if g.takenB slot = false then (7, g) else if e ≠ 0 then (e, g) else if c.seq ≤ (g.seat slot.toNat).last then (9, g) else if 4 ≤ (g.seat slot.toNat).waiting then (10, g) else (0, g.put slot.toNat ((g.seat slot.toNat).put c))

theorem taken_nat {g : M.PGame} {slot : Int} (h : g.takenB slot = true) : ∃ i : Nat, slot = (i : Int) ∧ i < 8 ∧ (g.seat i).taken = true := by
  unfold M.PGame.takenB at h
  simp at h
  exact ⟨slot.toNat, by omega, by omega, h.2⟩

/-- What a call on the game leaves: an error number, and the game. -/
def ErrPost (b : Nat) (mv : Value) (ps : Nat → Bool) (w : World) (F : Int × M.PGame) (e : Ending) (w' : World) : Prop := e = .returned (.int .i64 F.1) ∧ Pg w' b mv ps F.2 ∧ On b w w'

set_option maxRecDepth 100000 in
set_option maxHeartbeats 2000000 in
theorem pLeave_any (b : Nat) (mv : Value) (ps : Nat → Bool) (g : M.PGame) (slot : Int) (w : World) (h : Pg w b mv ps g) (F : Int × M.PGame) (hF : Hid (g.leave slot = F)) :
    Calls Try.prog 60 #[.pointer (some ⟨b, 0, none⟩), .int .i64 slot] w (ErrPost b mv ps w F) := by
  have HP := hid h
  obtain ⟨T, hT⟩ : ∃ T, g.takenB slot = T := ⟨_, rfl⟩
  have HT := hid hT
  clear hT h
  go_enter Try.func60, Try.ntmps60
  go_wp2_with fail
  refine (pTaken_any b mv ps g slot _ HP.out T HT).mono ?_
  rintro e w1 ⟨rfl, rfl⟩
  cases T
  · obtain rfl : (7, g) = F := by rw [← hF.out]; unfold M.PGame.leave; rw [HT.out]; rfl
    go_wp2
    go_ret
    exact ⟨rfl, HP.out, On.refl _ _⟩
  · obtain ⟨i, rfl, hi, _⟩ := taken_nat HT.out
    obtain rfl : (0, g.put i (M.PSeat.empty (g.seat i).gen)) = F := by rw [← hF.out]; unfold M.PGame.leave; rw [HT.out]; rfl
    have i0 : (0 : Int) ≤ (i : Int) := by omega
    have i1 : (i : Int) < 8 := by omega
    clear hF HT
    go_wp2_with fail
    refine (sfree_any b (66 + i * 119) (g.seat i) _ (fun k hk => HP.out.cs i k hi hk) HP.out.free HP.out.lt).mono ?_
    rintro e w2 ⟨rfl, hr, ho⟩
    have P2 := hid (HP.out.put hi hr ho)
    have O2 := ho.on
    clear hr ho HP
    go_wp2
    go_ret
    exact ⟨rfl, P2.out, O2⟩

set_option maxRecDepth 100000 in
set_option maxHeartbeats 2000000 in
theorem pPacket_any (b : Nat) (mv : Value) (ps : Nat → Bool) (g : M.PGame) (slot : Int) (p : ByteArray) (w : World) (h : Pg w b mv ps g) (hs : p.size ≤ maxLen) (hw : ∀ j, j < 8 → 0 ≤ (g.seat j).waiting ∧ (g.seat j).waiting ≤ 4) (F : Int × M.PGame) (hF : Hid (g.packet slot (M.decR p) (M.decE p) = F)) :
    Calls Try.prog 34 #[.pointer (some ⟨b, 0, none⟩), .int .i64 slot, .string p] w (ErrPost b mv ps w F) := by
  have HP := hid h
  have HW := hid hw
  obtain ⟨T, hT⟩ : ∃ T, g.takenB slot = T := ⟨_, rfl⟩
  have HT := hid hT
  obtain ⟨c, hc⟩ : ∃ c, M.decR p = c := ⟨_, rfl⟩
  obtain ⟨e, he⟩ : ∃ e, M.decE p = e := ⟨_, rfl⟩
  have HC := hid hc
  have HE := hid he
  rw [hc, he] at hF
  have HS := hid hs
  clear hT h hw hc he hs
  go_enter Try.func34, Try.ntmps34
  go_wp2_with fail
  refine (pTaken_any b mv ps g slot _ HP.out T HT).mono ?_
  rintro rr w1 ⟨rfl, rfl⟩
  cases T
  · obtain rfl : (7, g) = F := by rw [← hF.out]; unfold M.PGame.packet; rw [HT.out]; rfl
    go_wp2
    go_ret
    exact ⟨rfl, HP.out, On.refl _ _⟩
  · obtain ⟨i, rfl, hi, _⟩ := taken_nat HT.out
    have i0 : (0 : Int) ≤ (i : Int) := by omega
    have i1 : (i : Int) < 8 := by omega
    have HF2 : Hid ((if e ≠ 0 then (e, g) else if c.seq ≤ (g.seat i).last then (9, g) else if 4 ≤ (g.seat i).waiting then (10, g) else (0, g.put i ((g.seat i).put c))) = F) := by
      unfold Hid; rw [← hF.out]; unfold M.PGame.packet; rw [HT.out]; rfl
    clear hF HT
    go_wp2_with fail
    refine (pDecode_any p _ c e HS.out HC HE).mono ?_
    rintro rr w2 ⟨rfl, hb⟩
    have P2 := hid (HP.out.after hb)
    have B2 := hid hb
    have hsz := hb.size
    clear hb HP
    by_cases h0 : e = 0
    · subst h0
      have HF3 : Hid ((if c.seq ≤ (g.seat i).last then (9, g) else if 4 ≤ (g.seat i).waiting then (10, g) else (0, g.put i ((g.seat i).put c))) = F) := HF2.out
      clear HF2
      go_wp2_with fail
      obtain ⟨V, hV⟩ : ∃ V, w2.alloc (.cells #[.int .i64 c.seq, .bool c.fire, .int .i64 c.mv.x, .int .i64 c.mv.y, .int .i64 c.mv.z, .int .i64 c.aim.x, .int .i64 c.aim.y, .int .i64 c.aim.z, .int .i64 c.time] 74) = V := ⟨_, rfl⟩
      have qc : Blk V w2.heap.size #[.int .i64 c.seq, .bool c.fire, .int .i64 c.mv.x, .int .i64 c.mv.y, .int .i64 c.mv.z, .int .i64 c.aim.x, .int .i64 c.aim.y, .int .i64 c.aim.z, .int .i64 c.time] 74 := by rw [← hV]; exact Blk.new rfl
      have PV := hid (show Pg V b mv ps g from by rw [← hV]; exact P2.out.alloc _)
      have BV := hid (show Below w1.heap.size w1 V from by rw [← hV]; have := B2.out; go_grown)
      obtain ⟨v0, v1, v2, v3, v4, v5, v6, v7, v8, vf, vl⟩ := qc.nine
      rw [hV]
      clear hV qc P2 B2
      refine still_tail5 6 (by kernel_rfl) (by kernel_rfl) ?_
      simp only [List.take_succ_cons, List.take_zero, List.drop_succ_cons, List.drop_zero]
      repeat still_step
      refine wpStill_nil ?_
      go_wp2_with fail
      refine (sput_any b (66 + i * 119) (g.seat i) c V.drew (fun k hk => by exact PV.out.cs i k hi hk) (by exact PV.out.free) (by exact PV.out.lt) (HW.out i hi).1 (HW.out i hi).2).mono ?_
      rintro rr w3 (⟨h1, rfl, hb⟩ | ⟨h1, h2, rfl, hb⟩ | ⟨h1, h2, rfl, hr, ho⟩)
      · obtain rfl : (9, g) = F := by rw [← HF3.out, if_pos h1]
        have P3 := hid (PV.out.of (hb.block b PV.out.lt) (by have := hb.size; have := PV.out.lt; simp at *; omega))
        have B3 := hid (show Below w1.heap.size w1 w3 from bl BV.out.drew hb)
        clear hb HF3 h1 v0 v1 v2 v3 v4 v5 v6 v7 v8 vf vl
        go_wp2
        go_ret
        exact ⟨rfl, P3.out, On.below B3.out⟩
      · obtain rfl : (10, g) = F := by rw [← HF3.out, if_neg h1, if_pos h2]
        have P3 := hid (PV.out.of (hb.block b PV.out.lt) (by have := hb.size; have := PV.out.lt; simp at *; omega))
        have B3 := hid (show Below w1.heap.size w1 w3 from bl BV.out.drew hb)
        clear hb HF3 h1 h2 v0 v1 v2 v3 v4 v5 v6 v7 v8 vf vl
        go_wp2
        go_ret
        exact ⟨rfl, P3.out, On.below B3.out⟩
      · obtain rfl : (0, g.put i ((g.seat i).put c)) = F := by rw [← HF3.out, if_neg h1, if_neg h2]
        have P3 := hid (PV.out.put hi hr ⟨ho.on.undrew, ho.out, ho.fz⟩)
        have O3 := hid ((On.below (b := b) BV.out).trans ho.on.undrew)
        clear hr ho HF3 h1 h2 v0 v1 v2 v3 v4 v5 v6 v7 v8 vf vl
        go_wp2
        go_ret
        exact ⟨rfl, P3.out, O3.out⟩
    · obtain rfl : (e, g) = F := by rw [← HF2.out, if_pos h0]
      have h1 : (e != 0) = true := by simp [h0]
      clear HF2 h0
      go_wp2
      go_ret
      exact ⟨rfl, P2.out.alloc _, On.below (by have := B2.out; go_grown)⟩

set_option maxHeartbeats 1000000 in
theorem pSnap_no (b : Nat) (mv : Value) (ps : Nat → Bool) (g : M.PGame) (slot : Int) (w : World) (h : Pg w b mv ps g) (ht : Hid (g.takenB slot = false)) :
    Calls Try.prog 38 #[.pointer (some ⟨b, 0, none⟩), .int .i64 slot] w fun e w' => e = .returned (.tuple #[.string ⟨#[]⟩, .int .i64 7]) ∧ Below w.heap.size w w' := by
  go_enter Try.func38, Try.ntmps38
  go_wp2_with fail
  refine (pTaken_any b mv ps g slot _ h false ht).mono ?_
  rintro e w1 ⟨rfl, rfl⟩
  go_wp2
  go_ret2
  exact ⟨rfl, by go_grown⟩

end Go.Proofs.Ytonmihojfcjmjab
