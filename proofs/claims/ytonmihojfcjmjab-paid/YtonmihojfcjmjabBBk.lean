import Derived.Test.YtonmihojfcjmjabOkM
import Derived.Test.YtonmihojfcjmjabPq4
import Derived.Test.YtonmihojfcjmjabBKp
import Derived.Test.YtonmihojfcjmjabRwM
import Derived.Deep.LoopGhost
import Derived.Test.YtonmihojfcjmjabSeg
import Derived.Test.YtonmihojfcjmjabBox2
/- The statements' book: who is there, as plain data. -/
namespace Go.Proofs.Ytonmihojfcjmjab.M
set_option linter.unusedVariables false

structure Book where
  tick : Int
  here : Nat → Bool
  died : Nat → Int
def Book.none : Book := ⟨0, fun _ => false, fun _ => 0⟩
/-- The book tells of the game. -/
structure Book.Of (b : Book) (g : PGame) : Prop where
  t : b.tick = g.tick
  h : ∀ i, i < 8 → b.here i = (g.seat i).taken
def Book.hasB (b : Book) (slot : Int) : Bool := decide (0 ≤ slot) && decide (slot < 8) && b.here slot.toNat
theorem Book.Of.has {b : Book} {g : PGame} (h : b.Of g) (slot : Int) : b.hasB slot = g.takenB slot := by
  unfold Book.hasB PGame.takenB
  by_cases h1 : 0 ≤ slot
  · by_cases h2 : slot < 8
    · rw [h.h slot.toNat (by omega)]
    · simp [h2]
  · simp [h1]
def Book.set (b : Book) (i : Nat) (v : Bool) : Book := { b with here := fun j => if j = i then v else b.here j }
def Book.join (b : Book) (g : PGame) (can : Bool) : Book := if can = true then (match g.free with | some i => b.set i true | Option.none => b) else b
def Book.leave (b : Book) (g : PGame) (slot : Int) : Book := if g.takenB slot = true then b.set slot.toNat false else b
def Book.up (b : Book) : Book := if b.tick < 3000 then { b with tick := b.tick + 1 } else b

theorem free_lt (g : PGame) : ∀ (n i k : Nat), g.freeFrom n i = some k → i ≤ k ∧ k < i + n ∧ (g.seat k).taken = false
  | 0, _, _, h => by cases h
  | n + 1, i, k, h => by
    unfold PGame.freeFrom at h
    split at h
    · cases h; rename_i e; exact ⟨by omega, by omega, e⟩
    · have := free_lt g n (i + 1) k h; exact ⟨by omega, by omega, this.2.2⟩
theorem Book.Of.join {b : Book} {g : PGame} (h : b.Of g) (can : Bool) (p : V3) : (b.join g can).Of (g.connect can p).2.2 := by
  unfold Book.join PGame.connect
  cases can
  · exact h
  · rw [if_pos rfl, if_neg (by decide)]
    cases hf : g.free with
    | none => exact h
    | some i =>
      refine ⟨h.t, fun k hk => ?_⟩
      show (if k = i then true else b.here k) = ((g.put i ((g.seat i).give p)).seat k).taken
      by_cases e : k = i
      · subst e; rw [if_pos rfl, PGame.put_at]; rfl
      · rw [if_neg e, PGame.put_ne _ _ e]; exact h.h k hk
theorem Book.Of.leave {b : Book} {g : PGame} (h : b.Of g) (slot : Int) : (b.leave g slot).Of (g.leave slot).2 := by
  unfold Book.leave PGame.leave
  cases ht : g.takenB slot
  · rw [if_neg (by decide), if_neg (by decide)]; exact h
  · rw [if_pos rfl, if_pos rfl]
    refine ⟨h.t, fun k hk => ?_⟩
    show (if k = slot.toNat then false else b.here k) = ((g.put slot.toNat (PSeat.empty _)).seat k).taken
    by_cases e : k = slot.toNat
    · subst e; rw [if_pos rfl, PGame.put_at]; rfl
    · rw [if_neg e, PGame.put_ne _ _ e]; exact h.h k hk

theorem hurt_taken (s : PSeat) (d t : Int) : (s.hurt d t).taken = s.taken := by unfold PSeat.hurt; split <;> rfl
theorem shoot_taken (g : PGame) (ls : List Lf) (i : Nat) (c : Cmd) (k : Nat) : ((g.shoot ls i c).seat k).taken = (g.seat k).taken := by
  have put : ∀ (g : PGame) (i : Nat) (s : PSeat), s.taken = (g.seat i).taken → ((g.put i s).seat k).taken = (g.seat k).taken := fun g i s hs => by
    by_cases e : k = i
    · subst e; rw [PGame.put_at]; exact hs
    · rw [PGame.put_ne _ _ e]
  unfold PGame.shoot
  split
  · unfold PGame.strike
    split
    · exact put _ _ _ rfl
    · split
      · rw [put _ _ _ (hurt_taken _ _ _)]; exact put _ _ _ rfl
      · exact put _ _ _ rfl
  · rfl
theorem shootTo_taken (g : PGame) (ls : List Lf) (cm : Nat → Cmd) (k : Nat) : ∀ n, ((g.shootTo ls cm n).seat k).taken = (g.seat k).taken
  | 0 => rfl
  | n + 1 => by
    unfold PGame.shootTo
    split
    · rw [shoot_taken]; exact shootTo_taken g ls cm k n
    · exact shootTo_taken g ls cm k n
theorem shoot_tick (g : PGame) (ls : List Lf) (i : Nat) (c : Cmd) : (g.shoot ls i c).tick = g.tick := by
  unfold PGame.shoot
  split
  · unfold PGame.strike
    split
    · rfl
    · split <;> rfl
  · rfl
theorem shootTo_tick (g : PGame) (ls : List Lf) (cm : Nat → Cmd) : ∀ n, (g.shootTo ls cm n).tick = g.tick
  | 0 => rfl
  | n + 1 => by
    unfold PGame.shootTo
    split
    · rw [shoot_tick]; exact shootTo_tick g ls cm n
    · exact shootTo_tick g ls cm n
theorem obeyed_taken (s : PSeat) (ls : List Lf) : (s.obeyed ls).taken = s.taken := by
  unfold PSeat.obeyed
  split
  · rfl
  split
  · unfold PSeat.moved
    split <;> rfl
  · rfl
theorem revived_taken (s : PSeat) (t : Int) : (s.revived t).taken = s.taken := by unfold PSeat.revived; split <;> rfl
theorem note_taken (s : PSeat) (t : Int) : (s.note t).taken = s.taken := by
  unfold PSeat.note PSeat.add
  split
  · split <;> rfl
  · rfl
theorem walk_taken (g : PGame) (ls : List Lf) {k : Nat} (hk : k < 8) : ((g.walk ls).seat k).taken = (g.seat k).taken := by
  unfold PGame.walk
  rw [shootTo_taken]
  unfold PGame.notes PGame.walks PGame.backs
  rw [PGame.map_in _ _ hk, PGame.map_in _ _ hk, PGame.map_in _ _ hk, note_taken, obeyed_taken, revived_taken]; rfl
theorem walk_tick (g : PGame) (ls : List Lf) : (g.walk ls).tick = g.tick + 1 := by
  unfold PGame.walk
  rw [shootTo_tick]; rfl
theorem Book.Of.up {b : Book} {g : PGame} (h : b.Of g) (ls : List Lf) : b.up.Of (g.step ls).2 := by
  unfold Book.up PGame.step
  rw [h.t]
  by_cases e : 3000 ≤ g.tick
  · rw [if_pos e, if_neg (by omega)]; exact h
  · rw [if_neg e, if_pos (by omega)]
    exact ⟨by show g.tick + 1 = (g.walk ls).tick; rw [walk_tick], fun i hi => by show b.here i = _; rw [walk_taken g ls hi]; exact h.h i hi⟩
theorem Book.Of.packet {b : Book} {g : PGame} (h : b.Of g) (slot : Int) (c : Cmd) (e : Int) : b.Of (g.packet slot c e).2 := by
  unfold PGame.packet
  split
  · exact h
  split
  · exact h
  split
  · exact h
  split
  · exact h
  · refine ⟨h.t, fun k hk => ?_⟩
    show b.here k = ((g.put slot.toNat _).seat k).taken
    by_cases e : k = slot.toNat
    · subst e; rw [PGame.put_at]; exact h.h _ hk
    · rw [PGame.put_ne _ _ e]; exact h.h k hk

/-- The same packet once more. -/
theorem packet_again (g : PGame) (slot : Int) (c : Cmd) (e : Int) : (g.packet slot c e).2.packet slot c e = (if (g.packet slot c e).1 = 0 then 9 else (g.packet slot c e).1, (g.packet slot c e).2) := by
  by_cases h1 : g.takenB slot = false
  · have e1 : g.packet slot c e = (7, g) := by unfold PGame.packet; rw [if_pos h1]
    rw [e1]; exact e1
  by_cases h2 : e ≠ 0
  · have e1 : g.packet slot c e = (e, g) := by unfold PGame.packet; rw [if_neg h1, if_pos h2]
    rw [e1]
    show g.packet slot c e = (if e = 0 then 9 else e, g)
    rw [if_neg h2]; exact e1
  by_cases h3 : c.seq ≤ (g.seat slot.toNat).last
  · have e1 : g.packet slot c e = (9, g) := by unfold PGame.packet; rw [if_neg h1, if_neg h2, if_pos h3]
    rw [e1]; exact e1
  by_cases h4 : 4 ≤ (g.seat slot.toNat).waiting
  · have e1 : g.packet slot c e = (10, g) := by unfold PGame.packet; rw [if_neg h1, if_neg h2, if_neg h3, if_pos h4]
    rw [e1]; exact e1
  · have e1 : g.packet slot c e = (0, g.put slot.toNat ((g.seat slot.toNat).put c)) := by unfold PGame.packet; rw [if_neg h1, if_neg h2, if_neg h3, if_neg h4]
    rw [e1]
    show (g.put slot.toNat ((g.seat slot.toNat).put c)).packet slot c e = (9, g.put slot.toNat ((g.seat slot.toNat).put c))
    have ht : ¬ (g.put slot.toNat ((g.seat slot.toNat).put c)).takenB slot = false := by
      intro h; apply h1
      unfold PGame.takenB at h ⊢
      rw [PGame.put_at] at h
      exact h
    unfold PGame.packet
    rw [if_neg ht, if_neg h2, PGame.put_at, if_pos (by show c.seq ≤ c.seq; omega)]

end Go.Proofs.Ytonmihojfcjmjab.M

/- Contracts of the statements' book. -/
namespace Go.Proofs.Ytonmihojfcjmjab
open Go.RowKit
set_option linter.unusedVariables false
attribute [local go_sem] cell_set_off cell_set_blk

def bookC (b : M.Book) (k : Nat) : Value := if k = 0 then .int .i64 b.tick else if k < 9 then .bool (b.here (k - 1)) else .int .i64 (b.died (k - 9))
/-- The book lies in block k. -/
def Bk (W : World) (k : Nat) (b : M.Book) : Prop := Blk W k (cellsOf 17 (bookC b)) 31
theorem Bk.tick {W : World} {k : Nat} {b : M.Book} (h : Bk W k b) : W.cell? ⟨k, 0, none⟩ = some (.int .i64 b.tick) := Blk.cellC h 0 (by omega)
theorem Bk.here {W : World} {k : Nat} {b : M.Book} (h : Bk W k b) {i : Nat} (hi : i < 8) : W.cell? ⟨k, 1 + i, none⟩ = some (.bool (b.here i)) := by
  rw [Blk.cellC h (1 + i) (by omega)]
  unfold bookC
  rw [if_neg (by omega), if_pos (by omega), show 1 + i - 1 = i by omega]
theorem Bk.died {W : World} {k : Nat} {b : M.Book} (h : Bk W k b) {i : Nat} (hi : i < 8) : W.cell? ⟨k, 9 + i, none⟩ = some (.int .i64 (b.died i)) := by
  rw [Blk.cellC h (9 + i) (by omega)]
  unfold bookC
  rw [if_neg (by omega), if_neg (by omega), show 9 + i - 9 = i by omega]
theorem Bk.set {W : World} {k : Nat} {b : M.Book} (h : Bk W k b) {i : Nat} (hi : i < 8) (v : Bool) : Bk (W.setCell ⟨k, 1 + i, none⟩ (.bool v)) k (b.set i v) := by
  refine (Blk.setC h (1 + i) (.bool v)).to (fun j hj => ?_)
  by_cases e : j = 1 + i
  · subst e
    rw [if_pos rfl]
    unfold bookC
    rw [if_neg (by omega), if_pos (by omega), show 1 + i - 1 = i by omega]
    show Value.bool v = .bool (if i = i then v else _)
    rw [if_pos rfl]
  · rw [if_neg e]
    unfold bookC
    by_cases e0 : j = 0
    · rw [if_pos e0, if_pos e0]; rfl
    · rw [if_neg e0, if_neg e0]
      by_cases e9 : j < 9
      · rw [if_pos e9, if_pos e9]
        show Value.bool (b.here (j - 1)) = .bool (if j - 1 = i then v else b.here (j - 1))
        rw [if_neg (by omega)]
      · rw [if_neg e9, if_neg e9]; rfl
theorem Bk.up {W : World} {k : Nat} {b : M.Book} (h : Bk W k b) (t : Int) : Bk (W.setCell ⟨k, 0, none⟩ (.int .i64 t)) k { b with tick := t } := by
  refine (Blk.setC h 0 (.int .i64 t)).to (fun j hj => ?_)
  by_cases e : j = 0
  · subst e; rw [if_pos rfl]; rfl
  · rw [if_neg e]
    unfold bookC
    rw [if_neg e, if_neg e]

set_option maxHeartbeats 1000000 in
theorem bHas_any (k : Nat) (b : M.Book) (slot : Int) (w : World) (h : Bk w k b) (B : Bool) (hB : Hid (b.hasB slot = B)) :
    Calls Try.prog 29 #[.pointer (some ⟨k, 0, none⟩), .int .i64 slot] w fun e w' => e = .returned (.bool B) ∧ w' = w := by
  by_cases h1 : 0 ≤ slot
  · by_cases h2 : slot < 8
    · obtain ⟨i, rfl⟩ : ∃ i : Nat, slot = (i : Int) := ⟨slot.toNat, by omega⟩
      have hi : i < 8 := by omega
      have c0 := h.here hi
      have e : b.here i = B := by rw [← hB.out]; unfold M.Book.hasB; simp [h2]
      rw [e] at c0
      clear hB e h
      go_enter Try.func29, Try.ntmps29
      go_wp2
      go_ret
      exact ⟨rfl, rfl⟩
    · obtain rfl : false = B := by rw [← hB.out]; unfold M.Book.hasB; simp [h2]
      have d : decide (slot < 8) = false := by simp; omega
      clear hB h
      go_enter Try.func29, Try.ntmps29
      go_wp2
      go_ret
      exact ⟨rfl, rfl⟩
  · obtain rfl : false = B := by rw [← hB.out]; unfold M.Book.hasB; simp [h1]
    have d : decide (0 ≤ slot) = false := by simp; omega
    clear hB h
    go_enter Try.func29, Try.ntmps29
    go_wp2
    go_ret
    exact ⟨rfl, rfl⟩

theorem packet_free {g : M.PGame} {slot : Int} {c : M.Cmd} {e : Int} (h : g.takenB slot = false) : g.packet slot c e = (7, g) := by unfold M.PGame.packet; rw [if_pos h]

set_option maxHeartbeats 1000000 in
theorem bSent_any (k b : Nat) (v : Value) (ls : List M.Lf) (ps : Nat → Bool) (g : M.PGame) (bk : M.Book) (slot : Int) (p : ByteArray) (w : World) (hS : Sv w b v ls ps g) (hK : Bk w k bk) (hO : bk.Of g) (hne : k ≠ b) (hs : p.size ≤ maxLen) (F : Int × M.PGame) (hF : Hid (g.packet slot (M.decR p) (M.decE p) = F)) :
    Calls Try.prog 9 #[.pointer (some ⟨k, 0, none⟩), .pointer (some ⟨b, 0, none⟩), .int .i64 slot, .string p] w (SvPost b v ls ps w (.tuple #[.int .i64 F.1, .bool true]) F.2) := by
  obtain ⟨B, hB⟩ : ∃ B, bk.hasB slot = B := ⟨_, rfl⟩
  have HB := hid hB
  have H7 : Hid (B = false → F.1 = 7) := fun e => by
    rw [← hF.out, packet_free]
    rw [← hO.has slot, hB, e]
  have HS := hid hS
  have HK := hid hK
  clear hS hK hO hB
  go_enter Try.func9, Try.ntmps9
  go_wp2_with fail
  refine (sv_packet HS.out slot p hs F hF).mono ?_
  rintro e w1 ⟨rfl, hs1, ho1⟩
  have S1 := hid hs1
  have O1 := hid ho1
  have K1 := hid (show Bk w1 k bk from Blk.on HK.out ho1 hne)
  clear hs1 ho1 HS HK hF
  go_wp2_with fail
  refine (bHas_any k bk slot _ K1.out B HB).mono ?_
  rintro e w2 ⟨rfl, rfl⟩
  cases B
  · have h7 := H7.out rfl
    have e7 : (F.1 == 7) = true := by rw [h7]; rfl
    clear H7 h7
    go_wp2
    go_ret2
    exact ⟨rfl, S1.out, O1.out⟩
  · clear H7
    go_wp2
    go_ret2
    exact ⟨rfl, S1.out, O1.out⟩

set_option maxHeartbeats 1000000 in
theorem bLeft_any (k b : Nat) (v : Value) (ls : List M.Lf) (ps : Nat → Bool) (g : M.PGame) (bk : M.Book) (slot : Int) (w : World) (hS : Sv w b v ls ps g) (hK : Bk w k bk) (hO : bk.Of g) (hne : k ≠ b) (hr : ∀ j, v.ownBlock = some j → j ≠ k) :
    Calls Try.prog 31 #[.pointer (some ⟨k, 0, none⟩), .pointer (some ⟨b, 0, none⟩), .int .i64 slot] w fun e w' => e = .returned (.bool true) ∧ Sv w' b v ls ps (g.leave slot).2 ∧ Bk w' k (bk.leave g slot) ∧ OnS (fun j => j = b ∨ j = k) w w' := by
  obtain ⟨B, hB⟩ : ∃ B, bk.hasB slot = B := ⟨_, rfl⟩
  have HB := hid hB
  have ht : g.takenB slot = B := by rw [← hO.has slot]; exact hB
  have HS := hid hS
  have HK := hid hK
  have HR := hid hr
  cases B
  · have e1 : g.leave slot = (7, g) := by unfold M.PGame.leave; rw [if_neg (by simp [ht])]
    have e2 : bk.leave g slot = bk := by unfold M.Book.leave; rw [if_neg (by simp [ht])]
    have HF := hid e1
    rw [e1, e2]
    clear hS hK hO hB ht e1 e2 hr
    go_enter Try.func31, Try.ntmps31
    go_wp2_with fail
    refine (sv_leave HS.out slot _ HF).mono ?_
    rintro e w1 ⟨rfl, hs1, ho1⟩
    have S1 := hid hs1
    have O1 := hid (show OnS (fun j => j = b ∨ j = k) w w1 from OnS.on ho1 (.inl rfl))
    have K1 := hid (show Bk w1 k bk from Blk.on HK.out ho1 hne)
    clear hs1 ho1 HS HK HF
    go_wp2_with fail
    refine (bHas_any k bk slot _ K1.out false HB).mono ?_
    rintro e w2 ⟨rfl, rfl⟩
    go_wp2
    go_ret
    exact ⟨rfl, S1.out, K1.out, O1.out⟩
  · obtain ⟨i, rfl, hi, hti⟩ := taken_nat ht
    have e1 : g.leave (i : Int) = (0, g.put i (M.PSeat.empty (g.seat i).gen)) := by unfold M.PGame.leave; rw [if_pos ht]; rfl
    have e2 : bk.leave g (i : Int) = bk.set i false := by unfold M.Book.leave; rw [if_pos ht]; rfl
    have HF := hid e1
    rw [e1, e2]
    have i0 : (0 : Int) ≤ (i : Int) := by omega
    have i1 : (i : Int) < 8 := by omega
    clear hS hK hO hB ht e1 e2 hr hti
    go_enter Try.func31, Try.ntmps31
    go_wp2_with fail
    refine (sv_leave HS.out (i : Int) _ HF).mono ?_
    rintro e w1 ⟨rfl, hs1, ho1⟩
    have K1 := hid (show Bk w1 k bk from Blk.on HK.out ho1 hne)
    have o2 := On.set k (1 + i) w1 (.bool false)
    have S2 := hid (hs1.on o2 (fun e => hne e.symm) HR.out)
    have O2 := hid ((show OnS (fun j => j = b ∨ j = k) w w1 from OnS.on ho1 (.inl rfl)).trans (OnS.on o2 (.inr rfl)))
    have K2 := hid (K1.out.set hi false)
    have ch := K1.out.here hi
    have cf := Blk.frozen K1.out
    clear hs1 ho1 HS HK HF o2
    go_wp2_with fail
    refine (bHas_any k bk (i : Int) _ K1.out true HB).mono ?_
    rintro e w2 ⟨rfl, rfl⟩
    go_wp2
    go_ret
    exact ⟨rfl, S2.out, K2.out, O2.out⟩

set_option maxHeartbeats 1000000 in
theorem bTicked_any (k b : Nat) (v : Value) (ls : List M.Lf) (ps : Nat → Bool) (g : M.PGame) (bk : M.Book) (w : World) (hS : Sv w b v ls ps g) (hK : Bk w k bk) (hO : bk.Of g) (hne : k ≠ b) (hr : ∀ j, v.ownBlock = some j → j ≠ k) :
    Calls Try.prog 32 #[.pointer (some ⟨k, 0, none⟩), .pointer (some ⟨b, 0, none⟩)] w fun e w' => e = .returned (.bool true) ∧ Sv w' b v ls ps (g.step ls).2 ∧ Bk w' k bk.up ∧ OnS (fun j => j = b ∨ j = k) w w' := by
  have HS := hid hS
  have HK := hid hK
  have HR := hid hr
  have HT := hid hO.t
  have t0 := hS.ok.t0
  have t1 := hS.ok.t1
  by_cases h3 : 3000 ≤ g.tick
  · have e1 : g.step ls = (11, g) := by unfold M.PGame.step; rw [if_pos h3]
    have e2 : bk.up = bk := by unfold M.Book.up; rw [hO.t, if_neg (by omega)]
    have HF := hid e1
    have ht : ¬ bk.tick < 3000 := by rw [hO.t]; omega
    rw [e1, e2]
    clear hS hK hO e1 e2 hr
    go_enter Try.func32, Try.ntmps32
    go_wp2_with fail
    refine (sv_tick HS.out _ HF).mono ?_
    rintro e w1 ⟨rfl, hs1, ho1⟩
    have S1 := hid hs1
    have O1 := hid (show OnS (fun j => j = b ∨ j = k) w w1 from OnS.on ho1 (.inl rfl))
    have K1 := hid (show Bk w1 k bk from Blk.on HK.out ho1 hne)
    have ch := K1.out.tick
    clear hs1 ho1 HS HK HF
    go_wp2
    go_ret
    exact ⟨rfl, S1.out, K1.out, O1.out⟩
  · have e1 : g.step ls = (0, g.walk ls) := by unfold M.PGame.step; rw [if_neg h3]
    have e2 : bk.up = { bk with tick := bk.tick + 1 } := by unfold M.Book.up; rw [hO.t, if_pos (by omega)]
    have HF := hid e1
    have ht : bk.tick < 3000 := by rw [hO.t]; omega
    have ht0 : 0 ≤ bk.tick := by rw [hO.t]; omega
    rw [e1, e2]
    clear hS hK hO e1 e2 hr
    go_enter Try.func32, Try.ntmps32
    go_wp2_with fail
    refine (sv_tick HS.out _ HF).mono ?_
    rintro e w1 ⟨rfl, hs1, ho1⟩
    have K1 := hid (show Bk w1 k bk from Blk.on HK.out ho1 hne)
    have o2 := On.set k 0 w1 (.int .i64 (bk.tick + 1))
    have S2 := hid (hs1.on o2 (fun e => hne e.symm) HR.out)
    have O2 := hid ((show OnS (fun j => j = b ∨ j = k) w w1 from OnS.on ho1 (.inl rfl)).trans (OnS.on o2 (.inr rfl)))
    have K2 := hid (K1.out.up (bk.tick + 1))
    have ch := K1.out.tick
    have cf := Blk.frozen K1.out
    clear hs1 ho1 HS HK HF o2
    go_wp2
    go_ret
    exact ⟨rfl, S2.out, K2.out, O2.out⟩

end Go.Proofs.Ytonmihojfcjmjab

/- Contracts of the statements' helpers: from. -/
namespace Go.Proofs.Ytonmihojfcjmjab
open Go.RowKit
attribute [local go_sem] cell_set_off cell_set_blk

/-- Are all coordinates from lo to hi? -/
def M.fromB (p : M.V3) (lo hi : Int) : Bool := decide (lo ≤ p.x) && decide (p.x ≤ hi) && decide (lo ≤ p.y) && decide (p.y ≤ hi) && decide (lo ≤ p.z) && decide (p.z ≤ hi)
/-- The axes from k on are in. -/
def M.fromK (p : M.V3) (lo hi : Int) (k : Int) : Bool := (decide (0 < k) || (decide (lo ≤ p.x) && decide (p.x ≤ hi))) && (decide (1 < k) || (decide (lo ≤ p.y) && decide (p.y ≤ hi))) && (decide (2 < k) || (decide (lo ≤ p.z) && decide (p.z ≤ hi)))

set_option maxHeartbeats 1000000 in
theorem from_any (p : M.V3) (lo hi : Int) (w : World) :
    Calls Try.prog 41 #[.agg #[.int .i64 p.x, .int .i64 p.y, .int .i64 p.z], .int .i64 lo, .int .i64 hi] w fun e w' => e = .returned (.bool (M.fromB p lo hi)) ∧ Below w.heap.size w w' := by
  go_enter Try.func41, Try.ntmps41
  go_wp2
  go_rounds 4
  all_goals (go_ret; exact ⟨ret_bool (by unfold M.fromB; (first | (simp [*]; done) | (simp; omega))), by go_grown⟩)


end Go.Proofs.Ytonmihojfcjmjab

/- Contracts of the statements' book: joined. -/
namespace Go.Proofs.Ytonmihojfcjmjab
open Go.RowKit
set_option linter.unusedVariables false
attribute [local go_sem] cell_set_off cell_set_blk

theorem from_is (p : M.V3) (w : World) (B : Bool) (hB : Hid (M.inCube p = B)) :
    Calls Try.prog 41 #[.agg #[.int .i64 p.x, .int .i64 p.y, .int .i64 p.z], .int .i64 0, .int .i64 4096] w fun e w' => e = .returned (.bool B) ∧ Below w.heap.size w w' := by
  have e : M.fromB p 0 4096 = B := by rw [← hB.out]; rfl
  rw [← e]
  exact from_any p 0 4096 w

set_option maxRecDepth 100000 in
set_option maxHeartbeats 2000000 in
theorem bJoined_any (k b : Nat) (v : Value) (ps : Nat → Bool) (g : M.PGame) (bk : M.Book) (p : M.V3) (w : World) (hS : Sv w b v M.z0L ps g) (hK : Bk w k bk) (hO : bk.Of g) (hne : k ≠ b) (hr : ∀ j, v.ownBlock = some j → j ≠ k) :
    Calls Try.prog 30 #[.pointer (some ⟨k, 0, none⟩), .pointer (some ⟨b, 0, none⟩), .agg #[.int .i64 p.x, .int .i64 p.y, .int .i64 p.z]] w fun e w' => e = .returned (.bool true) ∧ Sv w' b v M.z0L ps (g.connect (M.inCube p) p).2.2 ∧ Bk w' k (bk.join g (M.inCube p)) ∧ OnS (fun j => j = b ∨ j = k) w w' := by
  obtain ⟨C, hC⟩ : ∃ C, M.inCube p = C := ⟨_, rfl⟩
  have HC := hid hC
  have can : (M.inCube p && decide (0 ≤ M.zP p M.z0L (-1))) = C := by
    cases hc : M.inCube p
    · rw [← hC, hc]; rfl
    · rw [← hC, hc, M.z0_zone ((M.inCube_iff p).1 hc)]; rfl
  rw [hC]
  obtain ⟨F, hF⟩ : ∃ F, g.connect C p = F := ⟨_, rfl⟩
  have HF0 := hid hF
  have HF : Hid (g.connect (M.inCube p && decide (0 ≤ M.zP p M.z0L (-1))) p = F) := by unfold Hid; rw [can]; exact hF
  obtain ⟨J, hJ⟩ : ∃ J, bk.join g C = J := ⟨_, rfl⟩
  have HJ := hid hJ
  have HS := hid hS
  have HK := hid hK
  have HO := hid hO
  have HR := hid hr
  rw [hF, hJ]
  have lk := Blk.lt hK
  clear hS hK hO hr hC hF hJ can
  go_enter Try.func30, Try.ntmps30
  go_wp2_with fail
  refine (sv_connect (HS.out.after (by go_grown)) p F HF).mono ?_
  rintro e w1 ⟨rfl, hs1, ho1⟩
  have Q1 := hid ((show Blk _ w.heap.size #[.int .i64 p.x, .int .i64 p.y, .int .i64 p.z] 33 from (by repeat' (first | (with_reducible assumption) | (refine Blk.new ?_; (first | (simp; done) | rfl); done) | (with_reducible refine Blk.alloc ?_) | (with_reducible refine Blk.drew ?_) | (with_reducible refine Blk.drewN ?_)))).on ho1 (by have := HS.out.pg.lt; omega))
  have K1 := hid (show Bk w1 k bk from Blk.on (show Bk _ k bk from Blk.alloc HK.out) ho1 hne)
  have O1 := hid (show OnS (fun j => j = b ∨ j = k) w w1 from (OnS.below (by go_grown)).trans (OnS.on ho1 (.inl rfl)))
  have S1 := hid hs1
  clear hs1 ho1 HS HK HF
  obtain ⟨q0, q1, q2, qf, ql⟩ := Q1.out.three
  go_wp2_with fail
  refine (from_is p _ C HC).mono ?_
  rintro e w2 ⟨rfl, hb⟩
  have S2 := hid (S1.out.after hb)
  have K2 := hid (show Bk w2 k bk from Blk.after K1.out hb)
  have O2 := hid (O1.out.trans (OnS.below hb))
  clear hb S1 K1 O1 Q1 q0 q1 q2 qf ql HC
  cases C
  · obtain rfl : (0, 5, g) = F := HF0.out
    obtain rfl : bk = J := HJ.out
    clear HF0 HJ
    go_wp2
    go_ret
    exact ⟨rfl, S2.out, K2.out, O2.out⟩
  · have HFr : Hid (g.freeFrom 8 0 = g.free) := rfl
    go_wp2_with fail
    go_loopg [10] 9 (fun m u10 wr => ∃ j : Nat, u10 = .int .i64 j ∧ j ≤ 8 ∧ m + j = 9 ∧ Hid (g.freeFrom (8 - j) j = g.free) ∧ wr = w2)
    case atStart => exact ⟨0, rfl, by omega, rfl, HFr, rfl⟩
    case round =>
      obtain ⟨j, rfl, hj, hk, hFj, rfl⟩ := hrel
      by_cases hlt8 : j < 8
      · have j0 : (0 : Int) ≤ (j : Int) := by omega
        have j1 : (j : Int) < 8 := by omega
        have ch := K2.out.here hlt8
        have cf := Blk.frozen K2.out
        have eh := HO.out.h j hlt8
        cases ht : (g.seat j).taken
        · rw [eh, ht] at ch
          have hn : g.free = some j := by
            rw [← hFj.out, show 8 - j = (8 - (j + 1)) + 1 by omega]; unfold M.PGame.freeFrom; rw [if_pos ht]
          obtain rfl : ((j : Int), 0, g.put j ((g.seat j).give p)) = F := by rw [← HF0.out]; unfold M.PGame.connect; rw [if_neg (by simp), hn]
          obtain rfl : bk.set j true = J := by rw [← HJ.out]; unfold M.Book.join; rw [if_pos rfl, hn]
          have o3 := On.set k (1 + j) wr (.bool true)
          have S3 := hid (S2.out.on o3 (fun e => hne e.symm) HR.out)
          have O3 := hid (O2.out.trans (OnS.on o3 (.inr rfl)))
          have K3 := hid (K2.out.set hlt8 true)
          clear hn HF0 HJ hFj ht eh o3 HFr
          go_wp2
          go_ret
          exact ⟨rfl, S3.out, K3.out, O3.out⟩
        · rw [eh, ht] at ch
          have HS2 : Hid (g.freeFrom (8 - (j + 1)) (j + 1) = g.free) := by
            unfold Hid; rw [← hFj.out, show 8 - j = (8 - (j + 1)) + 1 by omega]; conv => rhs; unfold M.PGame.freeFrom
            rw [if_neg (by simp [ht])]
          clear ht hFj eh
          go_wp2
          go_roundg (gk - 1)
          case measure => omega
          case rel => exact ⟨j + 1, by go_num, by omega, by omega, HS2, rfl⟩
      · have j1 : ¬ (j : Int) < 8 := by omega
        obtain rfl : j = 8 := by omega
        have hn : g.free = none := by rw [← hFj.out]; rfl
        obtain rfl : (0, 6, g) = F := by rw [← HF0.out]; unfold M.PGame.connect; rw [if_neg (by simp), hn]
        obtain rfl : bk = J := by rw [← HJ.out]; unfold M.Book.join; rw [if_pos rfl, hn]
        clear hFj hn HF0 HJ HFr
        go_wp2
        go_ret
        exact ⟨rfl, S2.out, K2.out, O2.out⟩

end Go.Proofs.Ytonmihojfcjmjab

/- Contracts of the statements' book: played, alike. -/
namespace Go.Proofs.Ytonmihojfcjmjab
open Go.RowKit
set_option linter.unusedVariables false
attribute [local go_sem] cell_set_off cell_set_blk

/-- One step of a game. -/
structure M.KOp where
  kind : Int
  slot : Int
  p : M.V3
  s : ByteArray
noncomputable def M.playG (g : M.PGame) (o : M.KOp) : M.PGame :=
  if o.kind = 1 then (g.connect (M.inCube o.p) o.p).2.2 else if o.kind = 2 then (g.leave o.slot).2 else if o.kind = 3 then (g.packet o.slot (M.decR o.s) (M.decE o.s)).2 else (g.step M.z0L).2
def M.playB (b : M.Book) (g : M.PGame) (o : M.KOp) : M.Book :=
  if o.kind = 1 then b.join g (M.inCube o.p) else if o.kind = 2 then b.leave g o.slot else if o.kind = 3 then b else b.up
theorem M.play_of {b : M.Book} {g : M.PGame} (h : b.Of g) (o : M.KOp) : (M.playB b g o).Of (M.playG g o) := by
  unfold M.playB M.playG
  by_cases h1 : o.kind = 1
  · rw [if_pos h1, if_pos h1]; exact h.join _ _
  · rw [if_neg h1, if_neg h1]
    by_cases h2 : o.kind = 2
    · rw [if_pos h2, if_pos h2]; exact h.leave _
    · rw [if_neg h2, if_neg h2]
      by_cases h3 : o.kind = 3
      · rw [if_pos h3, if_pos h3]; exact h.packet _ _ _
      · rw [if_neg h3, if_neg h3]; exact h.up _

theorem Blk.six6 {W : World} {b : Nat} {x0 x1 x2 x3 x4 x5 : Value} {t : TypeId} (h : Blk W b #[x0, x1, x2, x3, x4, x5] t) :
    W.cell? ⟨b, 0, none⟩ = some x0 ∧ W.cell? ⟨b, 1, none⟩ = some x1 ∧ W.cell? ⟨b, 2, none⟩ = some x2 ∧ W.cell? ⟨b, 3, none⟩ = some x3 ∧ W.cell? ⟨b, 4, none⟩ = some x4 ∧ W.cell? ⟨b, 5, none⟩ = some x5 ∧ (∀ i, W.frozen? ⟨b, i, none⟩ = false) ∧ b < W.heap.size := Blk.six h

set_option maxRecDepth 100000 in
set_option maxHeartbeats 2000000 in
theorem bPlayed_any (k b : Nat) (v : Value) (ps : Nat → Bool) (g : M.PGame) (bk : M.Book) (o : M.KOp) (w : World) (hS : Sv w b v M.z0L ps g) (hK : Bk w k bk) (hO : bk.Of g) (hne : k ≠ b) (hr : ∀ j, v.ownBlock = some j → j ≠ k) (hs : o.s.size ≤ maxLen) :
    Calls Try.prog 11 #[.pointer (some ⟨k, 0, none⟩), .pointer (some ⟨b, 0, none⟩), .agg #[.int .i64 o.kind, .int .i64 o.slot, .int .i64 o.p.x, .int .i64 o.p.y, .int .i64 o.p.z, .string o.s]] w fun e w' => e = .returned (.bool true) ∧ Sv w' b v M.z0L ps (M.playG g o) ∧ Bk w' k (M.playB bk g o) ∧ OnS (fun j => j = b ∨ j = k) w w' := by
  obtain ⟨V, hV⟩ : ∃ V, w.alloc (.cells #[.int .i64 o.kind, .int .i64 o.slot, .int .i64 o.p.x, .int .i64 o.p.y, .int .i64 o.p.z, .string o.s] 35) = V := ⟨_, rfl⟩
  have QV := hid (show Blk V w.heap.size #[.int .i64 o.kind, .int .i64 o.slot, .int .i64 o.p.x, .int .i64 o.p.y, .int .i64 o.p.z, .string o.s] 35 from by rw [← hV]; exact Blk.new rfl)
  have BV : Below w.heap.size w V := by rw [← hV]; go_grown
  have HS := hid (hS.after BV)
  have HK := hid (show Bk V k bk from Blk.after hK BV)
  have O0 := hid (show OnS (fun j => j = b ∨ j = k) w V from OnS.below BV)
  have HO := hid hO
  have HR := hid hr
  clear hS hK hO hr BV
  obtain ⟨a0, a1, a2, a3, a4, a5, af, al⟩ := QV.out.six6
  by_cases h1 : o.kind = 1
  · have z1 : (o.kind == 1) = true := by simp [h1]
    have e1 : M.playG g o = (g.connect (M.inCube o.p) o.p).2.2 := by unfold M.playG; rw [if_pos h1]
    have e2 : M.playB bk g o = bk.join g (M.inCube o.p) := by unfold M.playB; rw [if_pos h1]
    rw [e1, e2]
    clear e1 e2 h1
    go_enter Try.func11, Try.ntmps11
    go_wp2_with fail
    try rw [hV]
    refine (bJoined_any k b v ps g bk o.p V HS.out HK.out HO.out hne HR.out).mono ?_
    rintro e w1 ⟨rfl, hs1, hk1, ho1⟩
    have S1 := hid hs1
    have K1 := hid hk1
    have O1 := hid (O0.out.trans ho1)
    clear hs1 hk1 ho1 HS HK O0 hV QV
    go_wp2
    go_ret
    exact ⟨rfl, S1.out, K1.out, O1.out⟩
  · have z1 : (o.kind == 1) = false := by simp [h1]
    by_cases h2 : o.kind = 2
    · have z2 : (o.kind == 2) = true := by simp [h2]
      have e1 : M.playG g o = (g.leave o.slot).2 := by unfold M.playG; rw [if_neg h1, if_pos h2]
      have e2 : M.playB bk g o = bk.leave g o.slot := by unfold M.playB; rw [if_neg h1, if_pos h2]
      rw [e1, e2]
      clear e1 e2 h1 h2
      go_enter Try.func11, Try.ntmps11
      go_wp2_with fail
      try rw [hV]
      refine (bLeft_any k b v M.z0L ps g bk o.slot V HS.out HK.out HO.out hne HR.out).mono ?_
      rintro e w1 ⟨rfl, hs1, hk1, ho1⟩
      have S1 := hid hs1
      have K1 := hid hk1
      have O1 := hid (O0.out.trans ho1)
      clear hs1 hk1 ho1 HS HK O0 hV QV
      go_wp2
      go_ret
      exact ⟨rfl, S1.out, K1.out, O1.out⟩
    · have z2 : (o.kind == 2) = false := by simp [h2]
      by_cases h3 : o.kind = 3
      · have z3 : (o.kind == 3) = true := by simp [h3]
        have e1 : M.playG g o = (g.packet o.slot (M.decR o.s) (M.decE o.s)).2 := by unfold M.playG; rw [if_neg h1, if_neg h2, if_pos h3]
        have e2 : M.playB bk g o = bk := by unfold M.playB; rw [if_neg h1, if_neg h2, if_pos h3]
        rw [e1, e2]
        clear e1 e2 h1 h2 h3
        go_enter Try.func11, Try.ntmps11
        go_wp2_with fail
        try rw [hV]
        refine (bSent_any k b v M.z0L ps g bk o.slot o.s V HS.out HK.out HO.out hne hs _ rfl).mono ?_
        rintro e w1 ⟨rfl, hs1, ho1⟩
        have S1 := hid hs1
        have K1 := hid (show Bk w1 k bk from Blk.on HK.out ho1 hne)
        have O1 := hid (O0.out.trans (OnS.on ho1 (.inl rfl)))
        clear hs1 ho1 HS HK O0 hV QV
        go_wp2
        go_ret
        exact ⟨rfl, S1.out, K1.out, O1.out⟩
      · have z3 : (o.kind == 3) = false := by simp [h3]
        have e1 : M.playG g o = (g.step M.z0L).2 := by unfold M.playG; rw [if_neg h1, if_neg h2, if_neg h3]
        have e2 : M.playB bk g o = bk.up := by unfold M.playB; rw [if_neg h1, if_neg h2, if_neg h3]
        rw [e1, e2]
        clear e1 e2 h1 h2 h3
        go_enter Try.func11, Try.ntmps11
        go_wp2_with fail
        try rw [hV]
        refine (bTicked_any k b v M.z0L ps g bk V HS.out HK.out HO.out hne HR.out).mono ?_
        rintro e w1 ⟨rfl, hs1, hk1, ho1⟩
        have S1 := hid hs1
        have K1 := hid hk1
        have O1 := hid (O0.out.trans ho1)
        clear hs1 hk1 ho1 HS HK O0 hV QV
        go_wp2
        go_ret
        exact ⟨rfl, S1.out, K1.out, O1.out⟩

end Go.Proofs.Ytonmihojfcjmjab

/- Contracts of the statements' book: alike, noise. -/
namespace Go.Proofs.Ytonmihojfcjmjab
open Go.RowKit
set_option linter.unusedVariables false
attribute [local go_sem] cell_set_off cell_set_blk

theorem snapS_len {g : M.PGame} {ls : List M.Lf} {ps : Nat → Bool} {i : Nat} (hi : i < 8) (ht : (g.seat i).taken = true) : (g.snapS ls ps (i : Int)).2 = 0 ∧ 18 ≤ (g.snapS ls ps (i : Int)).1.size := by
  have hB : g.takenB (i : Int) = true := by unfold M.PGame.takenB; simp [ht]; omega
  unfold M.PGame.snapS
  rw [if_pos hB]
  refine ⟨rfl, ?_⟩
  obtain ⟨n, e⟩ := snap_head g ls ps i
  have l := rows_len g ls ps i 8 0 (by omega) (by omega)
  show 18 ≤ (g.snap ls ps (i : Int).toNat).toArray.size
  rw [Int.toNat_natCast, e]
  simp
  omega

set_option maxRecDepth 100000 in
set_option maxHeartbeats 2000000 in
theorem bAlike_any (k b c : Nat) (v u : Value) (ls : List M.Lf) (ps : Nat → Bool) (g : M.PGame) (bk : M.Book) (w : World) (hX : Sv w b v ls ps g) (hY : Sv w c u ls ps g) (hK : Bk w k bk) (hO : bk.Of g) :
    Calls Try.prog 12 #[.pointer (some ⟨k, 0, none⟩), .pointer (some ⟨b, 0, none⟩), .pointer (some ⟨c, 0, none⟩)] w fun e w' => e = .returned (.bool true) ∧ Below w.heap.size w w' := by
  have HX := hid hX
  have HY := hid hY
  have HK := hid hK
  have HO := hid hO
  clear hX hY hK hO
  go_enter Try.func12, Try.ntmps12
  go_wp2_with fail
  go_loopg [7, 8, 9, 10, 11] 9 (fun m u7 u8 u9 u10 u11 wr => ∃ j : Nat, u7 = .int .i64 j ∧ j ≤ 8 ∧ m + j = 9 ∧ Hid (Below w.heap.size w wr))
  case atStart => exact ⟨0, rfl, by omega, rfl, hid (Below.refl _ _)⟩
  case round =>
    obtain ⟨j, rfl, hj, hk, BW⟩ := hrel
    by_cases hlt8 : j < 8
    · have j0 : (0 : Int) ≤ (j : Int) := by omega
      have j1 : (j : Int) < 8 := by omega
      obtain ⟨S, hS⟩ : ∃ S, g.snapS ls ps (j : Int) = S := ⟨_, rfl⟩
      have HS := hid hS
      have e2 := HO.out.h j hlt8
      have hl : (g.seat j).taken = true → S.2 = 0 ∧ 18 ≤ S.1.size := fun h => by rw [← hS]; exact snapS_len hlt8 h
      have HL := hid hl
      clear hS hl
      go_wp2_with fail
      refine (sv_snap (HX.out.after BW.out) (j : Int) S HS).mono ?_
      rintro e w1 ⟨rfl, hb1⟩
      have B1 := hid (bl BW.out hb1)
      clear hb1
      go_wp2_with fail
      refine (sv_snap (HY.out.after B1.out) (j : Int) S HS).mono ?_
      rintro e w2 ⟨rfl, hb2⟩
      have B2 := hid (bl B1.out hb2)
      have K2 := hid (show Bk w2 k bk from Blk.after HK.out B2.out)
      have ch := K2.out.here hlt8
      clear hb2 B1 HS BW
      cases ht : (g.seat j).taken
      · rw [e2, ht] at ch
        clear HL ht e2
        go_wp2
        go_roundg (gk - 1)
        case measure => omega
        case rel => exact ⟨j + 1, by go_num, by omega, by omega, B2⟩
      · rw [e2, ht] at ch
        obtain ⟨l1, l2⟩ := HL.out ht
        have l3 : (18 : Int) ≤ (S.1.size : Int) := by omega
        clear HL ht e2
        go_wp2
        go_roundg (gk - 1)
        case measure => omega
        case rel => exact ⟨j + 1, by go_num, by omega, by omega, B2⟩
    · have j1 : ¬ (j : Int) < 8 := by omega
      obtain rfl : j = 8 := by omega
      go_wp2
      go_ret
      exact ⟨rfl, BW.out⟩

def M.noiseS : ByteArray := ⟨#[102, 105, 102, 116, 101, 101, 110, 32, 108, 101, 116, 116, 101, 114, 115]⟩
theorem packet_err {g : M.PGame} {slot : Int} {c : M.Cmd} {e : Int} (h : g.takenB slot = true) (he : e ≠ 0) : g.packet slot c e = (e, g) := by unfold M.PGame.packet; rw [if_neg (by simp [h]), if_pos he]
theorem dec_long (p : ByteArray) : M.decE (p ++ M.noiseS) = 2 := by
  unfold M.decE
  rw [if_pos]
  have : (p ++ M.noiseS).size = p.size + 15 := by rw [ByteArray.size_append]; rfl
  omega
theorem dec_none : M.decE ⟨#[]⟩ = 8 := by kernel_rfl

set_option maxRecDepth 100000 in
set_option maxHeartbeats 2000000 in
theorem bNoise_any (k b : Nat) (v : Value) (ls : List M.Lf) (ps : Nat → Bool) (g : M.PGame) (bk : M.Book) (slot : Int) (p : ByteArray) (r : Int) (w : World) (hS : Sv w b v ls ps g) (hK : Bk w k bk) (hO : bk.Of g) (hne : k ≠ b) (hs : p.size ≤ 140737488355328) (hA : g.packet slot (M.decR p) (M.decE p) = (if r = 0 then 9 else r, g)) :
    Calls Try.prog 10 #[.pointer (some ⟨k, 0, none⟩), .pointer (some ⟨b, 0, none⟩), .int .i64 slot, .string p, .int .i64 r] w (SvPost b v ls ps w (.bool true) g) := by
  obtain ⟨B, hB⟩ : ∃ B, g.takenB slot = B := ⟨_, rfl⟩
  have f1 : Hid (g.packet slot (M.decR (p ++ M.noiseS)) (M.decE (p ++ M.noiseS)) = (if B = true then 2 else 7, g)) := by
    unfold Hid; cases B
    · rw [packet_free hB]; rfl
    · rw [packet_err hB (by rw [dec_long]; decide), dec_long]; rfl
  have f2 : Hid (g.packet slot (M.decR ⟨#[]⟩) (M.decE ⟨#[]⟩) = (if B = true then 8 else 7, g)) := by
    unfold Hid; cases B
    · rw [packet_free hB]; rfl
    · rw [packet_err hB (by rw [dec_none]; decide), dec_none]; rfl
  obtain ⟨E1, hE1⟩ : ∃ E1 : Int, (if B = true then 2 else 7) = E1 := ⟨_, rfl⟩
  obtain ⟨E2, hE2⟩ : ∃ E2 : Int, (if B = true then 8 else 7) = E2 := ⟨_, rfl⟩
  rw [hE1] at f1
  rw [hE2] at f2
  have HE1 := hid hE1
  have HE2 := hid hE2
  clear hE1 hE2
  have f3 : Hid (g.packet 8 (M.decR p) (M.decE p) = (7, g)) := packet_free (by unfold M.PGame.takenB; simp)
  have f4 : Hid (g.packet (-1) (M.decR p) (M.decE p) = (7, g)) := packet_free (by unfold M.PGame.takenB; simp)
  have f5 := hid hA
  have h7 : B = false → (if r = 0 then (9 : Int) else r) = 7 := fun e => by
    have : g.packet slot (M.decR p) (M.decE p) = (7, g) := packet_free (by rw [hB, e])
    rw [hA] at this; exact congrArg Prod.fst this
  obtain ⟨A, hAe⟩ : ∃ A, (if r = 0 then (9 : Int) else r) = A := ⟨_, rfl⟩
  rw [hAe] at f5 h7
  have HAe := hid hAe
  have H7 := hid h7
  have HBk : Hid (bk.hasB slot = B) := by unfold Hid; rw [hO.has slot]; exact hB
  have HS := hid hS
  have HK := hid hK
  have HO := hid hO
  have sz : (p ++ M.noiseS).size ≤ maxLen := by rw [ByteArray.size_append]; show p.size + 15 ≤ maxLen; unfold maxLen; omega
  have sp : p.size ≤ maxLen := by unfold maxLen; omega
  clear hS hK hO hA hB hAe h7
  go_enter Try.func10, Try.ntmps10
  go_wp2_with fail
  have S0 := HS
  have K0 := HK
  have O0 := hid (On.refl b w)
  clear HS HK
  refine (bSent_any k b v ls ps g bk slot (p ++ M.noiseS) _ S0.out K0.out HO.out hne sz _ f1).mono ?_
  rintro e w1 ⟨rfl, hs1, ho1⟩
  have S1 := hid hs1
  have K1 := hid (show Bk w1 k bk from Blk.on K0.out ho1 hne)
  have O1 := hid (O0.out.trans ho1)
  clear hs1 ho1 S0 K0 O0 f1
  go_wp2_with fail
  refine (bSent_any k b v ls ps g bk slot ⟨#[]⟩ _ S1.out K1.out HO.out hne (by decide) _ f2).mono ?_
  rintro e w2 ⟨rfl, hs2, ho2⟩
  have S2 := hid hs2
  have K2 := hid (show Bk w2 k bk from Blk.on K1.out ho2 hne)
  have O2 := hid (O1.out.trans ho2)
  clear hs2 ho2 S1 K1 O1 f2
  go_wp2_with fail
  refine (sv_packet S2.out 8 p sp _ f3).mono ?_
  rintro e w3 ⟨rfl, hs3, ho3⟩
  have S3 := hid hs3
  have K3 := hid (show Bk w3 k bk from Blk.on K2.out ho3 hne)
  have O3 := hid (O2.out.trans ho3)
  clear hs3 ho3 S2 K2 O2 f3
  go_wp2_with fail
  refine (sv_packet S3.out (-1) p sp _ f4).mono ?_
  rintro e w4 ⟨rfl, hs4, ho4⟩
  have S4 := hid hs4
  have K4 := hid (show Bk w4 k bk from Blk.on K3.out ho4 hne)
  have O4 := hid (O3.out.trans ho4)
  clear hs4 ho4 S3 K3 O3 f4
  go_wp2_with fail
  refine (bSent_any k b v ls ps g bk slot p _ S4.out K4.out HO.out hne sp _ f5).mono ?_
  rintro e w5 ⟨rfl, hs5, ho5⟩
  have S5 := hid hs5
  have K5 := hid (show Bk w5 k bk from Blk.on K4.out ho5 hne)
  have O5 := hid (O4.out.trans ho5)
  clear hs5 ho5 S4 K4 O4 f5
  go_wp2_with fail
  refine (bHas_any k bk slot _ K5.out B HBk).mono ?_
  rintro e w6 ⟨rfl, rfl⟩
  cases B
  · have a7 : A = 7 := H7.out rfl
    subst a7
    obtain rfl : 7 = E1 := HE1.out
    obtain rfl : 7 = E2 := HE2.out
    clear H7 HE1 HE2
    go_wp2
    go_ret
    exact ⟨rfl, S5.out, O5.out⟩
  · obtain rfl : 2 = E1 := HE1.out
    obtain rfl : 8 = E2 := HE2.out
    clear H7 HE1 HE2
    by_cases hr : r = 0
    · have z : (r == 0) = true := by simp [hr]
      have a9 : A = 9 := by rw [← HAe.out, if_pos hr]
      subst a9
      clear HAe hr
      go_wp2
      go_ret
      exact ⟨rfl, S5.out, O5.out⟩
    · have z : (r == 0) = false := by simp [hr]
      have a9 : A = r := by rw [← HAe.out, if_neg hr]
      subst a9
      clear HAe hr
      go_wp2
      go_ret
      exact ⟨rfl, S5.out, O5.out⟩

end Go.Proofs.Ytonmihojfcjmjab
