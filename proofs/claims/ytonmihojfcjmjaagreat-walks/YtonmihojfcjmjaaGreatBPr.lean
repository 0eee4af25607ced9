import Derived.Test.YtonmihojfcjmjaaGreatBOk
import Derived.Test.YtonmihojfcjmjaaGreatBPh
import Derived.Test.YtonmihojfcjmjaaGreatBM
/- Contracts of the server's calls in package rewind. -/
namespace Go.Proofs.YtonmihojfcjmjaaGreat
open Go.RowKit
set_option linter.unusedVariables false
attribute [local go_sem] cell_set_off cell_set_blk
attribute [local go_sem ↓] big65 big65'

set_option maxHeartbeats 1000000 in
theorem sLeave_any (b : Nat) (mv : Value) (ps : Nat → Bool) (g : M.PGame) (slot : Int) (w : World) (h : Pg w b mv ps g) (F : Int × M.PGame) (hF : Hid (g.leave slot = F)) :
    Calls Tryz.prog 18 #[.pointer (some ⟨b, 0, none⟩), .int .i64 slot] w (ErrPost b mv ps w F) := by
  have H := hid (pLeave_any b mv ps g slot w h F hF)
  clear h hF
  go_enter Tryz.func18, Tryz.ntmps18
  go_wp2_with fail
  refine H.out.mono ?_
  rintro e w1 ⟨rfl, hp, ho⟩
  have P1 := hid hp
  clear hp H
  go_wp2
  go_ret
  exact ⟨rfl, P1.out, ho⟩

set_option maxHeartbeats 1000000 in
theorem sPacket_any (b : Nat) (mv : Value) (ps : Nat → Bool) (g : M.PGame) (slot : Int) (p : ByteArray) (w : World) (h : Pg w b mv ps g) (hs : p.size ≤ maxLen) (hw : ∀ j, j < 8 → 0 ≤ (g.seat j).waiting ∧ (g.seat j).waiting ≤ 4) (F : Int × M.PGame) (hF : Hid (g.packet slot (M.decR p) (M.decE p) = F)) :
    Calls Tryz.prog 20 #[.pointer (some ⟨b, 0, none⟩), .int .i64 slot, .string p] w (ErrPost b mv ps w F) := by
  have H := hid (pPacket_any b mv ps g slot p w h hs hw F hF)
  clear h hF hs hw
  go_enter Tryz.func20, Tryz.ntmps20
  go_wp2_with fail
  refine H.out.mono ?_
  rintro e w1 ⟨rfl, hp, ho⟩
  have P1 := hid hp
  clear hp H
  go_wp2
  go_ret
  exact ⟨rfl, P1.out, ho⟩

set_option maxHeartbeats 1000000 in
theorem sTick_any (b : Nat) (x : Option Addr) (n cap : Nat) (ps : Nat → Bool) (ls : List M.Lf) (g : M.PGame) (w : World) (h : Pg w b (.slice x n cap) ps g) (hown : w.ownsRow 0 137 7 (.slice x n cap) ls.length (flat ls)) (hne : ∀ k, (Value.slice x n cap).ownBlock = some k → k ≠ b) (hl : ls.length ≤ 512) (hc : ∀ l ∈ ls, l.lo.Cub ∧ l.hi.Cub)
    (hk : g.Ok) (F : Int × M.PGame) (hF : Hid (g.step ls = F)) :
    Calls Tryz.prog 40 #[.pointer (some ⟨b, 0, none⟩)] w (ErrPost b (.slice x n cap) ps w F) := by
  have H := hid (pTick_any b x n cap ps ls g w h hown hne hl hc hk F hF)
  clear h hF hown hne hc hk
  go_enter Tryz.func40, Tryz.ntmps40
  go_wp2_with fail
  refine H.out.mono ?_
  rintro e w1 ⟨rfl, hp, ho⟩
  have P1 := hid hp
  clear hp H
  go_wp2
  go_ret
  exact ⟨rfl, P1.out, ho⟩

set_option maxHeartbeats 1000000 in
theorem sSnap_no (b : Nat) (mv : Value) (ps : Nat → Bool) (g : M.PGame) (slot : Int) (w : World) (h : Pg w b mv ps g) (ht : Hid (g.takenB slot = false)) :
    Calls Tryz.prog 23 #[.pointer (some ⟨b, 0, none⟩), .int .i64 slot] w fun e w' => e = .returned (.tuple #[.string ⟨#[]⟩, .int .i64 7]) ∧ Below w.heap.size w w' := by
  have H := hid (pSnap_no b mv ps g slot w h ht)
  clear h ht
  go_enter Tryz.func23, Tryz.ntmps23
  go_wp2_with fail
  refine H.out.mono ?_
  rintro e w1 ⟨rfl, hb⟩
  go_wp2
  go_ret2
  exact ⟨rfl, hb⟩

set_option maxHeartbeats 1000000 in
theorem sLeave_nil (slot : Int) (w : World) : Calls Tryz.prog 18 #[.pointer none, .int .i64 slot] w fun e w' => e = .returned (.int .i64 1) ∧ w' = w := by
  go_enter Tryz.func18, Tryz.ntmps18
  go_wp2
  go_ret
  exact ⟨rfl, rfl⟩
set_option maxHeartbeats 1000000 in
theorem sPacket_nil (slot : Int) (p : ByteArray) (w : World) : Calls Tryz.prog 20 #[.pointer none, .int .i64 slot, .string p] w fun e w' => e = .returned (.int .i64 1) ∧ w' = w := by
  go_enter Tryz.func20, Tryz.ntmps20
  go_wp2
  go_ret
  exact ⟨rfl, rfl⟩
set_option maxHeartbeats 1000000 in
theorem sTick_nil (w : World) : Calls Tryz.prog 40 #[.pointer none] w fun e w' => e = .returned (.int .i64 1) ∧ w' = w := by
  go_enter Tryz.func40, Tryz.ntmps40
  go_wp2
  go_ret
  exact ⟨rfl, rfl⟩
set_option maxHeartbeats 1000000 in
theorem sSnap_nil (slot : Int) (w : World) : Calls Tryz.prog 23 #[.pointer none, .int .i64 slot] w fun e w' => e = .returned (.tuple #[.string ⟨#[]⟩, .int .i64 1]) ∧ w' = w := by
  go_enter Tryz.func23, Tryz.ntmps23
  go_wp2
  go_ret2
  exact ⟨rfl, rfl⟩


end Go.Proofs.YtonmihojfcjmjaaGreat

/- Two players on a map of two zones: contracts of the statement's helpers. -/
namespace Go.Proofs.YtonmihojfcjmjaaGreat
open Go.RowKit
set_option linter.unusedVariables false
attribute [local go_sem] cell_set_off cell_set_blk
attribute [local go_sem ↓] big65 big65'

theorem tmod_pick {c n : Int} (hn : 0 < n) (h : c < 0) : 0 ≤ -(c + 1).tmod n ∧ -(c + 1).tmod n < n := by
  have e : -(c + 1).tmod n = (-(c + 1)) % n := by rw [← Int.neg_tmod, Int.tmod_eq_emod_of_nonneg (by omega)]
  rw [e]
  exact ⟨Int.emod_nonneg _ (by omega), Int.emod_lt_of_pos _ hn⟩

set_option maxRecDepth 100000 in
set_option maxHeartbeats 1000000 in
theorem sConnect_any (b : Nat) (x : Option Addr) (n cap : Nat) (ps : Nat → Bool) (ls : List M.Lf) (g : M.PGame) (p : M.V3) (w : World) (h : Pg w b (.slice x n cap) ps g) (hown : w.ownsRow 0 137 7 (.slice x n cap) ls.length (flat ls)) (hl : ls.length ≤ 512) (hg : ∀ j, j < 8 → 0 ≤ (g.seat j).gen ∧ (g.seat j).gen ≤ 255) (F : Int × Int × M.PGame) (hF : Hid (g.connect (M.inCube p && decide (0 ≤ M.zP p ls (-1))) p = F)) :
    Calls Tryz.prog 16 #[.pointer (some ⟨b, 0, none⟩), .agg #[.int .i64 p.x, .int .i64 p.y, .int .i64 p.z]] w fun e w' => e = .returned (.tuple #[.int .i64 F.1, .int .i64 F.2.1]) ∧ Pg w' b (.slice x n cap) ps F.2.2 ∧ On b w w' := by
  have HP := hid h
  have HO := hid hown
  have HG := hid hg
  have hlt := h.lt
  clear h hown hg
  go_enter Tryz.func16, Tryz.ntmps16
  go_wp2_with fail
  obtain ⟨W, hW⟩ : ∃ W, w.alloc (.cells #[.int .i64 p.x, .int .i64 p.y, .int .i64 p.z] 27) = W := ⟨_, rfl⟩
  have q0 : Blk W w.heap.size #[.int .i64 p.x, .int .i64 p.y, .int .i64 p.z] 27 := by rw [← hW]; exact Blk.new rfl
  have B0 : Below w.heap.size w W := by rw [← hW]; go_grown
  rw [hW]
  clear hW
  have PA := hid (HP.out.after B0)
  have OA := hid (own_of HO.out (fun k hk => B0.block k (own_lt HO.out hk)))
  have Q0 := hid q0
  obtain ⟨a0, a1, a2, af, al⟩ := q0.three
  go_region_held3 (fun w' => w'.cell? ⟨w.heap.size, 0, none⟩ = some (.int .i64 p.x) ∧ w'.cell? ⟨w.heap.size, 1, none⟩ = some (.int .i64 p.y) ∧ w'.cell? ⟨w.heap.size, 2, none⟩ = some (.int .i64 p.z)) (go_keep)
    ((go_at_call 32; refine (pConnect_any b x n cap ps ls g p W.drew (PA.out.of rfl PA.out.lt) (own_of OA.out (fun k hk => rfl)) hl HG.out).mono ?_; rw [hF.out]; rintro e w1 ⟨rfl, hp, ho⟩; obtain ⟨m0, m1, m2, mf, mz⟩ := (Q0.out.on ho.undrew (by omega)).three))
  have O1 : On b w w1 := (On.below B0).trans ho.undrew
  have HP1 := hid hp
  clear hp ho m0 m1 m2 mf mz a0 a1 a2 af al
  go_wp2
  go_ret2
  exact ⟨rfl, HP1.out, O1⟩

set_option maxHeartbeats 1000000 in
theorem sSnap_yes (b i : Nat) (x : Option Addr) (n cap : Nat) (ps : Nat → Bool) (ls : List M.Lf) (g : M.PGame) (w : World) (h : Pg w b (.slice x n cap) ps g) (hown : w.ownsRow 0 137 7 (.slice x n cap) ls.length (flat ls)) (hl : ls.length ≤ 512)
    (hi : i < 8) (ht : (g.seat i).taken = true) (hs : ∀ j, j < 8 → M.PSane (g.seat j)) (hr : (g.seat i).ready ≤ g.tick + 3) (t0 : 0 ≤ g.tick) (t1 : g.tick ≤ 3000) :
    Calls Tryz.prog 23 #[.pointer (some ⟨b, 0, none⟩), .int .i64 i] w fun e w' => e = .returned (.tuple #[.string ⟨(g.snap ls ps i).toArray⟩, .int .i64 0]) ∧ Below w.heap.size w w' := by
  have H := hid (pSnap_yes b i x n cap ps ls g w h hown hl hi ht hs hr t0 t1)
  clear h hown hs hr t0 t1 ht
  go_enter Tryz.func23, Tryz.ntmps23
  go_wp2_with fail
  refine H.out.mono ?_
  rintro e w1 ⟨rfl, hb⟩
  go_wp2
  go_ret2
  exact ⟨rfl, hb⟩

/-- The game of two. -/
def M.duel (p q : M.V3) : M.PGame := (M.PGame.fresh.put 0 ((M.PSeat.empty 0).give p)).put 1 ((M.PSeat.empty 0).give q)
theorem duel1 (p : M.V3) : M.PGame.fresh.connect true p = (0, 0, M.PGame.fresh.put 0 ((M.PSeat.empty 0).give p)) := rfl
theorem duel2 (p q : M.V3) : (M.PGame.fresh.put 0 ((M.PSeat.empty 0).give p)).connect true q = (1, 0, M.duel p q) := rfl

/-- What pairOf gives back, where there are two. -/
def PairPost2 (ls : List M.Lf) (ps : Nat → Bool) (p q : M.V3) (w : World) (r : Ending) (w' : World) : Prop := Below w.heap.size w w' ∧
  ∃ (b : Nat) (x : Option Addr) (n cap : Nat), r = .returned (.tuple #[.pointer (some ⟨b, 0, none⟩), .bool true]) ∧ Pg w' b (.slice x n cap) ps (M.duel p q) ∧ w'.ownsRow 0 137 7 (.slice x n cap) ls.length (flat ls) ∧ w.heap.size ≤ b ∧ ∀ k, (Value.slice x n cap).ownBlock = some k → k ≠ b ∧ w.heap.size ≤ k


end Go.Proofs.YtonmihojfcjmjaaGreat

/- A server, with its map: every call of it, over plain data. -/
namespace Go.Proofs.YtonmihojfcjmjaaGreat
open Go.RowKit
set_option linter.unusedVariables false

/-- In block b lies a server whose map has the leaves ls (in the slice v) and the pairs ps; g is its game. -/
structure Sv (W : World) (b : Nat) (v : Value) (ls : List M.Lf) (ps : Nat → Bool) (g : M.PGame) : Prop where
  sl : ∃ x n cap, v = .slice x n cap
  pg : Pg W b v ps g
  own : W.ownsRow 0 137 7 v ls.length (flat ls)
  ne : ∀ k, v.ownBlock = some k → k ≠ b
  hl : ls.length ≤ 512
  hc : ∀ l ∈ ls, l.lo.Cub ∧ l.hi.Cub
  ok : g.Ok

/-- Only blocks of S have changed, and new blocks have come. -/
structure OnS (S : Nat → Prop) (w w' : World) : Prop where
  os : w'.os = w.os
  tape : w'.tape = w.tape
  output : w'.output = w.output
  size : w.heap.size ≤ w'.heap.size
  block : ∀ k, k < w.heap.size → ¬ S k → w'.heap[k]? = w.heap[k]?
theorem OnS.refl (S : Nat → Prop) (w : World) : OnS S w w := ⟨rfl, rfl, rfl, Nat.le_refl _, fun _ _ _ => rfl⟩
theorem OnS.trans {S : Nat → Prop} {w w' w'' : World} (h : OnS S w w') (k : OnS S w' w'') : OnS S w w'' :=
  ⟨k.os.trans h.os, k.tape.trans h.tape, k.output.trans h.output, Nat.le_trans h.size k.size, fun j hj hb => (k.block j (by have := h.size; omega) hb).trans (h.block j hj hb)⟩
theorem OnS.below {S : Nat → Prop} {w w' : World} (h : Below w.heap.size w w') : OnS S w w' := ⟨h.os, h.tape, h.output, h.size, fun k hk _ => h.block k hk⟩
theorem OnS.on {S : Nat → Prop} {b : Nat} {w w' : World} (h : On b w w') (hb : S b) : OnS S w w' := ⟨h.os, h.tape, h.output, h.size, fun k hk hs => h.block k hk (fun e => hs (e ▸ hb))⟩
theorem OnS.mono {S T : Nat → Prop} {w w' : World} (h : OnS S w w') (hs : ∀ k, S k → T k) : OnS T w w' := ⟨h.os, h.tape, h.output, h.size, fun k hk hn => h.block k hk (fun e => hn (hs k e))⟩
theorem OnS.toBelow {S : Nat → Prop} {B : Nat} {w W W' : World} (hw : Below B w W) (hB : B ≤ W.heap.size) (h : OnS S W W') (hb : ∀ k, S k → B ≤ k) : Below B w W' :=
  hw.trans ⟨h.os, h.tape, h.output, h.size, fun k hk => h.block k (by omega) (fun e => by have := hb k e; omega)⟩
theorem Blk.onS {S : Nat → Prop} {W W' : World} {k : Nat} {cs : Array Value} {t : TypeId} (h : Blk W k cs t) (ho : OnS S W W') (hne : ¬ S k) : Blk W' k cs t := ⟨by rw [ho.block k h.lt hne]; exact h.at_⟩

theorem Sv.onS {S : Nat → Prop} {W W' : World} {b : Nat} {v : Value} {ls : List M.Lf} {ps : Nat → Bool} {g : M.PGame} (h : Sv W b v ls ps g) (ho : OnS S W W') (hb : ¬ S b) (hr : ∀ k, v.ownBlock = some k → ¬ S k) : Sv W' b v ls ps g :=
  ⟨h.sl, h.pg.of (ho.block b h.pg.lt hb) (by have := ho.size; have := h.pg.lt; omega), own_of h.own (fun k hk => ho.block k (own_lt h.own hk) (hr k hk)), h.ne, h.hl, h.hc, h.ok⟩
theorem Sv.on {W W' : World} {b k : Nat} {v : Value} {ls : List M.Lf} {ps : Nat → Bool} {g : M.PGame} (h : Sv W b v ls ps g) (ho : On k W W') (hb : b ≠ k) (hr : ∀ j, v.ownBlock = some j → j ≠ k) : Sv W' b v ls ps g :=
  h.onS (S := fun j => j = k) (OnS.on ho rfl) hb hr
theorem Sv.after {W W' : World} {b : Nat} {v : Value} {ls : List M.Lf} {ps : Nat → Bool} {g : M.PGame} (h : Sv W b v ls ps g) (hb : Below W.heap.size W W') : Sv W' b v ls ps g :=
  h.onS (S := fun _ => False) (OnS.below hb) (fun e => e) (fun _ _ e => e)
theorem Sv.next {W W' : World} {b : Nat} {v : Value} {ls : List M.Lf} {ps : Nat → Bool} {g g' : M.PGame} (h : Sv W b v ls ps g) (hp : Pg W' b v ps g') (ho : On b W W') (hk : g'.Ok) : Sv W' b v ls ps g' :=
  ⟨h.sl, hp, own_of h.own (fun k hk => ho.block k (own_lt h.own hk) (h.ne k hk)), h.ne, h.hl, h.hc, hk⟩

theorem M.PSeat.Ok.sane {s : M.PSeat} (h : s.Ok) : M.PSane s := ⟨h.g0, h.g1, h.h0, h.h1, h.a0, h.a1, h.r0, h.r1, h.place⟩
theorem M.PGame.Ok.packet {g : M.PGame} (h : g.Ok) (slot : Int) (p : ByteArray) : (g.packet slot (M.decR p) (M.decE p)).2.Ok := by
  unfold M.PGame.packet
  split
  · exact h
  split
  · exact h
  split
  · exact h
  split
  · exact h
  · rename_i h4
    exact h.put ((h.s _).put (M.decR_ok p) h4) (h.r _)

variable {b : Nat} {v : Value} {ls : List M.Lf} {ps : Nat → Bool} {g : M.PGame} {w : World}
/-- A call's answer, the game behind it, and that only the server's block has changed. -/
def SvPost (b : Nat) (v : Value) (ls : List M.Lf) (ps : Nat → Bool) (w : World) (r : Value) (g : M.PGame) (e : Ending) (w' : World) : Prop := e = .returned r ∧ Sv w' b v ls ps g ∧ On b w w'

theorem sv_connect (h : Sv w b v ls ps g) (p : M.V3) (F : Int × Int × M.PGame) (hF : Hid (g.connect (M.inCube p && decide (0 ≤ M.zP p ls (-1))) p = F)) :
    Calls Tryz.prog 16 #[.pointer (some ⟨b, 0, none⟩), .agg #[.int .i64 p.x, .int .i64 p.y, .int .i64 p.z]] w (SvPost b v ls ps w (.tuple #[.int .i64 F.1, .int .i64 F.2.1]) F.2.2) := by
  obtain ⟨x, n, cap, rfl⟩ := h.sl
  refine (sConnect_any b x n cap ps ls g p w h.pg h.own h.hl (fun j _ => ⟨(h.ok.s j).g0, (h.ok.s j).g1⟩) F hF).mono ?_
  rintro e w' ⟨rfl, hp, ho⟩
  refine ⟨rfl, h.next hp ho ?_, ho⟩
  rw [← hF.out]
  refine h.ok.connect (fun hc => ?_)
  rw [Bool.and_eq_true] at hc
  exact (M.inCube_iff _).1 hc.1
theorem sv_leave (h : Sv w b v ls ps g) (slot : Int) (F : Int × M.PGame) (hF : Hid (g.leave slot = F)) :
    Calls Tryz.prog 18 #[.pointer (some ⟨b, 0, none⟩), .int .i64 slot] w (SvPost b v ls ps w (.int .i64 F.1) F.2) := by
  refine (sLeave_any b v ps g slot w h.pg F hF).mono ?_
  rintro e w' ⟨rfl, hp, ho⟩
  exact ⟨rfl, h.next hp ho (hF.out ▸ h.ok.leave slot), ho⟩
theorem sv_packet (h : Sv w b v ls ps g) (slot : Int) (p : ByteArray) (hs : p.size ≤ maxLen) (F : Int × M.PGame) (hF : Hid (g.packet slot (M.decR p) (M.decE p) = F)) :
    Calls Tryz.prog 20 #[.pointer (some ⟨b, 0, none⟩), .int .i64 slot, .string p] w (SvPost b v ls ps w (.int .i64 F.1) F.2) := by
  refine (sPacket_any b v ps g slot p w h.pg hs (fun j _ => ⟨(h.ok.s j).w0, (h.ok.s j).w1⟩) F hF).mono ?_
  rintro e w' ⟨rfl, hp, ho⟩
  exact ⟨rfl, h.next hp ho (hF.out ▸ h.ok.packet slot p), ho⟩
theorem sv_tick (h : Sv w b v ls ps g) (F : Int × M.PGame) (hF : Hid (g.step ls = F)) :
    Calls Tryz.prog 40 #[.pointer (some ⟨b, 0, none⟩)] w (SvPost b v ls ps w (.int .i64 F.1) F.2) := by
  obtain ⟨x, n, cap, rfl⟩ := h.sl
  refine (sTick_any b x n cap ps ls g w h.pg h.own h.ne h.hl h.hc h.ok F hF).mono ?_
  rintro e w' ⟨rfl, hp, ho⟩
  exact ⟨rfl, h.next hp ho (hF.out ▸ h.ok.step ls), ho⟩
/-- What Snapshot tells, of all numbers. -/
def M.PGame.snapS (g : M.PGame) (ls : List M.Lf) (ps : Nat → Bool) (slot : Int) : ByteArray × Int := if g.takenB slot = true then (⟨(g.snap ls ps slot.toNat).toArray⟩, 0) else (⟨#[]⟩, 7)
theorem sv_snap (h : Sv w b v ls ps g) (slot : Int) (S : ByteArray × Int) (hS : Hid (g.snapS ls ps slot = S)) :
    Calls Tryz.prog 23 #[.pointer (some ⟨b, 0, none⟩), .int .i64 slot] w fun e w' => e = .returned (.tuple #[.string S.1, .int .i64 S.2]) ∧ Below w.heap.size w w' := by
  cases ht : g.takenB slot
  · obtain rfl : (⟨#[]⟩, 7) = S := by rw [← hS.out]; unfold M.PGame.snapS; rw [if_neg (by simp [ht])]
    exact sSnap_no b v ps g slot w h.pg ht
  · obtain ⟨i, rfl, hi, hti⟩ := taken_nat ht
    obtain rfl : (⟨(g.snap ls ps i).toArray⟩, 0) = S := by rw [← hS.out]; unfold M.PGame.snapS; rw [if_pos ht]; rfl
    obtain ⟨x, n, cap, rfl⟩ := h.sl
    exact sSnap_yes b i x n cap ps ls g w h.pg h.own h.hl hi hti (fun j _ => (h.ok.s j).sane) (h.ok.r i) h.ok.t0 h.ok.t1

/-- New, where the text is a map. -/
theorem sv_new (s : ByteArray) (w : World) (hm : s.size ≤ 512) (he : M.errS s = (0, 0)) (ls : List M.Lf) (hls : (M.top s).2.leaves = ls) (hl : ls.length ≤ 512) (hc : ∀ l ∈ ls, l.lo.Cub ∧ l.hi.Cub) :
    Calls Tryz.prog 7 #[.string s] w fun e w' => Below w.heap.size w w' ∧ ∃ (b : Nat) (v : Value), e = .returned (.tuple #[.pointer (some ⟨b, 0, none⟩), .int .i64 0]) ∧ w.heap.size ≤ b ∧ Sv w' b v ls (M.prs s) M.PGame.fresh ∧ ∀ k, v.ownBlock = some k → w.heap.size ≤ k := by
  refine (new_any s w (by unfold maxLen; omega)).mono ?_
  rintro e w' ⟨hb, h⟩
  refine ⟨hb, ?_⟩
  rcases h with ⟨h, _⟩ | ⟨_, b, x, n, cap, rfl, h2, h3, h4, h5⟩
  · rw [he] at h; exact absurd rfl h
  · rw [hls] at h4
    exact ⟨b, .slice x n cap, rfl, h2, ⟨⟨x, n, cap, rfl⟩, h3, h4, fun k hk => (h5 k hk).1, hl, hc, M.PGame.Ok.fresh⟩, fun k hk => (h5 k hk).2⟩

end Go.Proofs.YtonmihojfcjmjaaGreat

/- Contracts of the server's calls in package rewind: Now. -/
namespace Go.Proofs.YtonmihojfcjmjaaGreat
open Go.RowKit
set_option linter.unusedVariables false
attribute [local go_sem] cell_set_off cell_set_blk
attribute [local go_sem ↓] big65 big65'

set_option maxHeartbeats 1000000 in
theorem sNow_any (b : Nat) (mv : Value) (ps : Nat → Bool) (g : M.PGame) (w : World) (h : Pg w b mv ps g) : Calls Tryz.prog 25 #[.pointer (some ⟨b, 0, none⟩)] w fun e w' => e = .returned (.int .i64 g.tick) ∧ w' = w := by
  have c65 := h.ct
  clear h
  have H := hid (show Calls Tryz.prog 46 #[.pointer (some ⟨b, 0, none⟩)] w fun e w' => e = .returned (.int .i64 g.tick) ∧ w' = w from by
    go_enter Tryz.func46, Tryz.ntmps46
    go_wp2
    go_ret
    exact ⟨rfl, rfl⟩)
  go_enter Tryz.func25, Tryz.ntmps25
  go_wp2_with fail
  refine H.out.mono ?_
  rintro e w1 ⟨rfl, rfl⟩
  go_wp2
  go_ret
  exact ⟨rfl, rfl⟩

end Go.Proofs.YtonmihojfcjmjaaGreat
