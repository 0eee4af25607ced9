import Derived.Test.YtonmihojfcjmjaaGreatDd4
import Derived.Test.YtonmihojfcjmjaaGreatBGb
import Derived.Test.YtonmihojfcjmjaaGreatGr8
import Derived.Test.YtonmihojfcjmjaaGreatBZb
import Derived.Test.YtonmihojfcjmjaaGreatBPr
import Derived.Test.YtonmihojfcjmjaaGreatBPm
import Derived.Deep.RegionLaw
import Derived.Deep.DeepCutAuto
import Derived.Test.YtonmihojfcjmjaaGreatGr10
import Derived.Test.YtonmihojfcjmjaaGreatBSa
/- The document's game in memory, with all that it owns: Connect, Disconnect, Snapshot, Now. -/
namespace Go.Proofs.YtonmihojfcjmjaaGreat
open Go.RowKit
set_option linter.unusedVariables false
attribute [local go_sem] cell_set_off cell_set_blk

/-- The blocks of a game, by number. -/
def gFp (b : Nat) (lv gv : Value) (wv : Nat → Value) (i : Nat) : Option Nat := if i = 0 then some b else if i = 1 then lv.ownBlock else if i = 2 then gv.ownBlock else if i < 11 then (wv (i - 3)).ownBlock else Option.none
theorem gFp_w (b : Nat) (lv gv : Value) (wv : Nat → Value) {i : Nat} (hi : i < 8) : gFp b lv gv wv (i + 3) = (wv i).ownBlock := by
  unfold gFp
  rw [if_neg (by omega), if_neg (by omega), if_neg (by omega), if_pos (by omega)]
  rfl
theorem gFp_is {b : Nat} {lv gv : Value} {wv : Nat → Value} {i k : Nat} (hk : gFp b lv gv wv i = some k) : (i = 0 ∧ b = k) ∨ (i = 1 ∧ lv.ownBlock = some k) ∨ (i = 2 ∧ gv.ownBlock = some k) ∨ ∃ j, j < 8 ∧ i = j + 3 ∧ (wv j).ownBlock = some k := by
  unfold gFp at hk
  by_cases e0 : i = 0
  · rw [if_pos e0] at hk; exact .inl ⟨e0, by simpa using hk⟩
  rw [if_neg e0] at hk
  by_cases e1 : i = 1
  · rw [if_pos e1] at hk; exact .inr (.inl ⟨e1, hk⟩)
  rw [if_neg e1] at hk
  by_cases e2 : i = 2
  · rw [if_pos e2] at hk; exact .inr (.inr (.inl ⟨e2, hk⟩))
  rw [if_neg e2] at hk
  by_cases e3 : i < 11
  · rw [if_pos e3] at hk; exact .inr (.inr (.inr ⟨i - 3, by omega, by omega, hk⟩))
  · rw [if_neg e3] at hk; cases hk

/-- In block b lies the document's game g; all that it owns lies in blocks of S. -/
structure Gd (W : World) (S : Nat → Prop) (b : Nat) (lv gv : Value) (wv : Nat → Value) (g : M.Game) : Prop where
  gc : Gc W b (.string g.map) lv (.int .i64 g.tick) gv (fun i => seatV (g.seat i) (wv i))
  ls : ∃ x n c, lv = .slice x n c
  lf : W.ownsRow 0 93 7 lv g.leafs.length (flat g.leafs)
  lg : W.ownsRow 0 125 6 gv g.log.length (trks g.log)
  wt : ∀ i, i < 8 → W.ownsRow 0 50 9 (wv i) (g.seat i).wait.length (cmds (g.seat i).wait)
  ws : ∀ i, ∃ x n c, wv i = .slice x n c
  ap : ∀ i j k, gFp b lv gv wv i = some k → gFp b lv gv wv j = some k → i = j
  fp : ∀ i k, gFp b lv gv wv i = some k → S k

theorem Gd.lt {W : World} {S : Nat → Prop} {b : Nat} {lv gv : Value} {wv : Nat → Value} {g : M.Game} (h : Gd W S b lv gv wv g) {i k : Nat} (hk : gFp b lv gv wv i = some k) : k < W.heap.size := by
  rcases gFp_is hk with ⟨_, e⟩ | ⟨_, e⟩ | ⟨_, e⟩ | ⟨j, hj, _, e⟩
  · rw [← e]; exact h.gc.lt
  · exact own_lt h.lf e
  · exact own_lt h.lg e
  · exact own_lt (h.wt j hj) e
theorem Gd.sb {W : World} {S : Nat → Prop} {b : Nat} {lv gv : Value} {wv : Nat → Value} {g : M.Game} (h : Gd W S b lv gv wv g) : S b := h.fp 0 b rfl
theorem Gd.lne {W : World} {S : Nat → Prop} {b : Nat} {lv gv : Value} {wv : Nat → Value} {g : M.Game} (h : Gd W S b lv gv wv g) : ∀ k, lv.ownBlock = some k → k ≠ b := fun k hk e => by
  have := h.ap 1 0 k hk (by rw [e]; rfl)
  cases this
theorem Gd.gne {W : World} {S : Nat → Prop} {b : Nat} {lv gv : Value} {wv : Nat → Value} {g : M.Game} (h : Gd W S b lv gv wv g) : ∀ k, gv.ownBlock = some k → k ≠ b := fun k hk e => by
  have := h.ap 2 0 k hk (by rw [e]; rfl)
  cases this
theorem Gd.wne {W : World} {S : Nat → Prop} {b : Nat} {lv gv : Value} {wv : Nat → Value} {g : M.Game} (h : Gd W S b lv gv wv g) {i : Nat} (hi : i < 8) : ∀ k, (wv i).ownBlock = some k → k ≠ b := fun k hk e => by
  have := h.ap (i + 3) 0 k (by rw [gFp_w b lv gv wv hi]; exact hk) (by rw [e]; rfl)
  cases this
/-- What is elsewhere changes nothing. -/
theorem Gd.onS {W W' : World} {S T : Nat → Prop} {b : Nat} {lv gv : Value} {wv : Nat → Value} {g : M.Game} (h : Gd W S b lv gv wv g) (ho : OnS T W W') (hd : ∀ k, S k → ¬ T k) : Gd W' S b lv gv wv g := by
  have e : ∀ i k, gFp b lv gv wv i = some k → W'.heap[k]? = W.heap[k]? := fun i k hk => ho.block k (h.lt hk) (hd k (h.fp i k hk))
  exact ⟨h.gc.of (e 0 b rfl) (by have := h.gc.lt; have := ho.size; omega), h.ls, own_of h.lf (fun k hk => e 1 k hk), own_of h.lg (fun k hk => e 2 k hk), fun i hi => own_of (h.wt i hi) (fun k hk => e (i + 3) k (by rw [gFp_w b lv gv wv hi]; exact hk)), h.ws, h.ap, h.fp⟩
theorem Gd.after {W W' : World} {S : Nat → Prop} {b : Nat} {lv gv : Value} {wv : Nat → Value} {g : M.Game} (h : Gd W S b lv gv wv g) (hb : Below W.heap.size W W') : Gd W' S b lv gv wv g :=
  h.onS (T := fun _ => False) (OnS.below hb) (fun _ _ e => e)
theorem Gd.more {W : World} {S T : Nat → Prop} {b : Nat} {lv gv : Value} {wv : Nat → Value} {g : M.Game} (h : Gd W S b lv gv wv g) (ht : ∀ k, S k → T k) : Gd W T b lv gv wv g :=
  ⟨h.gc, h.ls, h.lf, h.lg, h.wt, h.ws, h.ap, fun i k hk => ht k (h.fp i k hk)⟩
/-- Only the slots have changed, some queues are gone. -/
theorem Gd.seats {W W' : World} {S : Nat → Prop} {b : Nat} {lv gv : Value} {wv wv' : Nat → Value} {g g' : M.Game} (h : Gd W S b lv gv wv g) (ho : On b W W') (hm : g'.map = g.map) (hl : g'.leafs = g.leafs) (hg : g'.log = g.log)
    (hc : Gc W' b (.string g'.map) lv (.int .i64 g'.tick) gv (fun i => seatV (g'.seat i) (wv' i))) (hw : ∀ i, (wv' i = wv i ∧ (g'.seat i).wait = (g.seat i).wait) ∨ (wv' i = .slice none 0 0 ∧ (g'.seat i).wait = [])) : Gd W' S b lv gv wv' g' := by
  have sub : ∀ i k, gFp b lv gv wv' i = some k → gFp b lv gv wv i = some k := fun i k hk => by
    rcases gFp_is hk with ⟨rfl, e⟩ | ⟨rfl, e⟩ | ⟨rfl, e⟩ | ⟨j, hj, rfl, e⟩
    · rw [← e]; rfl
    · exact e
    · exact e
    · rw [gFp_w b lv gv wv hj]
      rcases hw j with q | q
      · rw [q.1] at e; exact e
      · rw [q.1] at e; cases e
  refine ⟨hc, h.ls, ?_, ?_, fun i hi => ?_, fun i => ?_, fun i j k h1 h2 => h.ap i j k (sub i k h1) (sub j k h2), fun i k hk => h.fp i k (sub i k hk)⟩
  · rw [hl]; exact own_of h.lf (fun k hk => ho.block k (own_lt h.lf hk) (h.lne k hk))
  · rw [hg]; exact own_of h.lg (fun k hk => ho.block k (own_lt h.lg hk) (h.gne k hk))
  · rcases hw i with e | e
    · rw [e.1, e.2]; exact own_of (h.wt i hi) (fun k hk => ho.block k (own_lt (h.wt i hi) hk) (h.wne hi k hk))
    · rw [e.1, e.2]; exact ⟨rfl, .inl ⟨rfl, rfl⟩⟩
  · rcases hw i with e | e
    · rw [e.1]; exact h.ws i
    · rw [e.1]; exact ⟨_, _, _, rfl⟩

/-- A call's answer, the game behind it, and what has changed. -/
def GdPost (S : Nat → Prop) (b : Nat) (lv : Value) (w : World) (r : Value) (g : M.Game) (e : Ending) (w' : World) : Prop :=
  e = .returned r ∧ OnS S w w' ∧ ∃ gv wv, Gd w' (fun k => S k ∨ (w.heap.size ≤ k ∧ k < w'.heap.size)) b lv gv wv g

theorem connect_keep (g : M.Game) (p : M.V3) : (g.connect p).2.2.map = g.map ∧ (g.connect p).2.2.leafs = g.leafs ∧ (g.connect p).2.2.log = g.log ∧ (g.connect p).2.2.tick = g.tick := by
  unfold M.Game.connect
  split
  · exact ⟨rfl, rfl, rfl, rfl⟩
  split <;> exact ⟨rfl, rfl, rfl, rfl⟩
theorem leave_keep (g : M.Game) (s : Int) : (g.leave s).2.map = g.map ∧ (g.leave s).2.leafs = g.leafs ∧ (g.leave s).2.log = g.log ∧ (g.leave s).2.tick = g.tick := by
  unfold M.Game.leave
  split <;> exact ⟨rfl, rfl, rfl, rfl⟩

variable {S : Nat → Prop} {b : Nat} {lv gv : Value} {wv : Nat → Value} {g : M.Game} {w : World}
theorem dg_connect (h : Gd w S b lv gv wv g) (hf : g.Fit) (p : M.V3) :
    Calls Tryz.prog 17 #[.pointer (some ⟨b, 0, none⟩), .agg #[.int .i64 p.x, .int .i64 p.y, .int .i64 p.z]] w (GdPost S b lv w (.tuple #[.int .i64 (g.connect p).1, .int .i64 (g.connect p).2.1]) (g.connect p).2.2) := by
  obtain ⟨lx, ln, lc, rfl⟩ := h.ls
  refine (gConnect_any b (.string g.map) (.int .i64 g.tick) gv lx ln lc g wv p w h.gc h.ws (fun i hi => ⟨(hf.s i hi).g1, (hf.s i hi).g2⟩) (fun W => W.ownsRow 0 93 7 (.slice lx ln lc) g.leafs.length (flat g.leafs)) h.lf (fun W W' hr hb => own_of hr (fun k hk => hb.block k (own_lt hr hk)))
    (fun W => rcube_is p W _ (hid rfl)) (fun W hr => zoneOf_any lx ln lc 0 g.leafs p W hr hf.ll)).mono ?_
  rintro e w' ⟨rfl, ho, wv', hg, hw⟩
  obtain ⟨k1, k2, k3, k4⟩ := connect_keep g p
  refine ⟨rfl, OnS.on ho h.sb, gv, wv', (h.seats ho k1 k2 k3 ?_ hw).more (fun k hk => .inl hk)⟩
  rw [k1, k4]; exact hg
theorem dg_leave (h : Gd w S b lv gv wv g) (slot : Int) :
    Calls Tryz.prog 19 #[.pointer (some ⟨b, 0, none⟩), .int .i64 slot] w (GdPost S b lv w (.int .i64 (g.leave slot).1) (g.leave slot).2) := by
  refine (gLeave_any b (.string g.map) lv (.int .i64 g.tick) gv g wv slot w h.gc).mono ?_
  rintro e w' ⟨rfl, ho, wv', hg, hw⟩
  obtain ⟨k1, k2, k3, k4⟩ := leave_keep g slot
  refine ⟨rfl, OnS.on ho h.sb, gv, wv', (h.seats ho k1 k2 k3 ?_ hw).more (fun k hk => .inl hk)⟩
  rw [k1, k4]; exact hg

set_option maxRecDepth 100000 in
set_option maxHeartbeats 1000000 in
theorem gSnap_no (h : Gd w S b lv gv wv g) (slot : Int) (hB : Hid (g.hereB slot = false)) :
    Calls Tryz.prog 24 #[.pointer (some ⟨b, 0, none⟩), .int .i64 slot] w fun e w' => e = .returned (.tuple #[.string ⟨#[]⟩, .int .i64 7]) ∧ Below w.heap.size w w' := by
  have HG := hid h
  clear h
  go_enter Tryz.func24, Tryz.ntmps24
  go_wp2_with fail
  refine (gHere_any b (.string g.map) lv (.int .i64 g.tick) gv g wv slot _ HG.out.gc false hB).mono ?_
  rintro e w1 ⟨rfl, rfl⟩
  go_wp2
  go_ret2
  exact ⟨rfl, Below.refl _ _⟩
theorem dg_snap (h : Gd w S b lv gv wv g) (hf : g.Fit) (hm : g.map.size ≤ 512) (slot : Int) (R : ByteArray × Int) (hR : Hid (g.snapS slot = R)) :
    Calls Tryz.prog 24 #[.pointer (some ⟨b, 0, none⟩), .int .i64 slot] w fun e w' => e = .returned (.tuple #[.string R.1, .int .i64 R.2]) ∧ Below w.heap.size w w' := by
  cases hB : g.hereB slot
  · obtain rfl : (⟨#[]⟩, 7) = R := by rw [← hR.out]; unfold M.Game.snapS; rw [if_neg (by rw [hB]; exact fun e => by cases e)]
    exact gSnap_no h slot hB
  · have hh := hB
    unfold M.Game.hereB at hh
    simp at hh
    obtain ⟨i, rfl⟩ : ∃ i : Nat, slot = (i : Int) := ⟨slot.toNat, by omega⟩
    have hi : i < 8 := by omega
    obtain rfl : (⟨(g.snap i).toArray⟩, 0) = R := by rw [← hR.out]; unfold M.Game.snapS; rw [if_pos hB]; rfl
    obtain ⟨lx, ln, lc, rfl⟩ := h.ls
    refine gSnap_yes b i (.string g.map) (.slice lx ln lc) gv g wv w hi (fun W => Gd W S b (.slice lx ln lc) gv wv g) h (fun W W' hr hb => hr.after hb) (fun W hr => hr.gc) h.ws (fun j W hj hr => ?_) hf.s hh.2 hf.t0 hf.t1
    exact gTold_any b i j lx ln lc (.int .i64 g.tick) gv g wv W hi hj hr.gc (hf.s i hi).p (hf.s j hj).p hm hr.ws (fun W => W.ownsRow 0 93 7 (.slice lx ln lc) g.leafs.length (flat g.leafs)) hr.lf (fun W W' hr hb => own_of hr (fun k hk => hb.block k (own_lt hr hk)))
      (fun p W hr => zoneOf_any lx ln lc 0 g.leafs p W hr hf.ll) _ (hid rfl)

set_option maxRecDepth 100000 in
set_option maxHeartbeats 400000 in
theorem gNow_nil (w : World) : Calls Tryz.prog 26 #[.pointer none] w fun e w' => e = .returned (.int .i64 0) ∧ w' = w := by
  go_enter Tryz.func26, Tryz.ntmps26
  go_wp2
  go_ret
  exact ⟨rfl, rfl⟩
set_option maxRecDepth 100000 in
set_option maxHeartbeats 400000 in
theorem gConnect_nil (p : M.V3) (w : World) : Calls Tryz.prog 17 #[.pointer none, .agg #[.int .i64 p.x, .int .i64 p.y, .int .i64 p.z]] w fun e w' => e = .returned (.tuple #[.int .i64 0, .int .i64 1]) ∧ Below w.heap.size w w' := by
  go_enter Tryz.func17, Tryz.ntmps17
  go_wp2
  go_ret2
  exact ⟨rfl, by go_grown⟩
set_option maxRecDepth 100000 in
set_option maxHeartbeats 400000 in
theorem gLeave_nil (slot : Int) (w : World) : Calls Tryz.prog 19 #[.pointer none, .int .i64 slot] w fun e w' => e = .returned (.int .i64 1) ∧ w' = w := by
  go_enter Tryz.func19, Tryz.ntmps19
  go_wp2
  go_ret
  exact ⟨rfl, rfl⟩
set_option maxRecDepth 100000 in
set_option maxHeartbeats 400000 in
theorem gPacket_nil (slot : Int) (p : ByteArray) (w : World) : Calls Tryz.prog 21 #[.pointer none, .int .i64 slot, .string p] w fun e w' => e = .returned (.int .i64 1) ∧ w' = w := by
  go_enter Tryz.func21, Tryz.ntmps21
  go_wp2
  go_ret
  exact ⟨rfl, rfl⟩
set_option maxRecDepth 100000 in
set_option maxHeartbeats 400000 in
theorem gStep_nil (w : World) : Calls Tryz.prog 41 #[.pointer none] w fun e w' => e = .returned (.int .i64 1) ∧ w' = w := by
  go_enter Tryz.func41, Tryz.ntmps41
  go_wp2
  go_ret
  exact ⟨rfl, rfl⟩
set_option maxRecDepth 100000 in
set_option maxHeartbeats 400000 in
theorem gSnap_nil (slot : Int) (w : World) : Calls Tryz.prog 24 #[.pointer none, .int .i64 slot] w fun e w' => e = .returned (.tuple #[.string ⟨#[]⟩, .int .i64 1]) ∧ w' = w := by
  go_enter Tryz.func24, Tryz.ntmps24
  go_wp2
  go_ret2
  exact ⟨rfl, rfl⟩

end Go.Proofs.YtonmihojfcjmjaaGreat

/- The document's game in memory: Packet. -/
namespace Go.Proofs.YtonmihojfcjmjaaGreat
open Go.RowKit
set_option linter.unusedVariables false
attribute [local go_sem] cell_set_off cell_set_blk

theorem packet_keep (g : M.Game) (s : Int) (c : M.Cmd) (e : Int) : (g.packet s c e).2.map = g.map ∧ (g.packet s c e).2.leafs = g.leafs ∧ (g.packet s c e).2.log = g.log ∧ (g.packet s c e).2.tick = g.tick := by
  unfold M.Game.packet
  split
  · exact ⟨rfl, rfl, rfl, rfl⟩
  split
  · exact ⟨rfl, rfl, rfl, rfl⟩
  split
  · exact ⟨rfl, rfl, rfl, rfl⟩
  split <;> exact ⟨rfl, rfl, rfl, rfl⟩

/-- A row has grown. -/
theorem GdPost.same {S : Nat → Prop} {b : Nat} {lv gv : Value} {wv : Nat → Value} {w w' : World} {r : Value} {g : M.Game} (h : Gd w S b lv gv wv g) (hb : Below w.heap.size w w') : GdPost S b lv w r g (.returned r) w' :=
  ⟨rfl, OnS.below hb, gv, wv, (h.after hb).more (fun k hk => .inl hk)⟩

/-- All but b and one row are as they were. -/
structure Touch (b : Nat) (o : Option Nat) (W W' : World) : Prop where
  os : W'.os = W.os
  tape : W'.tape = W.tape
  output : W'.output = W.output
  size : W.heap.size ≤ W'.heap.size
  block : ∀ k, k < W.heap.size → k ≠ b → o ≠ some k → W'.heap[k]? = W.heap[k]?
theorem Touch.below {b : Nat} {o : Option Nat} {W W' : World} (h : Below W.heap.size W W') : Touch b o W W' := ⟨h.os, h.tape, h.output, h.size, fun k hk _ _ => h.block k hk⟩
theorem Touch.on {b : Nat} {o : Option Nat} {W W' : World} (h : On b W W') : Touch b o W W' := ⟨h.os, h.tape, h.output, h.size, fun k hk hb _ => h.block k hk hb⟩
theorem Touch.grown {b : Nat} {o : Option Nat} {W W' : World} (h : W.grownBy W' o) : Touch b o W W' := ⟨h.os, h.tape, h.output, h.size, fun k hk _ ho => h.block k hk (fun e => ho e.symm)⟩
theorem Touch.trans {b : Nat} {o : Option Nat} {W W' W'' : World} (h : Touch b o W W') (k : Touch b o W' W'') : Touch b o W W'' :=
  ⟨k.os.trans h.os, k.tape.trans h.tape, k.output.trans h.output, Nat.le_trans h.size k.size, fun j hj hb ho => (k.block j (by have := h.size; omega) hb ho).trans (h.block j hj hb ho)⟩

theorem grow_touch {b : Nat} {row : Option Nat} {W W0 W1 : World} (hg : W0.grownBy W1 row) (hb : Below W.heap.size W W0) : Touch b row W W1 := (Touch.below hb).trans (Touch.grown hg)
theorem grow_block {row : Option Nat} {k : Nat} {W W0 W1 : World} (hg : W0.grownBy W1 row) (hb : Below W.heap.size W W0) (hk : k < W.heap.size) (hne : some k ≠ row) : W1.heap[k]? = W.heap[k]? := by
  rw [hg.block k (Nat.lt_of_lt_of_le hk hb.size) hne, hb.block k hk]

/-- One queue is another, and its slot has changed. -/
theorem Gd.swap {W W2 : World} {S : Nat → Prop} {b i : Nat} {lv gv : Value} {wv : Nat → Value} {g g' : M.Game} {v' : Value} (h : Gd W S b lv gv wv g) (hi : i < 8) (ht : Touch b (wv i).ownBlock W W2)
    (hat : ∀ k, v'.ownBlock = some k → (wv i).ownBlock = some k ∨ W.heap.size ≤ k) (hv : ∃ x n c, v' = .slice x n c) (hown : W2.ownsRow 0 50 9 v' (g'.seat i).wait.length (cmds (g'.seat i).wait))
    (hm : g'.map = g.map) (hl : g'.leafs = g.leafs) (hlg : g'.log = g.log) (hs : ∀ j, j ≠ i → (g'.seat j).wait = (g.seat j).wait) (hc : Gc W2 b (.string g'.map) lv (.int .i64 g'.tick) gv (fun j => seatV (g'.seat j) (if j = i then v' else wv j))) :
    OnS S W W2 ∧ Gd W2 (fun k => S k ∨ (W.heap.size ≤ k ∧ k < W2.heap.size)) b lv gv (fun j => if j = i then v' else wv j) g' := by
  have Si : ∀ k, (wv i).ownBlock = some k → S k := fun k hk => h.fp (i + 3) k (by rw [gFp_w b lv gv wv hi]; exact hk)
  have on : OnS S W W2 := ⟨ht.os, ht.tape, ht.output, ht.size, fun k hk hn => ht.block k hk (fun e => hn (e ▸ h.sb)) (fun e => hn (Si k e))⟩
  have old : ∀ j k, gFp b lv gv (fun j => if j = i then v' else wv j) j = some k → (j = i + 3 ∧ v'.ownBlock = some k) ∨ (j ≠ i + 3 ∧ gFp b lv gv wv j = some k) := fun j k hk => by
    by_cases e : j = i + 3
    · subst e
      rw [gFp_w _ _ _ _ hi] at hk
      simp only at hk
      exact .inl ⟨rfl, hk⟩
    · refine .inr ⟨e, ?_⟩
      rcases gFp_is hk with ⟨rfl, q⟩ | ⟨rfl, q⟩ | ⟨rfl, q⟩ | ⟨n, hn, rfl, q⟩
      · rw [← q]; rfl
      · exact q
      · exact q
      · rw [gFp_w b lv gv wv hn]
        simp only [if_neg (show ¬ n = i by omega)] at q
        exact q
  have ne1 : ∀ j k, j ≠ i + 3 → v'.ownBlock = some k → gFp b lv gv wv j ≠ some k := fun j k hj hk e => by
    rcases hat k hk with e2 | e2
    · exact hj (h.ap j (i + 3) k e (by rw [gFp_w b lv gv wv hi]; exact e2))
    · have := h.lt e; omega
  have far : ∀ j k, j ≠ 0 → j ≠ i + 3 → gFp b lv gv wv j = some k → W2.heap[k]? = W.heap[k]? := fun j k h0 hj hk =>
    ht.block k (h.lt hk) (fun e => h0 (h.ap j 0 k hk (by rw [e]; rfl))) (fun e => hj (h.ap j (i + 3) k hk (by rw [gFp_w b lv gv wv hi]; exact e)))
  refine ⟨on, hc, h.ls, ?_, ?_, fun j hj => ?_, fun j => ?_, fun j k n h1 h2 => ?_, fun j k hk => ?_⟩
  · rw [hl]; exact own_of h.lf (fun k hk => far 1 k (by omega) (by omega) hk)
  · rw [hlg]; exact own_of h.lg (fun k hk => far 2 k (by omega) (by omega) hk)
  · by_cases e : j = i
    · subst e; simp only; exact hown
    · simp only [if_neg e]
      rw [hs j e]
      exact own_of (h.wt j hj) (fun k hk => far (j + 3) k (by omega) (by omega) (by rw [gFp_w b lv gv wv hj]; exact hk))
  · by_cases e : j = i
    · show ∃ x n c, (if j = i then v' else wv j) = .slice x n c
      rw [if_pos e]; exact hv
    · show ∃ x n c, (if j = i then v' else wv j) = .slice x n c
      rw [if_neg e]; exact h.ws j
  · rcases old j n h1 with ⟨e1, e2⟩ | ⟨e1, e2⟩
    · rcases old k n h2 with ⟨f1, f2⟩ | ⟨f1, f2⟩
      · omega
      · exact absurd f2 (ne1 k n f1 e2)
    · rcases old k n h2 with ⟨f1, f2⟩ | ⟨f1, f2⟩
      · exact absurd e2 (ne1 j n e1 f2)
      · exact h.ap j k n e2 f2
  · rcases old j k hk with ⟨e1, e2⟩ | ⟨e1, e2⟩
    · rcases hat k e2 with e | e
      · exact .inl (Si k e)
      · right; exact ⟨e, own_lt hown e2⟩
    · exact .inl (h.fp j k e2)
/-- The log is another. -/
theorem Gd.swapL {W W2 : World} {S : Nat → Prop} {b : Nat} {lv gv gv' : Value} {wv : Nat → Value} {g g' : M.Game} (h : Gd W S b lv gv wv g) (ht : Touch b gv.ownBlock W W2)
    (hat : ∀ k, gv'.ownBlock = some k → gv.ownBlock = some k ∨ W.heap.size ≤ k) (hown : W2.ownsRow 0 125 6 gv' g'.log.length (trks g'.log))
    (hm : g'.map = g.map) (hl : g'.leafs = g.leafs) (hs : ∀ j, (g'.seat j).wait = (g.seat j).wait) (hc : Gc W2 b (.string g'.map) lv (.int .i64 g'.tick) gv' (fun j => seatV (g'.seat j) (wv j))) :
    OnS S W W2 ∧ Gd W2 (fun k => S k ∨ (W.heap.size ≤ k ∧ k < W2.heap.size)) b lv gv' wv g' := by
  have Si : ∀ k, gv.ownBlock = some k → S k := fun k hk => h.fp 2 k hk
  have on : OnS S W W2 := ⟨ht.os, ht.tape, ht.output, ht.size, fun k hk hn => ht.block k hk (fun e => hn (e ▸ h.sb)) (fun e => hn (Si k e))⟩
  have old : ∀ j k, gFp b lv gv' wv j = some k → (j = 2 ∧ gv'.ownBlock = some k) ∨ (j ≠ 2 ∧ gFp b lv gv wv j = some k) := fun j k hk => by
    by_cases e : j = 2
    · subst e; exact .inl ⟨rfl, hk⟩
    · refine .inr ⟨e, ?_⟩
      rcases gFp_is hk with ⟨rfl, q⟩ | ⟨rfl, q⟩ | ⟨rfl, q⟩ | ⟨n, hn, rfl, q⟩
      · rw [← q]; rfl
      · exact q
      · omega
      · rw [gFp_w b lv gv wv hn]; exact q
  have ne1 : ∀ j k, j ≠ 2 → gv'.ownBlock = some k → gFp b lv gv wv j ≠ some k := fun j k hj hk e => by
    rcases hat k hk with e2 | e2
    · exact hj (h.ap j 2 k e e2)
    · have := h.lt e; omega
  have far : ∀ j k, j ≠ 0 → j ≠ 2 → gFp b lv gv wv j = some k → W2.heap[k]? = W.heap[k]? := fun j k h0 hj hk =>
    ht.block k (h.lt hk) (fun e => h0 (h.ap j 0 k hk (by rw [e]; rfl))) (fun e => hj (h.ap j 2 k hk e))
  refine ⟨on, hc, h.ls, ?_, hown, fun j hj => ?_, h.ws, fun j k n h1 h2 => ?_, fun j k hk => ?_⟩
  · rw [hl]; exact own_of h.lf (fun k hk => far 1 k (by omega) (by omega) hk)
  · rw [hs j]
    exact own_of (h.wt j hj) (fun k hk => far (j + 3) k (by omega) (by omega) (by rw [gFp_w b lv gv wv hj]; exact hk))
  · rcases old j n h1 with ⟨e1, e2⟩ | ⟨e1, e2⟩
    · rcases old k n h2 with ⟨f1, f2⟩ | ⟨f1, f2⟩
      · omega
      · exact absurd f2 (ne1 k n f1 e2)
    · rcases old k n h2 with ⟨f1, f2⟩ | ⟨f1, f2⟩
      · exact absurd e2 (ne1 j n e1 f2)
      · exact h.ap j k n e2 f2
  · rcases old j k hk with ⟨e1, e2⟩ | ⟨e1, e2⟩
    · rcases hat k e2 with e | e
      · exact .inl (Si k e)
      · right; exact ⟨e, own_lt hown e2⟩
    · exact .inl (h.fp j k e2)

set_option maxRecDepth 100000 in
set_option maxHeartbeats 4000000 in
theorem dg_packet {S : Nat → Prop} {b : Nat} {lv gv : Value} {wv : Nat → Value} {g : M.Game} {w : World} (h : Gd w S b lv gv wv g) (slot : Int) (p : ByteArray) (hs : p.size ≤ maxLen) (hw : ∀ i, i < 8 → (g.seat i).wait.length ≤ 4) (F : Int × M.Game) (hF : Hid (g.packet slot (M.decR p) (M.decE p) = F)) :
    Calls Tryz.prog 21 #[.pointer (some ⟨b, 0, none⟩), .int .i64 slot, .string p] w (GdPost S b lv w (.int .i64 F.1) F.2) := by
  have HG := hid h
  obtain ⟨c, hc⟩ : ∃ c, M.decR p = c := ⟨_, rfl⟩
  obtain ⟨de, he⟩ : ∃ e, M.decE p = e := ⟨_, rfl⟩
  have HD := hid (fun W => rDecode_any p W c de hs (hid hc) (hid he))
  rw [hc, he] at hF
  have lb := h.gc.lt
  clear h hc he hs
  cases hB : g.hereB slot
  · have HB := hid hB
    obtain rfl : (7, g) = F := by rw [← hF.out]; unfold M.Game.packet; rw [if_pos hB]
    clear hF hB HD
    go_enter Tryz.func21, Tryz.ntmps21
    go_wp2_with fail
    refine (gHere_any b (.string g.map) lv (.int .i64 g.tick) gv g wv slot _ HG.out.gc false HB).mono ?_
    rintro e w1 ⟨rfl, rfl⟩
    go_wp2
    go_ret
    exact .same HG.out (Below.refl _ _)
  · have HB := hid hB
    have hh := hB
    unfold M.Game.hereB at hh
    simp at hh
    obtain ⟨i, rfl⟩ : ∃ i : Nat, slot = (i : Int) := ⟨slot.toNat, by omega⟩
    have hi : i < 8 := by omega
    have i0 : (0 : Int) ≤ (i : Int) := by omega
    have i1 : (i : Int) < 8 := by omega
    have FF := hid (show (if de ≠ 0 then (de, g) else if c.seq ≤ (g.seat i).last then (9, g) else if 4 ≤ (g.seat i).wait.length then (10, g) else (0, g.put i ((g.seat i).queue c))) = F from by
      have q := hF.out
      unfold M.Game.packet at q
      rw [if_neg (by rw [hB]; exact fun e => by cases e), Int.toNat_natCast] at q
      exact q)
    have w4 := hw i hi
    clear hB hF hh hw
    go_enter Tryz.func21, Tryz.ntmps21
    go_wp2_with fail
    refine (gHere_any b (.string g.map) lv (.int .i64 g.tick) gv g wv i _ HG.out.gc true HB).mono ?_
    rintro e w1 ⟨rfl, rfl⟩
    go_wp2_with fail
    refine (HD.out _).mono ?_
    rintro e w2 ⟨rfl, hb2⟩
    obtain ⟨V, hV⟩ : ∃ V, w2.alloc (.cells #[.int .i64 c.seq, .bool c.fire, .int .i64 c.mv.x, .int .i64 c.mv.y, .int .i64 c.mv.z, .int .i64 c.aim.x, .int .i64 c.aim.y, .int .i64 c.aim.z, .int .i64 c.time] 50) = V := ⟨_, rfl⟩
    have QC := hid (show Blk V w2.heap.size #[.int .i64 c.seq, .bool c.fire, .int .i64 c.mv.x, .int .i64 c.mv.y, .int .i64 c.mv.z, .int .i64 c.aim.x, .int .i64 c.aim.y, .int .i64 c.aim.z, .int .i64 c.time] 50 from by rw [← hV]; exact Blk.new rfl)
    have BV := hid (show Below w1.heap.size w1 V from by rw [← hV]; have := hb2; have := hb2.size; go_grown)
    have GV := hid (HG.out.after BV.out)
    have zV : w1.heap.size ≤ w2.heap.size := hb2.size
    obtain ⟨k0, k1, k2, k3, k4, k5, k6, k7, k8, kf, kz⟩ := QC.out.nine2
    obtain ⟨c0, c1, c2, c3, c4, c5, c6, c7, c8, c9, c10, c11, c12, c13, c14⟩ := GV.out.gc.seat hi (fun k _ => rfl)
    have lv1 := GV.out.gc.lt
    clear hb2 HD HB c0 c1 c2 c3 c4 c5 c6 c7 c8 c9 c10 c11 c12
    by_cases d0 : de = 0
    · subst d0
      have FF2 := hid (show (if c.seq ≤ (g.seat i).last then (9, g) else if 4 ≤ (g.seat i).wait.length then (10, g) else (0, g.put i ((g.seat i).queue c))) = F from by have q := FF.out; rw [if_neg (by simp)] at q; exact q)
      clear FF
      go_upto_region 9 with fail
      try rw [hV]
      clear hV
      by_cases d1 : c.seq ≤ (g.seat i).last
      · obtain rfl : (9, g) = F := by rw [← FF2.out, if_pos d1]
        clear FF2
        go_quiet (fail)
        go_wp2
        go_ret
        exact .same HG.out (below_drewN BV.out nq)
      · have FF3 := hid (show (if 4 ≤ (g.seat i).wait.length then (10, g) else (0, g.put i ((g.seat i).queue c))) = F from by have q := FF2.out; rw [if_neg d1] at q; exact q)
        obtain ⟨x, n, cp, hv⟩ := HG.out.ws i
        rw [hv] at c14
        have hn : n = (g.seat i).wait.length := by
          have := HG.out.wt i hi
          rw [hv] at this
          rcases own_shape this with ⟨e1, e2⟩ | ⟨g0, c0, e1, _⟩
          · cases e1; exact e2.symm
          · cases e1; rfl
        subst hn
        have HV := hid hv
        clear FF2 hv
        by_cases d2 : 4 ≤ (g.seat i).wait.length
        · obtain rfl : (10, g) = F := by rw [← FF3.out, if_pos d2]
          have d3 : (4 : Int) ≤ ((g.seat i).wait.length : Int) := by omega
          clear FF3
          go_quiet (fail)
          go_wp2
          go_ret
          exact .same HG.out (below_drewN BV.out nq)
        · obtain rfl : (0, g.put i ((g.seat i).queue c)) = F := by rw [← FF3.out, if_neg d2]
          have d3 : ¬ (4 : Int) ≤ ((g.seat i).wait.length : Int) := by omega
          clear FF3
          go_quiet (fail)
          have W4 := hid (show Below w1.heap.size w1 (V.drewN nq) from below_drewN BV.out nq)
          have G4 := hid (HG.out.after W4.out)
          have QC4 := hid (show Blk (V.drewN nq) w2.heap.size #[.int .i64 c.seq, .bool c.fire, .int .i64 c.mv.x, .int .i64 c.mv.y, .int .i64 c.mv.z, .int .i64 c.aim.x, .int .i64 c.aim.y, .int .i64 c.aim.z, .int .i64 c.time] 50 from QC.out.drewN)
          have OW := hid (show (V.drewN nq).ownsRow 0 50 9 (.slice x (g.seat i).wait.length cp) (g.seat i).wait.length (cmds (g.seat i).wait) from by have := G4.out.wt i hi; rw [HV.out] at this; exact this)
          have NB := hid (show ∀ k, (Value.slice x (g.seat i).wait.length cp).ownBlock = some k → k ≠ b ∧ k < w1.heap.size from fun k hk => ⟨HG.out.wne hi k (by rw [HV.out]; exact hk), by
            have := HG.out.wt i hi
            rw [HV.out] at this
            exact own_lt this hk⟩)
          have z4 : w1.heap.size ≤ (V.drewN nq).heap.size := W4.out.size
          have zq : w2.heap.size < (V.drewN nq).heap.size := QC4.out.lt
          generalize V.drewN nq = W at *
          clear QC BV GV kf kz k0 k1 k2 k3 k4 k5 k6 k7 k8 c13 c14 lv1
          obtain ⟨k0, k1, k2, k3, k4, k5, k6, k7, k8, kf, kz⟩ := QC4.out.nine2
          obtain ⟨_, _, _, _, _, _, _, _, _, _, _, _, _, c13, c14⟩ := G4.out.gc.seat hi (fun k _ => rfl)
          rw [HV.out] at c14
          have bl4 := G4.out.gc.lt
          have fr := G4.out.gc.free
          obtain ⟨ii, hi0, hz0, hz1, hz2⟩ := info_parts infoCmd
          go_wp2_with fail
          go_region_law
            ((refine step_append_lies _ (by rfl) _ _ _ (by rfl) 0 50 ii _ 9 72 Tryz.underlying72 hi0 hz0 hz1 hz2 rfl (by omega) (.slice x (g.seat i).wait.length cp) (g.seat i).wait.length (cmds (g.seat i).wait) (by rfl) (by first | exact own_of OW.out (fun k hk => Below.heap_alloc _ _ _ (own_lt OW.out hk)))
                ⟨W.heap.size, 0, none⟩ 1 1 (cmdCells c) (by rfl) (by rfl) (World.news_of_block (cs := #[.int .i64 c.seq, .bool c.fire, .int .i64 c.mv.x, .int .i64 c.mv.y, .int .i64 c.mv.z, .int .i64 c.aim.x, .int .i64 c.aim.y, .int .i64 c.aim.z, .int .i64 c.time]) (t := 50) (fr := (0, 0)) (heap_alloc_new W _)) (by simp [cmdCells, Value.oneCell'])
                (by omega) (by unfold maxLen; omega) (by omega) (by simp) (W.heap.size + 1) (by simp) ?_; intro g1 cap1 w3 hown1 hgrow hat hlt
              obtain ⟨cR, fR⟩ := cellFar hgrow (by go_grown) bl4 (fun e => (NB.out b e.symm).1 rfl)
              obtain ⟨cQ, _⟩ := cellFar hgrow (by go_grown) kz (fun e => by have := (NB.out w2.heap.size e.symm).2; omega)
              have e14 := (cR (3 + i * 15 + 14)).trans c14
              have e13 := (cR (3 + i * 15 + 13)).trans c13
              have e0 := (cQ 0).trans k0
              have ef := fun o => (fR o).trans (fr o)
              clear cR cQ fR))
          all_goals
            have hat2 : (wv i).ownBlock = some g1 ∨ w1.heap.size ≤ g1 := by
              rcases hat with e | e
              · left; rw [HV.out]; exact e
              · right; omega
            have T3 := hid (show Touch b (Value.slice x (g.seat i).wait.length cp).ownBlock w1 w3 from (Touch.below W4.out).trans (grow_touch hgrow (by go_grown)))
            have eb := grow_block hgrow (by go_grown) bl4 (fun e => (NB.out b e.symm).1 rfl)
            have G3 := hid (show Gc w3 b (.string g.map) lv (.int .i64 g.tick) gv (fun j => seatV (g.seat j) (wv j)) from G4.out.gc.of eb (by have := T3.out.size; have := HG.out.gc.lt; omega))
            have nq2 : w2.heap.size ≠ b := by have := HG.out.gc.lt; omega
            clear eb
            have ON3 := hid hown1
            clear hgrow hat hown1
            go_wp2_with fail
            refine still_tail4 8 (by kernel_rfl) (by kernel_rfl) ?_
            simp only [List.take_succ_cons, List.take_zero, List.drop_succ_cons, List.drop_zero]
            repeat still_step
            refine wpStill_nil ?_
            go_wp2
            go_ret
            have g1b : g1 ≠ b := by
              rcases hat2 with e | e
              · exact HG.out.wne hi g1 e
              · have := HG.out.gc.lt; omega
            have ew : ((g.put i ((g.seat i).queue c)).seat i).wait = (g.seat i).wait ++ [c] := by rw [M.Game.put_at]; rfl
            have SW := HG.out.swap (g' := g.put i ((g.seat i).queue c)) (v' := .slice (some ⟨g1, 0, none⟩) ((g.seat i).wait.length + 1) cap1) (W2 := ((w3.setCell ⟨b, 3 + i * 15 + 14, none⟩ (.slice (some ⟨g1, 0, none⟩) ((g.seat i).wait.length + 1) cap1)).setCell ⟨b, 3 + i * 15 + 13, none⟩ (.int .i64 c.seq)).drew) hi
              (by rw [HV.out]; exact T3.out.trans (Touch.on (((On.set b _ _ _).trans (On.set b _ _ _)).drew)))
              (fun k hk => by
                have e : g1 = k := by simpa [Value.ownBlock] using hk
                rw [← e]; exact hat2) ⟨_, _, _, rfl⟩
              (by
                rw [ew, List.length_append, cmds_snoc]
                exact own_of ON3.out (fun k hk => by
                  have e : g1 = k := by simpa [Value.ownBlock] using hk
                  rw [← e]
                  exact (((On.set b (3 + i * 15 + 14) w3 _).trans (On.set b (3 + i * 15 + 13) _ _)).drew).block g1 hlt g1b))
              rfl rfl rfl (fun j hj => by rw [M.Game.put_ne _ _ hj])
              (((G3.out.setS i 14 hi (by omega) _).setS i 13 hi (by omega) _).drew.congr (fun j k hj hk => by
                by_cases e : j = i
                · subst e
                  rw [M.Game.put_at]
                  simp only [true_and, if_true]
                  rcases fifteen hk with rfl | rfl | rfl | rfl | rfl | rfl | rfl | rfl | rfl | rfl | rfl | rfl | rfl | rfl | rfl <;> first | rfl | (simp; done)
                · simp [M.Game.put_ne _ _ e, e]))
            exact ⟨rfl, SW.1, gv, _, SW.2⟩
    · obtain rfl : (de, g) = F := by rw [← FF.out, if_pos d0]
      have z : (de != 0) = true := by simp [d0]
      clear FF
      go_wp2
      try rw [hV]
      go_ret
      exact .same HG.out BV.out

end Go.Proofs.YtonmihojfcjmjaaGreat

/- The document's game in memory: what a tick's loops keep. -/
namespace Go.Proofs.YtonmihojfcjmjaaGreat
open Go.RowKit
set_option linter.unusedVariables false

/-- The game lies in b; what is its own was S's, or is new and not X's. -/
def Run (S X : Nat → Prop) (b : Nat) (lv : Value) (w : World) (g : M.Game) (W : World) : Prop :=
  OnS S w W ∧ ∃ gv wv, Gd W (fun k => S k ∨ (w.heap.size ≤ k ∧ k < W.heap.size ∧ ¬ X k)) b lv gv wv g
def noX : Nat → Prop := fun _ => False
theorem Run.start {S X : Nat → Prop} {b : Nat} {lv gv : Value} {wv : Nat → Value} {w : World} {g : M.Game} (h : Gd w S b lv gv wv g) : Run S X b lv w g w := ⟨OnS.refl S w, gv, wv, h.more (fun k hk => .inl hk)⟩
/-- The game has gone on. -/
theorem Run.step {S X : Nat → Prop} {b : Nat} {lv gv : Value} {wv : Nat → Value} {w W W2 : World} {g : M.Game} (hon : OnS S w W) (hX : ∀ k, X k → k < W.heap.size)
    (r : OnS (fun k => S k ∨ (w.heap.size ≤ k ∧ k < W.heap.size ∧ ¬ X k)) W W2 ∧ Gd W2 (fun k => (S k ∨ (w.heap.size ≤ k ∧ k < W.heap.size ∧ ¬ X k)) ∨ (W.heap.size ≤ k ∧ k < W2.heap.size)) b lv gv wv g) : Run S X b lv w g W2 := by
  obtain ⟨ho, hd⟩ := r
  have z1 := hon.size
  have z2 := ho.size
  refine ⟨⟨ho.os.trans hon.os, ho.tape.trans hon.tape, ho.output.trans hon.output, Nat.le_trans z1 z2, fun k hk hn => ?_⟩, gv, wv, hd.more (fun k hk => ?_)⟩
  · rw [ho.block k (by omega) (fun e => by rcases e with e | e; exact hn e; omega), hon.block k hk hn]
  · rcases hk with (e | e) | e
    · exact .inl e
    · exact .inr ⟨e.1, by omega, e.2.2⟩
    · exact .inr ⟨by omega, e.2, fun x => by have := hX k x; omega⟩
theorem Run.after {S X : Nat → Prop} {b : Nat} {lv : Value} {w W W2 : World} {g : M.Game} (h : Run S X b lv w g W) (hb : Below W.heap.size W W2) (hX : ∀ k, X k → k < W.heap.size) : Run S X b lv w g W2 := by
  obtain ⟨hon, gv, wv, hd⟩ := h
  exact Run.step hon hX ⟨OnS.below hb, (hd.after hb).more (fun k hk => .inl hk)⟩
/-- Something else has changed. -/
theorem Run.other {S X X' : Nat → Prop} {b : Nat} {lv : Value} {w W W2 : World} {g : M.Game} (h : Run S X b lv w g W) (hS : ∀ k, S k → k < w.heap.size) (hX : ∀ k, X k → w.heap.size ≤ k) (ho : OnS X W W2) (hX' : ∀ k, X' k → X k ∨ W.heap.size ≤ k) : Run S X' b lv w g W2 := by
  obtain ⟨hon, gv, wv, hd⟩ := h
  have z1 := hon.size
  have z2 := ho.size
  refine ⟨⟨ho.os.trans hon.os, ho.tape.trans hon.tape, ho.output.trans hon.output, Nat.le_trans z1 z2, fun k hk hn => ?_⟩, gv, wv, ?_⟩
  · rw [ho.block k (by omega) (fun e => by have := hX k e; omega), hon.block k hk hn]
  · have d := hd.onS ho (fun k hk hx => by
      rcases hk with e | e
      · have := hS k e; have := hX k hx; omega
      · exact e.2.2 hx)
    exact ⟨d.gc, d.ls, d.lf, d.lg, d.wt, d.ws, d.ap, fun i k hk => by
      have l := hd.lt hk
      rcases hd.fp i k hk with e | e
      · exact .inl e
      · refine .inr ⟨e.1, by omega, fun x => ?_⟩
        rcases hX' k x with q | q
        · exact e.2.2 q
        · omega⟩
/-- A row of X is as it was. -/
theorem row_keep {S X : Nat → Prop} {w W W2 : World} {base e sz n : Nat} {v : Value} {xs : List Value} (h : W.ownsRow base e sz v n xs) (hv : ∀ k, v.ownBlock = some k → X k ∧ w.heap.size ≤ k) (hS : ∀ k, S k → k < w.heap.size)
    (ho : OnS (fun k => S k ∨ (w.heap.size ≤ k ∧ k < W.heap.size ∧ ¬ X k)) W W2) : W2.ownsRow base e sz v n xs :=
  own_of h (fun k hk => ho.block k (own_lt h hk) (fun e => by
    rcases e with e | e
    · have := hS k e; have := (hv k hk).2; omega
    · exact e.2.2 (hv k hk).1))

theorem Gc.setT {W : World} {b : Nat} {m lv tv gv : Value} {f : Nat → Nat → Value} (h : Gc W b m lv tv gv f) (v : Value) : Gc (W.setCell ⟨b, 2, none⟩ v) b m lv v gv f := by
  refine ⟨?_, ?_, ?_, fun i' k' hi' hk' => ?_, ?_, fun o => ?_, by simpa using h.lt⟩
  · rw [cell_set_off _ _ _ _ _ (by omega)]; exact h.cm
  · rw [cell_set_off _ _ _ _ _ (by omega)]; exact h.cl
  · exact World.cell?_setCell_same _ _ _ (by rw [h.ct])
  · rw [cell_set_off _ _ _ _ _ (by omega)]; exact h.cs i' k' hi' hk'
  · rw [cell_set_off _ _ _ _ _ (by omega)]; exact h.cg
  · rw [World.frozen?_setCell]; exact h.free o
theorem Gc.setG {W : World} {b : Nat} {m lv tv gv : Value} {f : Nat → Nat → Value} (h : Gc W b m lv tv gv f) (v : Value) : Gc (W.setCell ⟨b, 123, none⟩ v) b m lv tv v f := by
  refine ⟨?_, ?_, ?_, fun i' k' hi' hk' => ?_, ?_, fun o => ?_, by simpa using h.lt⟩
  · rw [cell_set_off _ _ _ _ _ (by omega)]; exact h.cm
  · rw [cell_set_off _ _ _ _ _ (by omega)]; exact h.cl
  · rw [cell_set_off _ _ _ _ _ (by omega)]; exact h.ct
  · rw [cell_set_off _ _ _ _ _ (by omega)]; exact h.cs i' k' hi' hk'
  · exact World.cell?_setCell_same _ _ _ (by rw [h.cg])
  · rw [World.frozen?_setCell]; exact h.free o

/-- Only slots have changed, no queue. -/
theorem Run.seats {S X : Nat → Prop} {b : Nat} {lv gv : Value} {wv : Nat → Value} {w W W2 : World} {g g' : M.Game} (hon : OnS S w W) (hX : ∀ k, X k → k < W.heap.size) (hd : Gd W (fun k => S k ∨ (w.heap.size ≤ k ∧ k < W.heap.size ∧ ¬ X k)) b lv gv wv g) (ho : On b W W2)
    (hm : g'.map = g.map) (hl : g'.leafs = g.leafs) (hg : g'.log = g.log) (hw : ∀ i, (g'.seat i).wait = (g.seat i).wait) (hc : Gc W2 b (.string g'.map) lv (.int .i64 g'.tick) gv (fun i => seatV (g'.seat i) (wv i))) : Run S X b lv w g' W2 :=
  Run.step hon hX ⟨OnS.on ho hd.sb, (hd.seats ho hm hl hg hc (fun i => .inl ⟨rfl, hw i⟩)).more (fun k hk => .inl hk)⟩

namespace M
theorem Game.map_same (g : Game) (f : Seat → Seat) {j : Nat} (h : f (g.seat j) = g.seat j) : g.mapTo f (j + 1) = g.mapTo f j := by
  rw [← Game.map_next, h]
  unfold Game.put Game.mapTo
  congr 1
  funext k
  by_cases e : k = j
  · subst e; rw [if_pos rfl]; show _ = if k < k then _ else _; rw [if_neg (by omega)]
  · rw [if_neg e]
theorem back_wait (s : Seat) (t : Int) : (s.back t).wait = s.wait := by unfold Seat.back; split <;> rfl
theorem firesTo_len (g : Game) : ∀ n, (g.firesTo n).length ≤ n
  | 0 => Nat.le_refl 0
  | n + 1 => by
    show (g.firesTo n ++ (g.seat n).fires n).length ≤ n + 1
    rw [List.length_append]
    have := firesTo_len g n
    have : ((g.seat n).fires n).length ≤ 1 := by
      unfold Seat.fires
      split
      · split <;> simp
      · simp
    omega
theorem firesTo_mem {g : Game} {q : Nat × Cmd} : ∀ n, q ∈ g.firesTo n → q.1 < n ∧ q.2 ∈ (g.seat q.1).wait
  | 0, h => by cases h
  | n + 1, h => by
    rcases List.mem_append.1 h with h | h
    · have := firesTo_mem n h
      exact ⟨by omega, this.2⟩
    · unfold Seat.fires at h
      split at h
      · rename_i c hc
        split at h
        · have e : q = (n, c) := by simpa using h
          subst e
          refine ⟨by show n < n + 1; omega, ?_⟩
          unfold Seat.cmd at hc
          split at hc
          · cases hc
          · exact List.mem_of_mem_head? hc
        · cases h
      · cases h
/-- A tick can be played. -/
structure Game.Steps (g : Game) : Prop where
  p : ∀ i, i < 8 → InC (g.backs.seat i).pos
  l : ∀ i, i < 8 → (g.seat i).wait.length ≤ 4
  c : ∀ i, i < 8 → ∀ c ∈ (g.seat i).wait, CmdOk c
  n : g.tick < 3000 → g.notes.Fit
end M

end Go.Proofs.YtonmihojfcjmjaaGreat
