import Derived.Test.YtonmihojfcjmjaaGreatBDb
import Derived.Test.YtonmihojfcjmjaaGreatBRg
import Derived.Test.YtonmihojfcjmjaaGreatBSa
import Derived.Test.YtonmihojfcjmjaaGreatBPh
import Derived.Test.YtonmihojfcjmjaaGreatBE1
import Derived.Test.YtonmihojfcjmjaaGreatSimE
/- The document's game in memory: New, Now. -/
namespace Go.Proofs.YtonmihojfcjmjaaGreat
open Go.RowKit
set_option linter.unusedVariables false
attribute [local go_sem] cell_set_off cell_set_blk

/-- A new game's cells. -/
def ggC (m lv : Value) (j : Nat) : Value := if j = 0 then m else if j = 1 then lv else if j = 2 then .int .i64 0 else if j = 123 then .slice none 0 0 else seatV (M.Seat.none 0) (.slice none 0 0) ((j - 3) % 15)
theorem zeroG : Tryz.zeroCells78 = cellsOf 124 (ggC (.string ⟨#[]⟩) (.slice none 0 0)) := by kernel_rfl
theorem gg_cells (m lv : Value) : (Tryz.zeroCells78.setIfInBounds 0 m).setIfInBounds 1 lv = cellsOf 124 (ggC m lv) := by
  rw [zeroG, cellsOf_set, cellsOf_set]
  refine cellsOf_congr (fun j _ => ?_)
  unfold ggC
  by_cases e1 : j = 1
  · subst e1; rfl
  · by_cases e0 : j = 0
    · subst e0; rfl
    · simp only [if_neg e1, if_neg e0]
theorem Gd.ofBlk {W : World} {b : Nat} {m : ByteArray} {x : Option Addr} {n c : Nat} {t : TypeId} {ls : List M.Lf} {S : Nat → Prop} (q : Blk W b (cellsOf 124 (ggC (.string m) (.slice x n c))) t) (hl : W.ownsRow 0 93 7 (.slice x n c) ls.length (flat ls)) (hne : ∀ k, (Value.slice x n c).ownBlock = some k → k ≠ b) (sb : S b) (sl : ∀ k, (Value.slice x n c).ownBlock = some k → S k) :
    Gd W S b (.slice x n c) (.slice none 0 0) (fun _ => .slice none 0 0) (M.Game.fresh m ls) := by
  refine ⟨⟨q.cellC 0 (by omega), q.cellC 1 (by omega), q.cellC 2 (by omega), fun i k hi hk => ?_, q.cellC 123 (by omega), q.frozen, q.lt⟩, ⟨x, n, c, rfl⟩, hl, ⟨rfl, .inl ⟨rfl, rfl⟩⟩, fun i hi => ⟨rfl, .inl ⟨rfl, rfl⟩⟩, fun i => ⟨_, _, _, rfl⟩, fun i j k h1 h2 => ?_, fun i k hk => ?_⟩
  · rw [q.cellC _ (by omega)]
    unfold ggC
    rw [if_neg (by omega), if_neg (by omega), if_neg (by omega), if_neg (by omega), show 3 + i * 15 + k - 3 = k + 15 * i by omega, Nat.add_mul_mod_self_left, Nat.mod_eq_of_lt hk]
    rfl
  · rcases gFp_is h1 with ⟨rfl, e⟩ | ⟨rfl, e⟩ | ⟨rfl, e⟩ | ⟨a, ha, rfl, e⟩
    · rcases gFp_is h2 with ⟨rfl, f⟩ | ⟨rfl, f⟩ | ⟨rfl, f⟩ | ⟨a, ha, rfl, f⟩
      · rfl
      · exact absurd e.symm (hne k f)
      · cases f
      · cases f
    · rcases gFp_is h2 with ⟨rfl, f⟩ | ⟨rfl, f⟩ | ⟨rfl, f⟩ | ⟨a, ha, rfl, f⟩
      · exact absurd f.symm (hne k e)
      · rfl
      · cases f
      · cases f
    · cases e
    · cases e
  · rcases gFp_is hk with ⟨rfl, e⟩ | ⟨rfl, e⟩ | ⟨rfl, e⟩ | ⟨a, ha, rfl, e⟩
    · rw [← e]; exact sb
    · exact sl k e
    · cases e
    · cases e

/-- What the document's New gives back. -/
def GNewPost (s : ByteArray) (w : World) (r : Ending) (w' : World) : Prop := Below w.heap.size w w' ∧
  (((M.errS s).1 ≠ 0 ∧ r = .returned (.tuple #[.pointer none, .int .i64 (M.errS s).1])) ∨
   ((M.errS s).1 = 0 ∧ ∃ (b : Nat) (lv : Value), r = .returned (.tuple #[.pointer (some ⟨b, 0, none⟩), .int .i64 0]) ∧ Gd w' (fun k => w.heap.size ≤ k ∧ k < w'.heap.size) b lv (.slice none 0 0) (fun _ => .slice none 0 0) (M.Game.fresh s (M.top s).2.leaves)))

set_option maxRecDepth 100000 in
set_option maxHeartbeats 2000000 in
theorem dg_new (s : ByteArray) (w : World) (hm : s.size ≤ maxLen) : Calls Tryz.prog 8 #[.string s] w (GNewPost s w) := by
  go_enter Tryz.func8, Tryz.ntmps8
  go_wp2_with fail
  refine (rcheck_any s _ hm).mono ?_
  rintro rr w1 ⟨e, k, rfl, hE, hb⟩
  have E := hid hE
  have B1 := hid (show Below w.heap.size w w1 from hb)
  clear hE hb
  by_cases he : e = 0
  · subst he
    have hg := M.good_of (m := s) (by rw [E.out])
    have H5 := hg.sz
    have HT := hg.tp
    clear hg
    go_wp2_with fail
    refine (leaves_any s _ H5 HT).mono ?_
    rintro rr w2 ⟨x, n, cap, rfl, hown, hb2⟩
    have O2 := hid hown
    have B2 := hid (show Below w1.heap.size w1 w2 from hb2)
    have GC := hid (gg_cells (.string s) (.slice x n cap))
    clear hown hb2 HT H5
    go_wp2
    go_ret2
    have z1 := B1.out.size
    have z2 := B2.out.size
    refine ⟨bl (bl B1.out B2.out) (by go_grown), .inr ⟨by rw [E.out], w2.heap.size, .slice x n cap, rfl, ?_⟩⟩
    refine Gd.ofBlk (t := 78) ⟨?_⟩ (own_base (base' := 0) (own_of O2.out (fun g hg => Below.heap_alloc _ _ _ (own_lt O2.out hg))) (fun _ _ => Nat.zero_le _)) (fun k hk => ?_) ⟨by omega, by simp⟩ (fun k hk => ⟨?_, ?_⟩)
    · rw [← GC.out]; exact (Blk.new rfl).at_
    · have := own_lt O2.out hk; omega
    · have := row_own2 O2.out k hk; omega
    · have := own_lt O2.out hk; simp; omega
  · have t : (e != 0) = true := by rw [bne_iff_ne]; exact he
    have HE : Hid (e ≠ 0) := he
    clear he
    go_wp2
    go_ret2
    exact ⟨B1.out, .inl ⟨by rw [E.out]; exact HE.out, by rw [E.out]; rfl⟩⟩

end Go.Proofs.YtonmihojfcjmjaaGreat

/- The program's server and the document's, side by side. -/
namespace Go.Proofs.YtonmihojfcjmjaaGreat
open Go.RowKit
set_option linter.unusedVariables false

/-- Both servers, and the blocks that they own. -/
structure Duo (N : Int) (W : World) (T : Nat → Prop) (bx bg : Nat) (v lv : Value) (S : Nat → Prop) (P : M.PGame) (G : M.Game) : Prop where
  sv : Sv W bx v G.leafs (M.prs G.map) P
  gd : ∃ gv wv, Gd W S bg lv gv wv G
  rel : M.Rel N G.tick P G
  good : M.Good G.map G.leafs
  tb : T bx
  tv : ∀ k, v.ownBlock = some k → T k
  ts : ∀ k, S k → T k ∧ k < W.heap.size ∧ k ≠ bx ∧ v.ownBlock ≠ some k
/-- A pair: both servers, or none. -/
def Du (N : Int) (W : World) (T : Nat → Prop) (x y : Value) : Prop :=
  (x = .pointer none ∧ y = .pointer none) ∨ ∃ bx bg v lv S P G, x = .pointer (some ⟨bx, 0, none⟩) ∧ y = .pointer (some ⟨bg, 0, none⟩) ∧ Duo N W T bx bg v lv S P G
/-- T, and what is new. -/
def grownT (T : Nat → Prop) (w w' : World) : Nat → Prop := fun k => T k ∨ (w.heap.size ≤ k ∧ k < w'.heap.size)
theorem Duo.more {N N' : Int} {W : World} {T T' : Nat → Prop} {bx bg : Nat} {v lv : Value} {S : Nat → Prop} {P : M.PGame} {G : M.Game} (h : Duo N W T bx bg v lv S P G) (hN : N ≤ N') (ht : ∀ k, T k → T' k) : Duo N' W T' bx bg v lv S P G :=
  ⟨h.sv, h.gd, h.rel.more hN, h.good, ht _ h.tb, fun k hk => ht _ (h.tv k hk), fun k hk => ⟨ht _ (h.ts k hk).1, (h.ts k hk).2⟩⟩
theorem Du.more {N N' : Int} {W : World} {T T' : Nat → Prop} {x y : Value} (h : Du N W T x y) (hN : N ≤ N') (ht : ∀ k, T k → T' k) : Du N' W T' x y :=
  h.imp (fun e => e) (fun ⟨bx, bg, v, lv, S, P, G, e1, e2, d⟩ => ⟨bx, bg, v, lv, S, P, G, e1, e2, d.more hN ht⟩)
/-- What is elsewhere changes nothing. -/
theorem Duo.onS {N : Int} {W W' : World} {T U : Nat → Prop} {bx bg : Nat} {v lv : Value} {S : Nat → Prop} {P : M.PGame} {G : M.Game} (h : Duo N W T bx bg v lv S P G) (ho : OnS U W W') (hd : ∀ k, T k → ¬ U k) : Duo N W' T bx bg v lv S P G := by
  obtain ⟨gv, wv, g⟩ := h.gd
  exact ⟨h.sv.onS ho (hd _ h.tb) (fun k hk => hd _ (h.tv k hk)), ⟨gv, wv, g.onS ho (fun k hk => hd _ (h.ts k hk).1)⟩, h.rel, h.good, h.tb, h.tv, fun k hk => ⟨(h.ts k hk).1, by have := (h.ts k hk).2.1; have := ho.size; omega, (h.ts k hk).2.2⟩⟩
theorem Du.onS {N : Int} {W W' : World} {T U : Nat → Prop} {x y : Value} (h : Du N W T x y) (ho : OnS U W W') (hd : ∀ k, T k → ¬ U k) : Du N W' T x y :=
  h.imp (fun e => e) (fun ⟨bx, bg, v, lv, S, P, G, e1, e2, d⟩ => ⟨bx, bg, v, lv, S, P, G, e1, e2, d.onS ho hd⟩)
theorem Du.after {N : Int} {W W' : World} {T : Nat → Prop} {x y : Value} (h : Du N W T x y) (hb : Below W.heap.size W W') : Du N W' T x y :=
  h.onS (U := fun _ => False) (OnS.below hb) (fun _ _ e => e)
/-- Behind the program's call the document's game is as it was. -/
theorem Duo.mid {N : Int} {W W' : World} {T : Nat → Prop} {bx bg : Nat} {v lv : Value} {S : Nat → Prop} {P : M.PGame} {G : M.Game} (h : Duo N W T bx bg v lv S P G) (ho : On bx W W') : ∃ gv wv, Gd W' S bg lv gv wv G := by
  obtain ⟨gv, wv, g⟩ := h.gd
  exact ⟨gv, wv, g.onS (T := fun k => k = bx) (OnS.on ho rfl) (fun k hk => (h.ts k hk).2.2.1)⟩
theorem Duo.fit {N : Int} {W : World} {T : Nat → Prop} {bx bg : Nat} {v lv : Value} {S : Nat → Prop} {P : M.PGame} {G : M.Game} (h : Duo N W T bx bg v lv S P G) (hN : N ≤ 4611686018427380000) : G.Fit := h.rel.fit h.sv.ok h.good hN
theorem Duo.steps {N : Int} {W : World} {T : Nat → Prop} {bx bg : Nat} {v lv : Value} {S : Nat → Prop} {P : M.PGame} {G : M.Game} (h : Duo N W T bx bg v lv S P G) (hN : N ≤ 4611686018427380000) : G.Steps := h.rel.steps h.sv.ok h.good hN
/-- Both have gone on. -/
theorem Duo.next {N N' : Int} {w w1 w2 : World} {T : Nat → Prop} {bx bg : Nat} {v lv : Value} {S : Nat → Prop} {P P' : M.PGame} {G G' : M.Game} (h : Duo N w T bx bg v lv S P G) (s1 : Sv w1 bx v G.leafs (M.prs G.map) P') (o1 : On bx w w1)
    (o2 : OnS S w1 w2) (g2 : ∃ gv wv, Gd w2 (fun k => S k ∨ (w1.heap.size ≤ k ∧ k < w2.heap.size)) bg lv gv wv G') (hr : M.Rel N' G'.tick P' G') (hl : G'.leafs = G.leafs) (hm : G'.map = G.map) :
    OnS T w w2 ∧ ∃ S', Duo N' w2 (grownT T w w2) bx bg v lv S' P' G' := by
  have z1 := o1.size
  have z2 := o2.size
  have s2 := s1.onS o2 (fun e => (h.ts bx e).2.2.1 rfl) (fun k hk e => (h.ts k e).2.2.2 hk)
  refine ⟨⟨o2.os.trans o1.os, o2.tape.trans o1.tape, o2.output.trans o1.output, Nat.le_trans z1 z2, fun k hk hn => ?_⟩, _, ?_, g2, hr, ?_, .inl h.tb, fun k hk => .inl (h.tv k hk), fun k hk => ?_⟩
  · rw [o2.block k (by omega) (fun e => hn (h.ts k e).1), o1.block k hk (fun e => hn (e ▸ h.tb))]
  · rw [hl, hm]; exact s2
  · rw [hl, hm]; exact h.good
  · rcases hk with e | e
    · exact ⟨.inl (h.ts k e).1, by have := (h.ts k e).2.1; omega, (h.ts k e).2.2⟩
    · refine ⟨.inr ⟨by omega, e.2⟩, e.2, fun q => ?_, fun q => ?_⟩
      · have := s1.pg.lt; omega
      · have := own_lt s1.own q; omega

/-- A step's answer, and both servers behind it. -/
def DuPost (N : Int) (T : Nat → Prop) (x y : Value) (w : World) (e : Ending) (w' : World) : Prop := e = .returned (.bool true) ∧ OnS T w w' ∧ Du N w' (grownT T w w') x y
theorem DuPost.same {N N' : Int} {T : Nat → Prop} {x y : Value} {w w' : World} (h : Du N w T x y) (hN : N ≤ N') (hb : Below w.heap.size w w') : DuPost N' T x y w (.returned (.bool true)) w' :=
  ⟨rfl, OnS.below hb, (h.after hb).more hN (fun k hk => .inl hk)⟩
/-- One step behind another. -/
theorem Du.chain {N : Int} {T : Nat → Prop} {x y : Value} {w w1 w2 : World} (h1 : OnS T w w1) (h2 : OnS (grownT T w w1) w1 w2) (h3 : Du N w2 (grownT (grownT T w w1) w1 w2) x y) : OnS T w w2 ∧ Du N w2 (grownT T w w2) x y := by
  have z1 := h1.size
  have z2 := h2.size
  refine ⟨⟨h2.os.trans h1.os, h2.tape.trans h1.tape, h2.output.trans h1.output, Nat.le_trans z1 z2, fun k hk hn => ?_⟩, h3.more (Int.le_refl _) (fun k hk => ?_)⟩
  · rw [h2.block k (by omega) (fun e => by rcases e with e | e; exact hn e; omega), h1.block k hk hn]
  · rcases hk with (e | e) | e
    · exact .inl e
    · exact .inr ⟨e.1, by omega⟩
    · exact .inr ⟨by omega, e.2⟩

theorem DuPost.box {N : Int} {T : Nat → Prop} {x y : Value} {w W1 wr : World} (BW : Below w.heap.size w W1) (OJ : OnS T W1 wr) (d : Du N wr (grownT T W1 wr) x y) : DuPost N T x y w (.returned (.bool true)) wr :=
  ⟨rfl, (OnS.below BW).trans OJ, d.more (Int.le_refl _) (fun k hk => hk.imp (fun e => e) (fun e => ⟨by have := BW.size; omega, e.2⟩))⟩
theorem Duo.du {N : Int} {W : World} {T : Nat → Prop} {bx bg : Nat} {v lv : Value} {S : Nat → Prop} {P : M.PGame} {G : M.Game} (h : Duo N W T bx bg v lv S P G) : Du N W T (.pointer (some ⟨bx, 0, none⟩)) (.pointer (some ⟨bg, 0, none⟩)) := .inr ⟨bx, bg, v, lv, S, P, G, rfl, rfl, h⟩
theorem dg_connectF {S : Nat → Prop} {b : Nat} {lv gv : Value} {wv : Nat → Value} {g : M.Game} {w : World} (h : Gd w S b lv gv wv g) (hf : g.Fit) (p : M.V3) (F : Int × Int × M.Game) (hF : Hid (g.connect p = F)) :
    Calls Tryz.prog 17 #[.pointer (some ⟨b, 0, none⟩), .agg #[.int .i64 p.x, .int .i64 p.y, .int .i64 p.z]] w (GdPost S b lv w (.tuple #[.int .i64 F.1, .int .i64 F.2.1]) F.2.2) := by
  rw [← hF.out]; exact dg_connect h hf p
theorem dg_leaveF {S : Nat → Prop} {b : Nat} {lv gv : Value} {wv : Nat → Value} {g : M.Game} {w : World} (h : Gd w S b lv gv wv g) (slot : Int) (F : Int × M.Game) (hF : Hid (g.leave slot = F)) :
    Calls Tryz.prog 19 #[.pointer (some ⟨b, 0, none⟩), .int .i64 slot] w (GdPost S b lv w (.int .i64 F.1) F.2) := by
  rw [← hF.out]; exact dg_leave h slot

end Go.Proofs.YtonmihojfcjmjaaGreat
