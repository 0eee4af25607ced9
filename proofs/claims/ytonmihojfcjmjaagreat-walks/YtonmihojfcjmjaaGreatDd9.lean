import Derived.Test.YtonmihojfcjmjaaGreatBDb
import Derived.Test.YtonmihojfcjmjaaGreatSimE
import Derived.Deep.RegionHeld2
import Derived.Deep.RegionLaw
import Derived.Deep.DeepCutAuto
import Derived.Great.BuildSlice
/- The document's game in memory: a tick. -/
namespace Go.Proofs.YtonmihojfcjmjaaGreat
open Go.RowKit
set_option linter.unusedVariables false
attribute [local go_sem] cell_set_off cell_set_blk

/-- Who comes back: one slot's test. -/
theorem M.back_no {s : M.Seat} {t : Int} (h : ¬ (s.here = true ∧ s.live = false ∧ s.died + 8 = t)) : s.back t = s := by unfold M.Seat.back; rw [if_neg h]
theorem M.back_yes {s : M.Seat} {t : Int} (h : s.here = true ∧ s.live = false ∧ s.died + 8 = t) : s.back t = s.arrive := by unfold M.Seat.back; rw [if_pos h]
theorem M.obey_no {s : M.Seat} (ls : List M.Lf) (i : Nat) (h : s.here = false ∨ s.wait = []) : s.obey ls = s ∧ s.fires i = [] := by
  unfold M.Seat.obey M.Seat.fires M.Seat.cmd
  rcases h with h | h
  · rw [if_pos h, if_pos (.inl h)]; exact ⟨rfl, rfl⟩
  · rw [h]
    constructor
    · split <;> rfl
    · split
      · rename_i c hc; split at hc <;> cases hc
      · rfl
theorem M.obey_dead {s : M.Seat} {c : M.Cmd} {r : List M.Cmd} (ls : List M.Lf) (i : Nat) (h : s.here = true) (hw : s.wait = c :: r) (hl : s.live = false) : s.obey ls = { s with wait := r } ∧ s.fires i = [] := by
  unfold M.Seat.obey M.Seat.fires M.Seat.cmd
  rw [if_neg (by rw [h]; exact fun e => by cases e), hw, if_pos (.inr hl)]
  simp only
  rw [if_neg (by rw [hl]; exact fun e => by cases e)]
  exact ⟨rfl, trivial⟩
theorem M.obey_live {s : M.Seat} {c : M.Cmd} {r : List M.Cmd} (ls : List M.Lf) (i : Nat) (h : s.here = true) (hw : s.wait = c :: r) (hl : s.live = true) : s.obey ls = { s with wait := r, pos := M.walkR ls s.pos c.mv } ∧ s.fires i = if c.fire = true then [(i, c)] else [] := by
  unfold M.Seat.obey M.Seat.fires M.Seat.cmd
  rw [if_neg (c := s.here = false) (by rw [h]; exact fun e => by cases e), hw, if_neg (c := s.here = false ∨ s.live = false) (by rw [h, hl]; exact fun e => by rcases e with e | e <;> cases e)]
  simp only [List.head?_cons]
  rw [if_pos hl]
  exact ⟨rfl, trivial⟩
def Stop (p : Prop) : Prop := p
theorem Stop.mk {p : Prop} (h : Stop p) : p := h
def fromL (l : List (Nat × M.Cmd)) : List Value := l.map (fun q => .int .i64 (q.1 : Int))
def shotL (l : List (Nat × M.Cmd)) : List M.Cmd := l.map (fun q => q.2)
/-- The two local rows. -/
def twoX (u v : Value) : Nat → Prop := fun k => u.ownBlock = some k ∨ v.ownBlock = some k
structure Two (w W : World) (u v : Value) (l : List (Nat × M.Cmd)) : Prop where
  s : W.ownsRow w.heap.size 50 9 u l.length (cmds (shotL l))
  f : W.ownsRow w.heap.size 3 1 v l.length (fromL l)
  ne : ∀ k, u.ownBlock = some k → v.ownBlock ≠ some k
theorem Two.lt {w W : World} {u v : Value} {l : List (Nat × M.Cmd)} (h : Two w W u v l) : ∀ k, twoX u v k → k < W.heap.size := fun k hk => hk.elim (own_lt h.s) (own_lt h.f)
theorem Two.ge {w W : World} {u v : Value} {l : List (Nat × M.Cmd)} (h : Two w W u v l) : ∀ k, twoX u v k → w.heap.size ≤ k := fun k hk => hk.elim (row_own2 h.s k) (row_own2 h.f k)
theorem Two.keep {S : Nat → Prop} {w W W2 : World} {u v : Value} {l : List (Nat × M.Cmd)} (h : Two w W u v l) (hS : ∀ k, S k → k < w.heap.size) (ho : OnS (fun k => S k ∨ (w.heap.size ≤ k ∧ k < W.heap.size ∧ ¬ twoX u v k)) W W2) : Two w W2 u v l :=
  ⟨row_keep h.s (fun k hk => ⟨.inl hk, row_own2 h.s k hk⟩) hS ho, row_keep h.f (fun k hk => ⟨.inr hk, row_own2 h.f k hk⟩) hS ho, h.ne⟩
theorem Two.after {w W W2 : World} {u v : Value} {l : List (Nat × M.Cmd)} (h : Two w W u v l) (hb : Below W.heap.size W W2) : Two w W2 u v l :=
  ⟨own_of h.s (fun k hk => hb.block k (own_lt h.s hk)), own_of h.f (fun k hk => hb.block k (own_lt h.f hk)), h.ne⟩

/-- The log, up to a slot. -/
noncomputable def logTo (g : M.Game) (i : Nat) : M.Game := { g.walks with log := g.walks.log ++ g.walks.marks i }
theorem logTo_0 (g : M.Game) : logTo g 0 = g.walks := by
  unfold logTo
  show ({ g.walks with log := g.walks.log ++ [] } : M.Game) = g.walks
  rw [List.append_nil]
theorem logTo_no {g : M.Game} {i : Nat} (h : ¬ ((g.walks.seat i).here = true ∧ (g.walks.seat i).live = true)) : logTo g (i + 1) = logTo g i := by
  unfold logTo
  show ({ g.walks with log := g.walks.log ++ (g.walks.marks i ++ (g.walks.seat i).mark i g.walks.tick) } : M.Game) = _
  have e : (g.walks.seat i).mark i g.walks.tick = [] := by unfold M.Seat.mark; rw [if_neg h]
  rw [e, List.append_nil]
theorem logTo_yes {g : M.Game} {i : Nat} (h : (g.walks.seat i).here = true ∧ (g.walks.seat i).live = true) : (logTo g (i + 1)).log = (logTo g i).log ++ [⟨i, (g.walks.seat i).gen, g.walks.tick, (g.walks.seat i).pos⟩] := by
  unfold logTo
  show g.walks.log ++ (g.walks.marks i ++ (g.walks.seat i).mark i g.walks.tick) = (g.walks.log ++ g.walks.marks i) ++ _
  have e : (g.walks.seat i).mark i g.walks.tick = [⟨i, (g.walks.seat i).gen, g.walks.tick, (g.walks.seat i).pos⟩] := by unfold M.Seat.mark; rw [if_pos h]
  rw [e, List.append_assoc]
theorem logTo_len (g : M.Game) (i : Nat) : (logTo g i).log.length ≤ g.log.length + i := by
  unfold logTo
  show (g.walks.log ++ g.walks.marks i).length ≤ _
  rw [List.length_append]
  have := M.marks_len g.walks i
  have : g.walks.log = g.log := rfl
  rw [this]; omega
theorem slice_own {W : World} {base e sz n : Nat} {v : Value} {xs : List Value} (h : W.ownsRow base e sz v n xs) : ∃ x c, v = .slice x n c := by
  rcases own_shape h with ⟨e1, e2⟩ | ⟨g0, c0, e1, _⟩
  · subst e2; exact ⟨_, _, e1⟩
  · exact ⟨_, _, e1⟩

/-- Behind the first of the two appends. -/
def FireCut (w W7 : World) (u4 u5 : Value) (L : List (Nat × M.Cmd)) (cc : List Value) (c4 : Value) (wx : World) : Prop :=
  ∃ g1 cap1 : Nat, c4 = .slice (some ⟨g1, 0, none⟩) (L.length + 1) cap1 ∧ Hid (wx.ownsRow w.heap.size 50 9 (.slice (some ⟨g1, 0, none⟩) (L.length + 1) cap1) (L.length + 1) (cmds (shotL L) ++ cc)) ∧ Hid (OnS (twoX u4 u5) W7 wx) ∧ Hid (u4.ownBlock = some g1 ∨ W7.heap.size ≤ g1) ∧ Hid (wx.ownsRow w.heap.size 3 1 u5 L.length (fromL L))
theorem exec_build {P : Program} {ev : Operand → Value} {o : Oper} (t : TypeId) (parts : Array (Nat × Operand)) (ho : o.op = .build t parts) (cells : Array Value) (hc : P.built t (parts.toList.map (fun q => (q.1, ev q.2))) = some cells) (w : World) : (execOp ev o).run P w = .ok (.value (.agg cells)) w := by
  have hc : P.built t (parts.map fun (i, x) => (i, ev x)).toList = some cells := by rw [Array.toList_map]; exact hc
  unfold execOp
  simp only [ho, Sem.run_bind, run_build w t _ cells hc, Result.andThen_ok]
  rfl
theorem builtTrk (a b c d e f : Int) : Tryz.prog.built 125 [(0, .int .i64 a), (1, .int .i64 b), (2, .agg #[.int .i64 c, .int .i64 d, .int .i64 e, .int .i64 f])] = some #[.int .i64 a, .int .i64 b, .int .i64 c, .int .i64 d, .int .i64 e, .int .i64 f] := by kernel_rfl
theorem step_oneTrk {ops : Array Oper} {o : Oper} {a : Act} {w : World} {K : Act → World → Prop} {Q : Exit → Act → World → Prop} {E : Prop} (hg : o.guard = none) (x : Operand) (ho : o.op = .buildSlice 76 1 #[(0, x)]) (p q r s t u : Int)
    (hx : a.eval x = .agg #[.int .i64 p, .int .i64 q, .int .i64 r, .int .i64 s, .int .i64 t, .int .i64 u]) (h : K (a.put o.dst (.slice (some ⟨w.heap.size, 0, none⟩) 1 1)) (w.alloc (.cells #[.int .i64 p, .int .i64 q, .int .i64 r, .int .i64 s, .int .i64 t, .int .i64 u] 125))) :
    if Region.wanted o (yielded ops a.tmps) = true then Oper.wp Tryz.prog o a w K Q else E := by
  have hw : Region.wanted o (yielded ops a.tmps) = true := by simp [Region.wanted, hg]
  rw [if_pos hw]
  obtain ⟨ii, h0, h1, h2, h3⟩ := info_parts infoTrk
  refine wp_buildSlice 76 125 1 _ ho _ ii _ Tryz.underlying76 h0 h1 (by rw [h2]; decide) (by rw [h2]; decide) ?_ h
  rw [Array.toList_map]
  show Instr.fill _ _ [(0, a.eval x)] = _
  rw [hx, h2]
  kernel_rfl
theorem wpL_oneCmd {ops : Array Oper} {rest : List Oper} {o : Oper} {a : Act} {w : World} {Q : Exit → Act → World → Prop} (hg : o.guard = none) (x : Operand) (ho : o.op = .buildSlice 72 1 #[(0, x)]) (p : Int) (f : Bool) (q r s t u v z : Int)
    (hx : a.eval x = .agg #[.int .i64 p, .bool f, .int .i64 q, .int .i64 r, .int .i64 s, .int .i64 t, .int .i64 u, .int .i64 v, .int .i64 z]) (h : wpList Tryz.prog ops Q rest (a.put o.dst (.slice (some ⟨w.heap.size, 0, none⟩) 1 1)) (w.alloc (.cells #[.int .i64 p, .bool f, .int .i64 q, .int .i64 r, .int .i64 s, .int .i64 t, .int .i64 u, .int .i64 v, .int .i64 z] 50))) : wpList Tryz.prog ops Q (o :: rest) a w := by
  obtain ⟨ii, h0, h1, h2, h3⟩ := info_parts infoCmd
  refine wpList_buildSlice hg 72 50 1 _ ho _ ii _ Tryz.underlying72 h0 h1 (by rw [h2]; decide) (by rw [h2]; decide) ?_ h
  rw [Array.toList_map]
  show Instr.fill _ _ [(0, a.eval x)] = _
  rw [hx, h2]
  kernel_rfl
theorem fromL_flat (l : List (Nat × M.Cmd)) : fromL l = l.flatMap (fun q => [.int .i64 (q.1 : Int)]) := by
  unfold fromL
  induction l with
  | nil => rfl
  | cons a l ih => rw [List.map_cons, List.flatMap_cons, ih]; rfl
theorem shot_wait (g : M.Game) (i : Nat) (c : M.Cmd) (k : Nat) : ((g.shot i c).seat k).wait = (g.seat k).wait := by
  have p1 : ∀ k, ((g.put i ((g.seat i).paid g.tick)).seat k).wait = (g.seat k).wait := fun k => by
    by_cases e : k = i
    · subst e; rw [M.Game.put_at]; rfl
    · rw [M.Game.put_ne _ _ e]
  unfold M.Game.shot
  split
  · rw [← p1 k]
    generalize g.put i ((g.seat i).paid g.tick) = G
    generalize (G.victim i (g.seat i).pos (M.wayP c.aim) (M.bring c.time (256 * (g.tick - 16)) (256 * g.tick)) 8) = v
    unfold M.Game.harmed
    split
    · rfl
    · by_cases e : k = v.1
      · subst e
        rw [M.Game.put_at]
        unfold M.Seat.harm
        split <;> rfl
      · rw [M.Game.put_ne _ _ e]
  · rfl
theorem gShot_any (b i : Nat) (m gv : Value) (lx : Option Addr) (ln lc : Nat) (g : M.Game) (wv : Nat → Value) (c : M.Cmd) (w : World) (hi : i < 8) (h : Gc w b m (.slice lx ln lc) (.int .i64 g.tick) gv (fun i => seatV (g.seat i) (wv i))) (hwv : ∀ i, ∃ x n c, wv i = .slice x n c) (hf : g.Fit)
    (hlog : w.ownsRow 0 125 6 gv g.log.length (trks g.log)) (hne : ∀ k, gv.ownBlock = some k → k ≠ b) (hlf : w.ownsRow 0 93 7 (.slice lx ln lc) g.leafs.length (flat g.leafs)) (hne2 : ∀ k, (Value.slice lx ln lc).ownBlock = some k → k ≠ b) (hco : M.CmdOk c) :
    Calls Tryz.prog 64 #[.pointer (some ⟨b, 0, none⟩), .int .i64 i, .agg #[.int .i64 c.seq, .bool c.fire, .int .i64 c.mv.x, .int .i64 c.mv.y, .int .i64 c.mv.z, .int .i64 c.aim.x, .int .i64 c.aim.y, .int .i64 c.aim.z, .int .i64 c.time]] w (ShotPost b m (.slice lx ln lc) gv (g.shot i c) wv w) := by
  cases hc : g.mayShoot i
  · have e : g.shot i c = g := by unfold M.Game.shot; rw [if_neg (by rw [hc]; exact fun e => by cases e)]
    rw [e]
    exact gShot_no b i m (.slice lx ln lc) gv g wv c w hi h hwv hf hc
  · exact gShot_yes b i m gv lx ln lc g wv c w hi h hwv hf hlog hne hlf hne2 hco hc
theorem Run.post {S X : Nat → Prop} {b : Nat} {lv r : Value} {w W : World} {g : M.Game} (h : Run S X b lv w g W) : GdPost S b lv w r g (.returned r) W := by
  obtain ⟨h1, gv, wv, hd⟩ := h
  exact ⟨rfl, h1, gv, wv, hd.more (fun k hk => hk.imp (fun e => e) (fun e => ⟨e.1, e.2.1⟩))⟩
theorem take_next {α : Type} {l : List α} {i : Nat} {q : α} (h : l[i]? = some q) : l.take (i + 1) = l.take i ++ [q] := by
  rw [List.take_add_one, h]; rfl

set_option maxRecDepth 100000 in
set_option maxHeartbeats 8000000 in
theorem dg_step {S : Nat → Prop} {b : Nat} {lv gv : Value} {wv : Nat → Value} {g : M.Game} {w : World} (h : Gd w S b lv gv wv g) (hS : ∀ k, S k → k < w.heap.size) (hf : g.Fit) (hp : g.Steps) (F : Int × M.Game) (hF : Hid (g.step = F)) :
    Calls Tryz.prog 41 #[.pointer (some ⟨b, 0, none⟩)] w (GdPost S b lv w (.int .i64 F.1) F.2) := by
  obtain ⟨lx, ln, lc, rfl⟩ := h.ls
  have HG := hid h
  have HS := hid hS
  have HF := hid hf
  have HP := hid hp
  have ct := h.gc.ct
  have lb := h.gc.lt
  have fr := h.gc.free
  have t0 := hf.t0
  have t1 := hf.t1
  clear h hS hf hp
  by_cases h3 : 3000 ≤ g.tick
  · obtain rfl : (11, g) = F := by rw [← hF.out]; unfold M.Game.step; rw [if_pos h3]
    clear hF
    go_enter Tryz.func41, Tryz.ntmps41
    go_wp2
    go_ret
    exact .same HG.out (Below.refl _ _)
  · obtain rfl : (0, g.walk) = F := by rw [← hF.out]; unfold M.Game.step; rw [if_neg h3]
    have FN := hid (HP.out.n (by omega))
    clear hF
    have R0 := hid (show Run S noX b (.slice lx ln lc) w (g.up1.mapTo (fun s => s.back (g.tick + 1)) 0) (w.setCell ⟨b, 2, none⟩ (.int .i64 (g.tick + 1))) from by
      rw [M.Game.map_0]
      exact Run.seats (OnS.refl S w) (fun k hk => hk.elim) (HG.out.more (fun k hk => .inl hk)) (On.set b 2 w _) rfl rfl rfl (fun i => rfl) (HG.out.gc.setT _))
    go_enter Tryz.func41, Tryz.ntmps41
    go_wp2_with fail
    generalize w.setCell ⟨b, 2, none⟩ (.int .i64 (g.tick + 1)) = W0 at R0 ⊢
    clear ct fr lb
    go_loopg [3] 9 (fun k u3 wr => ∃ i : Nat, u3 = .int .i64 i ∧ i ≤ 8 ∧ k + i = 9 ∧ Hid (Run S noX b (.slice lx ln lc) w (g.up1.mapTo (fun s => s.back (g.tick + 1)) i) wr))
    case atStart => exact ⟨0, rfl, by omega, rfl, R0⟩
    case round =>
      clear R0
      obtain ⟨i, rfl, hi, hk, RJ⟩ := hrel
      have i0 : (0 : Int) ≤ (i : Int) := by omega
      by_cases hlt : i < 8
      · as_aux_lemma =>
          have i1 : (i : Int) < 8 := by omega
          obtain ⟨hon, gv', wv', hd⟩ := RJ.out
          have HON := hid hon
          have HD := hid hd
          have es : (g.up1.mapTo (fun s => s.back (g.tick + 1)) i).seat i = g.seat i := by rw [M.Game.map_at]; rfl
          obtain ⟨c0, c1, c2, c3, c4, c5, c6, c7, c8, c9, c10, c11, c12, c13, c14⟩ := hd.gc.seat hlt (fun k hk => by rw [es])
          have ct := hd.gc.ct
          have et : (g.up1.mapTo (fun s => s.back (g.tick + 1)) i).tick = g.tick + 1 := rfl
          rw [et] at ct
          have lb := hd.gc.lt
          have sn := HF.out.s i hlt
          have dd := HF.out.d i hlt
          have nx : Hid (g.up1.mapTo (fun s => s.back (g.tick + 1)) (i + 1) = (g.up1.mapTo (fun s => s.back (g.tick + 1)) i).put i ((g.seat i).back (g.tick + 1))) := by
            unfold Hid; rw [← M.Game.map_next]; rfl
          have sm : Hid ((g.seat i).back (g.tick + 1) = g.seat i → g.up1.mapTo (fun s => s.back (g.tick + 1)) (i + 1) = g.up1.mapTo (fun s => s.back (g.tick + 1)) i) := fun e => M.Game.map_same _ _ e
          obtain ⟨g1, g2, _, _, _, _, _, _, _⟩ := sn
          have ES := hid es
          generalize g.seat i = s at *
          clear hon hd es et c2 c3 c4 c5 c6 c7 c8 c9 c10 c12 c13 c14
          by_cases hB : s.here = true ∧ s.live = false ∧ s.died + 8 = g.tick + 1
          · obtain ⟨k1, k2, k3⟩ := hB
            have EB := hid (M.back_yes ⟨k1, k2, k3⟩)
            obtain ⟨d1, d2⟩ := dd k1 k2
            rw [k1] at c0
            rw [k2] at c1
            have z : (s.died + 8 == g.tick + 1) = true := by simp [k3]
            clear k1 k2 k3 dd sm
            go_wp2_with fail
            go_quiet (fail)
            go_wp2_with fail
            refine (gArrive_any b i _ (.slice lx ln lc) _ gv' _ s (wv' i) _ hlt (show Gc (wr.drewN nq) b _ (.slice lx ln lc) _ gv' _ from HD.out.gc.of rfl HD.out.gc.lt) (fun k hk => by rw [ES.out]) g1 g2).mono ?_
            rintro e w5 ⟨rfl, G5, O5⟩
            have R5 := hid (show Run S noX b (.slice lx ln lc) w (g.up1.mapTo (fun s => s.back (g.tick + 1)) (i + 1)) w5 from by
              rw [nx.out]
              refine Run.seats HON.out (fun k hk => hk.elim) HD.out ((On.below (below_drewN (Below.refl _ _) nq)).trans O5) rfl rfl rfl (fun j => ?_) (G5.congr (fun j k hj hk => ?_))
              · by_cases e : j = i
                · subst e; rw [M.Game.put_at, M.back_wait, ES.out]
                · rw [M.Game.put_ne _ _ e]
              · by_cases e : j = i
                · subst e; rw [if_pos rfl, M.Game.put_at, EB.out]
                · rw [if_neg e, M.Game.put_ne _ _ e])
            clear G5 O5 RJ HD HON
            go_wp2
            go_roundg (gk - 1)
            case measure => omega
            case rel => exact ⟨i + 1, by go_num, by omega, by omega, R5⟩
          · have EB := hid (sm.out (M.back_no hB))
            clear nx sm
            cases kh : s.here
            · rw [kh] at c0
              clear hB dd kh
              go_wp2_with fail
              go_quiet (fail)
              go_wp2
              go_roundg (gk - 1)
              case measure => omega
              case rel => exact ⟨i + 1, by go_num, by omega, by omega, hid (by rw [EB.out]; exact RJ.out.after (below_drewN (Below.refl _ _) nq) (fun k hk => hk.elim))⟩
            cases kl : s.live
            · obtain ⟨d1, d2⟩ := dd kh kl
              have z : (s.died + 8 == g.tick + 1) = false := beq_eq_false_iff_ne.2 (fun e => hB ⟨kh, kl, e⟩)
              rw [kh] at c0
              rw [kl] at c1
              clear hB dd kh kl
              go_wp2_with fail
              go_quiet (fail)
              go_wp2
              go_roundg (gk - 1)
              case measure => omega
              case rel => exact ⟨i + 1, by go_num, by omega, by omega, hid (by rw [EB.out]; exact RJ.out.after (below_drewN (Below.refl _ _) nq) (fun k hk => hk.elim))⟩
            · rw [kh] at c0
              rw [kl] at c1
              clear hB dd kh kl
              go_wp2_with fail
              go_quiet (fail)
              go_wp2
              go_roundg (gk - 1)
              case measure => omega
              case rel => exact ⟨i + 1, by go_num, by omega, by omega, hid (by rw [EB.out]; exact RJ.out.after (below_drewN (Below.refl _ _) nq) (fun k hk => hk.elim))⟩
      · obtain rfl : i = 8 := by omega
        as_aux_lemma =>
          have j1 : ¬ (8 : Int) < 8 := by omega
          have R1 := hid (show Run S (twoX (.slice none 0 0) (.slice none 0 0)) b (.slice lx ln lc) w (g.backs.mapTo (fun s => s.obey g.leafs) 0) wr from by
            rw [M.Game.map_0]
            exact Run.other (X := noX) RJ.out HS.out (fun k hk => hk.elim) (OnS.refl _ _) (fun k hk => by rcases hk with e | e <;> cases e))
          have T1 := hid (show Two w wr (.slice none 0 0) (.slice none 0 0) (g.backs.firesTo 0) from ⟨⟨rfl, .inl ⟨rfl, rfl⟩⟩, ⟨rfl, .inl ⟨rfl, rfl⟩⟩, fun k hk => by cases hk⟩)
          clear RJ
          go_wp2_with fail
          clear hi hk hlt i0
          go_loopg [4, 5, 6, 7, 8] 9 (fun k u4 u5 u6 u7 u8 wr2 => ∃ i : Nat, u6 = .int .i64 i ∧ i ≤ 8 ∧ k + i = 9 ∧ Hid (Two w wr2 u4 u5 (g.backs.firesTo i)) ∧ Hid (Run S (twoX u4 u5) b (.slice lx ln lc) w (g.backs.mapTo (fun s => s.obey g.leafs) i) wr2))
          case atStart => exact ⟨0, rfl, by omega, rfl, T1, R1⟩
          case round =>
            clear R1 T1
            obtain ⟨i, rfl, hi, hk, TJ, RJ⟩ := hrel
            have i0 : (0 : Int) ≤ (i : Int) := by omega
            by_cases hlt : i < 8
            · as_aux_lemma =>
                have i1 : (i : Int) < 8 := by omega
                obtain ⟨hon, gv', wv', hd⟩ := RJ.out
                have HON := hid hon
                have HD := hid hd
                have es : (g.backs.mapTo (fun s => s.obey g.leafs) i).seat i = g.backs.seat i := M.Game.map_at _ _ _
                have ew : (g.backs.seat i).wait = (g.seat i).wait := by unfold M.Game.backs; rw [M.Game.map_in _ _ hlt, M.back_wait]; rfl
                have wl := HP.out.l i hlt
                have pc := hid (HP.out.p i hlt)
                rw [← ew] at wl
                have nx : Hid (g.backs.mapTo (fun s => s.obey g.leafs) (i + 1) = (g.backs.mapTo (fun s => s.obey g.leafs) i).put i ((g.backs.seat i).obey g.leafs)) := by
                  unfold Hid; rw [← M.Game.map_next]
                have sm : Hid ((g.backs.seat i).obey g.leafs = g.backs.seat i → g.backs.mapTo (fun s => s.obey g.leafs) (i + 1) = g.backs.mapTo (fun s => s.obey g.leafs) i) := fun e => M.Game.map_same _ _ e
                have fx : Hid (g.backs.firesTo (i + 1) = g.backs.firesTo i ++ (g.backs.seat i).fires i) := hid rfl
                have fl := M.firesTo_len g.backs i
                have ES := hid es
                have hwt := hd.wt i hlt
                rw [es] at hwt
                obtain ⟨x, n, cp, hv⟩ := hd.ws i
                have hn : n = (g.backs.seat i).wait.length := by
                  rw [hv] at hwt
                  rcases own_shape hwt with ⟨e1, e2⟩ | ⟨g0, c0, e1, _⟩
                  · cases e1; exact e2.symm
                  · cases e1; rfl
                subst hn
                have HV := hid hv
                have HWT := hid hwt
                have seq : Hid (∀ k, k < 15 → seatV ((g.backs.mapTo (fun s => s.obey g.leafs) i).seat i) (wv' i) k = seatV (g.backs.seat i) (.slice x (g.backs.seat i).wait.length cp) k) := fun k hk => by rw [es, hv]
                have lb := hd.gc.lt
                have TL := hid (show ∀ k, twoX u4 u5 k → k < wr.heap.size from TJ.out.lt)
                generalize g.backs.seat i = s at *
                generalize g.backs.firesTo i = L at *
                clear hon hd es ew hwt hv
                by_cases hA : s.here = false ∨ s.wait = []
                · have ob := M.obey_no g.leafs i hA
                  have EB := hid (sm.out ob.1)
                  have EF := hid (show g.backs.firesTo (i + 1) = L from by rw [fx.out, ob.2, List.append_nil])
                  have hA2 : s.here = false ∨ s.wait.length = 0 := hA.imp (fun e => e) (fun e => by rw [e]; rfl)
                  clear nx sm fx ob hA
                  go_wp2_with fail
                  refine (gWants_no b i _ (.slice lx ln lc) _ gv' _ s x s.wait.length cp _ hlt HD.out.gc seq.out wl hA2).mono ?_
                  rintro e w2 ⟨rfl, hb2⟩
                  have T2 := hid (TJ.out.after hb2)
                  have R2 := hid (RJ.out.after hb2 TL.out)
                  have z2 := T2.out.lt
                  clear hb2 TJ RJ HD HON hA2
                  go_wp2
                  go_roundg (gk - 1)
                  case measure => omega
                  case rel => exact ⟨i + 1, by go_num, by omega, by omega, hid (by rw [EF.out]; exact T2.out.after (by go_grown)), hid (by rw [EB.out]; exact R2.out.after (by go_grown) z2)⟩
                · have hh : s.here = true := by
                    cases e : s.here
                    · exact absurd (.inl e) hA
                    · rfl
                  obtain ⟨c, rest, hw⟩ : ∃ c r, s.wait = c :: r := by
                    cases e : s.wait with
                    | nil => exact absurd (.inr e) hA
                    | cons c r => exact ⟨c, r, rfl⟩
                  have el : s.wait.length = rest.length + 1 := by rw [hw]; rfl
                  have hr : rest.length ≤ 3 := by omega
                  obtain ⟨g0, rfl⟩ : ∃ g0, x = some ⟨g0, 0, none⟩ := by
                    rcases own_shape (HV.out ▸ HWT.out) with ⟨e1, e2⟩ | ⟨g0, c0, e1, _⟩
                    · omega
                    · cases e1; exact ⟨g0, rfl⟩
                  have hg0 : g0 < wr.heap.size := own_lt (HV.out ▸ HWT.out) rfl
                  have HW1 := hid (show wr.ownsRow 0 50 9 (.slice (some ⟨g0, 0, none⟩) (rest.length + 1) cp) (rest.length + 1) (cmds (c :: rest)) from by
                    have q := HWT.out
                    rw [HV.out, el, hw] at q
                    exact q)
                  have seq2 : Hid (∀ k, k < 15 → seatV ((g.backs.mapTo (fun s => s.obey g.leafs) i).seat i) (wv' i) k = seatV s (.slice (some ⟨g0, 0, none⟩) (rest.length + 1) cp) k) := fun k hk => by rw [seq.out k hk, el]
                  clear hA sm HWT wl
                  go_wp2_with fail
                  refine (gWants_yes b i g0 cp 0 _ (.slice lx ln lc) _ gv' _ s c rest _ hlt HD.out.gc seq2.out hr hh HW1.out hg0).mono ?_
                  rintro e w2 ⟨rfl, ho2, v', hown2, hgc2⟩
                  have SW := HD.out.swap (g' := (g.backs.mapTo (fun s => s.obey g.leafs) i).put i { s with wait := rest }) (v' := v') (W2 := w2) hlt (Touch.on ho2) (fun k hk => .inr (row_own2 hown2 k hk)) (row_slice hown2)
                    (by rw [M.Game.put_at]; exact ⟨hown2.1, hown2.2.imp (fun e => e) (fun ⟨g9, c9, cur, e1, e2, e3⟩ => ⟨g9, c9, cur, e1, Nat.zero_le _, e3⟩)⟩) rfl rfl rfl (fun j hj => by rw [M.Game.put_ne _ _ hj])
                    (hgc2.congr (fun j k hj hk => by
                      by_cases e : j = i
                      · subst e; rw [if_pos rfl, if_pos rfl, M.Game.put_at]
                      · rw [if_neg e, if_neg e, M.Game.put_ne _ _ e]))
                  have T2 := hid (TJ.out.keep HS.out SW.1)
                  have R2 := hid (Run.step HON.out TL.out SW)
                  clear ho2 hown2 hgc2 SW TJ RJ HD HON HW1 seq seq2 HV hg0
                  have z2 := hid T2.out.lt
                  cases hl : s.live
                  · have ob := M.obey_dead g.leafs i hh hw hl
                    have EB := hid (show g.backs.mapTo (fun s => s.obey g.leafs) (i + 1) = (g.backs.mapTo (fun s => s.obey g.leafs) i).put i { s with wait := rest } from by rw [← ob.1]; exact nx.out)
                    have EF := hid (show g.backs.firesTo (i + 1) = L from by rw [fx.out, ob.2, List.append_nil])
                    clear nx fx ob hw hh hl
                    go_wp2
                    go_roundg (gk - 1)
                    case measure => omega
                    case rel => exact ⟨i + 1, by go_num, by omega, by omega, hid (by rw [EF.out]; exact T2.out.after (by go_grown)), hid (by rw [EB.out]; exact R2.out.after (by go_grown) z2.out)⟩
                  have ob := M.obey_live g.leafs i hh hw hl
                  have EB := hid (show g.backs.mapTo (fun s => s.obey g.leafs) (i + 1) = (g.backs.mapTo (fun s => s.obey g.leafs) i).put i { s with wait := rest, pos := M.walkR g.leafs s.pos c.mv } from by rw [← ob.1]; exact nx.out)
                  have EF := hid (show g.backs.firesTo (i + 1) = L ++ (if c.fire = true then [(i, c)] else []) from by rw [fx.out, ob.2])
                  obtain ⟨V, hV⟩ : ∃ V, w2.alloc (.cells #[.int .i64 c.seq, .bool c.fire, .int .i64 c.mv.x, .int .i64 c.mv.y, .int .i64 c.mv.z, .int .i64 c.aim.x, .int .i64 c.aim.y, .int .i64 c.aim.z, .int .i64 c.time] 50) = V := ⟨_, rfl⟩
                  have QC := hid (show Blk V w2.heap.size #[.int .i64 c.seq, .bool c.fire, .int .i64 c.mv.x, .int .i64 c.mv.y, .int .i64 c.mv.z, .int .i64 c.aim.x, .int .i64 c.aim.y, .int .i64 c.aim.z, .int .i64 c.time] 50 from by rw [← hV]; exact Blk.new rfl)
                  have bV : Below w2.heap.size w2 V := by rw [← hV]; go_grown
                  have R3 := hid (R2.out.after bV z2.out)
                  have T3 := hid (T2.out.after bV)
                  have z22 : w.heap.size ≤ w2.heap.size := R2.out.1.size
                  clear nx fx ob hw hh hl R2 T2 z2 bV
                  obtain ⟨hon3, gv3, wv3, hd3⟩ := R3.out
                  have HON := hid hon3
                  have HD := hid hd3
                  have e3 : ((g.backs.mapTo (fun s => s.obey g.leafs) i).put i { s with wait := rest }).seat i = { s with wait := rest } := M.Game.put_at _ _ _
                  obtain ⟨c0, c1, c2, c3, c4, c5, c6, c7, c8, c9, c10, c11, c12, c13, c14⟩ := hd3.gc.seat hlt (fun k hk => by rw [e3])
                  simp only at c2 c3 c4
                  obtain ⟨q0, q1, q2, q3, q4, q5, q6, q7, q8, qf, ql⟩ := QC.out.nine2
                  have lb3 := hd3.gc.lt
                  have fr3 := hd3.gc.free
                  obtain ⟨Q, hQ⟩ : ∃ Q, M.walkR g.leafs s.pos c.mv = Q := ⟨_, rfl⟩
                  have HM := hid (fun (W : World) (hB : Below V.heap.size V W) => show Calls Tryz.prog 63 #[.pointer (some ⟨b, 0, none⟩), .agg #[.int .i64 s.pos.x, .int .i64 s.pos.y, .int .i64 s.pos.z], .agg #[.int .i64 c.mv.x, .int .i64 c.mv.y, .int .i64 c.mv.z]] W (fun e W' => e = .returned (.agg #[.int .i64 Q.x, .int .i64 Q.y, .int .i64 Q.z]) ∧ Below W.heap.size W W') from by
                    have nr := M.wayTo_near pc.out.inB (M.goal_cube s.pos c.mv)
                    have := gMoved_any b _ _ gv3 lx ln lc _ s.pos c.mv W (hd3.gc.after hB) pc.out (fun W => W.ownsRow 0 93 7 (.slice lx ln lc) g.leafs.length (flat g.leafs)) (own_of hd3.lf (fun k hk => hB.block k (own_lt hd3.lf hk))) (fun W W' hr hb => own_of hr (fun k hk => hb.block k (own_lt hr hk)))
                      (M.wallB s.pos (M.wayTo s.pos (M.goal s.pos c.mv)) g.leafs) (fun W hr => (rtrace_any lx ln lc 0 g.leafs s.pos (M.wayTo s.pos (M.goal s.pos c.mv)) W hr HF.out.ll pc.out.near nr HF.out.lc).mono (fun e W' h => by
                        obtain ⟨f, n, k, rfl, hE, hb⟩ := h
                        exact ⟨⟨n, k, by rw [M.wallB_is hE]⟩, hb⟩))
                    rw [← hQ]
                    exact this)
                  rw [hQ] at EB
                  have E3 := hid e3
                  clear hon3 hd3 e3 c0 c1 c5 c6 c7 c8 c9 c10 c11 c12 c13 c14 hQ
                  go_upto_region 18 with fail
                  try rw [hV]
                  clear hV
                  have DP := hid (fun (W : World) (hB : Below V.heap.size V W) => show W.cell? ⟨b, 3 + i * 15 + 2, none⟩ = some (.int .i64 s.pos.x) ∧ W.cell? ⟨b, 3 + i * 15 + 3, none⟩ = some (.int .i64 s.pos.y) ∧ W.cell? ⟨b, 3 + i * 15 + 4, none⟩ = some (.int .i64 s.pos.z) from by
                    have c := (HD.out.gc.after hB).seat hlt (fun k hk => by rw [E3.out])
                    exact ⟨c.2.2.1, c.2.2.2.1, c.2.2.2.2.1⟩)
                  have nqb : b ≠ w2.heap.size := by have := HG.out.gc.lt; omega
                  refine wp_region_held_drew (S := (fun w' => w'.cell? ⟨w2.heap.size, 2, none⟩ = some (.int .i64 c.mv.x) ∧ w'.cell? ⟨w2.heap.size, 3, none⟩ = some (.int .i64 c.mv.y) ∧ w'.cell? ⟨w2.heap.size, 4, none⟩ = some (.int .i64 c.mv.z))) (by kernel_rfl) ⟨q2, q3, q4⟩ (fun hHeld => ?_)
                  refine take_lit (i := 0) (oi := _) (v := ?v0) rfl (by kernel_rfl) (by kernel_rfl) (by kernel_rfl) (fun _ _ _ h => h) (Or.inl ⟨by rfl, ?hy0⟩) (by assumption) ?rest0
                  case hy0 => (intro w hSw; (try dsimp only at hSw); go_simp; first | done | (with_reducible rfl))
                  simp only [Act.put, List.setIfInBounds_toArray, List.set_cons_zero, List.set_cons_succ]
                  refine take_lit (i := 1) (oi := _) (v := ?v1) rfl (by kernel_rfl) (by kernel_rfl) (by kernel_rfl) (fun _ _ _ h => h) (Or.inl ⟨by rfl, ?hy1⟩) (by assumption) ?rest1
                  case hy1 => (intro w hSw; (try dsimp only at hSw); go_simp; first | done | (with_reducible rfl))
                  simp only [Act.put, List.setIfInBounds_toArray, List.set_cons_zero, List.set_cons_succ]
                  refine take_lit (i := 2) (oi := _) (v := ?v2) rfl (by kernel_rfl) (by kernel_rfl) (by kernel_rfl) (fun _ _ _ h => h) (Or.inl ⟨by rfl, ?hy2⟩) (by assumption) ?rest2
                  case hy2 => (intro w hSw; (try dsimp only at hSw); go_simp; first | done | (with_reducible rfl))
                  simp only [Act.put, List.setIfInBounds_toArray, List.set_cons_zero, List.set_cons_succ]
                  refine take_lit (i := 3) (oi := _) (v := ?v3) rfl (by kernel_rfl) (by kernel_rfl) (by kernel_rfl) (fun _ _ _ h => h) (Or.inl ⟨by rfl, ?hy3⟩) (by assumption) ?rest3
                  case hy3 => (intro w hSw; (try dsimp only at hSw); go_simp; first | done | (with_reducible rfl))
                  simp only [Act.put, List.setIfInBounds_toArray, List.set_cons_zero, List.set_cons_succ]
                  refine take_lit (i := 4) (oi := _) (v := ?v4) rfl (by kernel_rfl) (by kernel_rfl) (by kernel_rfl) (fun _ _ _ h => h) (Or.inl ⟨by rfl, ?hy4⟩) (by assumption) ?rest4
                  case hy4 => (intro w hSw; (try dsimp only at hSw); go_simp; first | done | (with_reducible rfl))
                  simp only [Act.put, List.setIfInBounds_toArray, List.set_cons_zero, List.set_cons_succ]
                  refine take_lit (i := 5) (oi := _) (v := ?v5) rfl (by kernel_rfl) (by kernel_rfl) (by kernel_rfl) (fun _ _ _ h => h) (Or.inl ⟨by rfl, ?hy5⟩) (by assumption) ?rest5
                  case hy5 => (intro w hSw; (try dsimp only at hSw); go_simp; first | done | (with_reducible rfl))
                  simp only [Act.put, List.setIfInBounds_toArray, List.set_cons_zero, List.set_cons_succ]
                  refine take_lit (i := 6) (oi := _) (v := ?v6) rfl (by kernel_rfl) (by kernel_rfl) (by kernel_rfl) (fun _ _ _ h => h) (Or.inl ⟨by rfl, ?hy6⟩) (by assumption) ?rest6
                  case hy6 => (intro w hSw; (try dsimp only at hSw); go_simp; first | done | (with_reducible rfl))
                  simp only [Act.put, List.setIfInBounds_toArray, List.set_cons_zero, List.set_cons_succ]
                  refine take_lit (i := 7) (oi := _) (v := ?v7) rfl (by kernel_rfl) (by kernel_rfl) (by kernel_rfl) (fun _ _ _ h => h) (Or.inl ⟨by rfl, ?hy7⟩) (by assumption) ?rest7
                  case hy7 => (intro w hSw; (try dsimp only at hSw); go_simp; first | done | (with_reducible rfl))
                  simp only [Act.put, List.setIfInBounds_toArray, List.set_cons_zero, List.set_cons_succ]
                  refine take_lit (i := 8) (oi := _) (v := ?v8) rfl (by kernel_rfl) (by kernel_rfl) (by kernel_rfl) (fun _ _ _ h => h) (Or.inl ⟨by rfl, ?hy8⟩) (by assumption) ?rest8
                  case hy8 => (intro w hSw; (try dsimp only at hSw); go_simp; first | done | (with_reducible rfl))
                  simp only [Act.put, List.setIfInBounds_toArray, List.set_cons_zero, List.set_cons_succ]
                  refine take_lit (i := 10) (oi := _) (v := ?v10) rfl (by kernel_rfl) (by kernel_rfl) (by kernel_rfl) (fun _ _ _ h => h) (Or.inl ⟨by rfl, ?hy10⟩) (by assumption) ?rest10
                  case hy10 => (intro w hSw; (try dsimp only at hSw); go_simp; first | done | (with_reducible rfl))
                  simp only [Act.put, List.setIfInBounds_toArray, List.set_cons_zero, List.set_cons_succ]
                  refine take_lit (i := 11) (oi := _) (v := ?v11) rfl (by kernel_rfl) (by kernel_rfl) (by kernel_rfl) (fun _ _ _ h => h) (Or.inl ⟨by rfl, ?hy11⟩) (by assumption) ?rest11
                  case hy11 => (intro w hSw; (try dsimp only at hSw); go_simp; first | done | (with_reducible rfl))
                  simp only [Act.put, List.setIfInBounds_toArray, List.set_cons_zero, List.set_cons_succ]
                  refine take_lit (i := 13) (oi := _) (v := ?v13) rfl (by kernel_rfl) (by kernel_rfl) (by kernel_rfl) (fun _ _ _ h => h) (Or.inl ⟨by rfl, ?hy13⟩) (by assumption) ?rest13
                  case hy13 => (intro w hSw; (try dsimp only at hSw); go_simp; first | done | (with_reducible rfl))
                  simp only [Act.put, List.setIfInBounds_toArray, List.set_cons_zero, List.set_cons_succ]
                  refine take_lit (i := 14) (oi := _) (v := ?v14) rfl (by kernel_rfl) (by kernel_rfl) (by kernel_rfl) (fun _ _ _ h => h) (Or.inl ⟨by rfl, ?hy14⟩) (by assumption) ?rest14
                  case hy14 => (intro w hSw; (try dsimp only at hSw); go_simp; first | done | (with_reducible rfl))
                  simp only [Act.put, List.setIfInBounds_toArray, List.set_cons_zero, List.set_cons_succ]
                  refine wpAnyH_ready (rs := [9]) (by kernel_rfl) (by simp) ?_
                  refine AllReadyH.cons rfl (fun K hK => ?_) AllReadyH.nil
                  go_simp
                  refine hK.out _ _ ?hS9 (fun hHeld2 => ?_)
                  case hS9 => exact ⟨q2, q3, q4⟩
                  clear hK K hHeld
                  refine wpAnyH_ready (rs := [12]) (by kernel_rfl) (by simp) ?_
                  refine AllReadyH.cons rfl (fun K hK => ?_) AllReadyH.nil
                  go_simp
                  refine (HM.out _ ?_).mono ?_
                  · go_grown
                  rintro e w6 ⟨rfl, hb6⟩
                  have B6 : Below V.heap.size V w6 := bl (by go_grown) hb6
                  clear hb6
                  obtain ⟨_, _, m2, m3, m4, _, _, _, _, _, _⟩ := (QC.out.after B6).nine2
                  have fr6 := (HD.out.gc.after B6).free
                  have lb6 := (HD.out.gc.after B6).lt
                  obtain ⟨d2, d3, d4⟩ := DP.out w6 B6
                  go_simp
                  refine hK.out _ _ ?hS12 (fun hHeld3 => ?_)
                  case hS12 => exact ⟨m2, m3, m4⟩
                  clear hK K hHeld2
                  try simp only [Act.put, List.setIfInBounds_toArray, List.set_cons_zero, List.set_cons_succ]
                  refine take_lit (i := 15) (oi := _) (v := ?v15) rfl (by kernel_rfl) (by kernel_rfl) (by kernel_rfl) (fun _ _ _ h => h) (Or.inl ⟨by rfl, ?hy15⟩) (by assumption) ?rest15
                  case hy15 => (intro w hSw; (try dsimp only at hSw); go_simp; first | done | (with_reducible rfl))
                  simp only [Act.put, List.setIfInBounds_toArray, List.set_cons_zero, List.set_cons_succ]
                  refine take_lit (i := 16) (oi := _) (v := ?v16) rfl (by kernel_rfl) (by kernel_rfl) (by kernel_rfl) (fun _ _ _ h => h) (Or.inl ⟨by rfl, ?hy16⟩) (by assumption) ?rest16
                  case hy16 => (intro w hSw; (try dsimp only at hSw); go_simp; first | done | (with_reducible rfl))
                  simp only [Act.put, List.setIfInBounds_toArray, List.set_cons_zero, List.set_cons_succ]
                  refine wpAnyH_ready (rs := [17]) (by kernel_rfl) (by simp) ?_
                  refine AllReadyH.cons rfl (fun K hK => ?_) AllReadyH.nil
                  go_simp
                  refine hK.out _ _ ?hS17 (fun hHeld4 => ?_)
                  case hS17 => simp [m2, m3, m4, cell_set_blk, nqb]
                  clear hK K hHeld3 hHeld4
                  refine wpAnyH_done (by kernel_rfl) ?_ _
                  obtain ⟨W7, hW7⟩ : ∃ W7, ((w6.setCell ⟨b, 3 + i * 15 + 2, none⟩ (.int .i64 Q.x)).setCell ⟨b, 3 + i * 15 + 2 + 1, none⟩ (.int .i64 Q.y)).setCell ⟨b, 3 + i * 15 + 2 + 2, none⟩ (.int .i64 Q.z) = W7 := ⟨_, rfl⟩
                  have O7 : On b V W7 := by rw [← hW7]; exact (((On.below B6).trans (On.set b _ _ _)).trans (On.set b _ _ _)).trans (On.set b _ _ _)
                  have R7 := hid (show Run S (twoX u4 u5) b (.slice lx ln lc) w (g.backs.mapTo (fun s => s.obey g.leafs) (i + 1)) W7 from by
                    rw [EB.out]
                    refine Run.seats HON.out T3.out.lt HD.out O7 rfl rfl rfl (fun j => ?_) ?_
                    · by_cases e : j = i
                      · subst e; rw [M.Game.put_at, M.Game.put_at]
                      · rw [M.Game.put_ne _ _ e, M.Game.put_ne _ _ e]
                    · rw [← hW7]
                      refine ((((HD.out.gc.after B6).setS i 2 hlt (by omega) (.int .i64 Q.x)).setS i 3 hlt (by omega) (.int .i64 Q.y)).setS i 4 hlt (by omega) (.int .i64 Q.z)).congr (fun j o hj ho => ?_)
                      by_cases e : j = i
                      · subst e
                        rw [M.Game.put_at, M.Game.put_at]
                        simp only [true_and]
                        rcases fifteen ho with rfl | rfl | rfl | rfl | rfl | rfl | rfl | rfl | rfl | rfl | rfl | rfl | rfl | rfl | rfl <;> rfl
                      · simp [M.Game.put_ne _ _ e, e])
                  have T7 := hid (T3.out.keep HS.out (OnS.on O7 HD.out.sb))
                  have Q7 := hid (QC.out.on O7 (fun e => nqb e.symm))
                  have z7 : w.heap.size ≤ W7.heap.size := R7.out.1.size
                  clear O7 fr6 lb6 d2 d3 d4 m2 m3 m4 B6 DP HM HON HD R3 T3 QC q0 q1 q2 q3 q4 q5 q6 q7 q8 qf ql c2 c3 c4 lb3 fr3 E3 EB
                  try rw [hW7]
                  clear hW7
                  obtain ⟨q0, q1, q2, q3, q4, q5, q6, q7, q8, qf, ql⟩ := Q7.out.nine2
                  cases hfi : c.fire
                  · have EF2 := hid (show g.backs.firesTo (i + 1) = L from by rw [EF.out, hfi]; simp)
                    rw [hfi] at q1
                    clear EF hfi
                    go_wp2
                    go_roundg (gk - 1)
                    case measure => omega
                    case rel => exact ⟨i + 1, by go_num, by omega, by omega, by rw [EF2.out]; exact T7, R7⟩
                  have EF2 := hid (show g.backs.firesTo (i + 1) = L ++ [(i, c)] from by rw [EF.out, hfi, if_pos rfl])
                  have ec := hid (show [.int .i64 c.seq, .bool true, .int .i64 c.mv.x, .int .i64 c.mv.y, .int .i64 c.mv.z, .int .i64 c.aim.x, .int .i64 c.aim.y, .int .i64 c.aim.z, .int .i64 c.time] = cmdCells c from by unfold cmdCells; rw [hfi])
                  rw [hfi] at q1
                  clear EF hfi
                  obtain ⟨iC, hc0, hc1, hc2, hc3⟩ := info_parts infoCmd
                  obtain ⟨iI, hi0, hi1, hi2, hi3⟩ := info_parts infoInt
                  go_upto_region 20 with fail
                  go_cut [4] (fun c4 wx => FireCut w W7 u4 u5 L [.int .i64 c.seq, .bool true, .int .i64 c.mv.x, .int .i64 c.mv.y, .int .i64 c.mv.z, .int .i64 c.aim.x, .int .i64 c.aim.y, .int .i64 c.aim.z, .int .i64 c.time] c4 wx)
                  case first =>
                    go_wp2_with (first | (at_builtin; refine wpList_append_lies _ (by rfl) (.tmp 98) (.tmp 100) 72 (by rfl) w.heap.size 50 iC _ 9 72 Tryz.underlying72 hc0 hc1 hc2 hc3 rfl (by omega) u4 L.length (cmds (shotL L)) (by rfl) (Go.World.ownsRow.alloc T7.out.s _) ⟨W7.heap.size, 0, none⟩ 1 1 [.int .i64 c.seq, .bool true, .int .i64 c.mv.x, .int .i64 c.mv.y, .int .i64 c.mv.z, .int .i64 c.aim.x, .int .i64 c.aim.y, .int .i64 c.aim.z, .int .i64 c.time] (by rfl) (by rfl) (World.news_of_block (cs := #[.int .i64 c.seq, .bool true, .int .i64 c.mv.x, .int .i64 c.mv.y, .int .i64 c.mv.z, .int .i64 c.aim.x, .int .i64 c.aim.y, .int .i64 c.aim.z, .int .i64 c.time]) (t := 50) (fr := (0, 0)) (Blk.new rfl).at_) (by simp [Value.oneCell']) (by omega) (by unfold maxLen; omega) (by omega) (by simp; omega) (W7.heap.size + 1) (by simp) ?_; intro g1 cap1 wc hown1 hgrow1 hat1 hlt1) | (refine wpL_oneCmd rfl (.tmp 99) rfl c.seq true c.mv.x c.mv.y c.mv.z c.aim.x c.aim.y c.aim.z c.time rfl ?_))
                    go_meet
                    exact ⟨g1, cap1, rfl, hid hown1, hid ⟨hgrow1.os.trans rfl, hgrow1.tape.trans rfl, hgrow1.output.trans rfl, Nat.le_trans (by simp) hgrow1.size, fun k hk hn => grow_block hgrow1 (by go_grown) hk (fun e => hn (.inl e.symm))⟩, hid (hat1.imp (fun e => e) (fun e => by omega)), hid (own_of T7.out.f (fun k hk => grow_block hgrow1 (by go_grown) (own_lt T7.out.f hk) (fun e => T7.out.ne k e.symm hk)))⟩
                  case rest =>
                    obtain ⟨g1, cap1, rfl, H1, O8, hat1, F8⟩ := hcut
                    have z8 : w.heap.size ≤ wc.heap.size := Nat.le_trans z7 O8.out.size
                    go_wp2_with (at_builtin; refine wpList_append_lies _ (by rfl) (.tmp 102) (.tmp 104) 111 (by rfl) w.heap.size 3 iI _ 1 8 Tryz.underlying111 hi0 hi1 hi2 hi3 rfl (by omega) u5 L.length (fromL L) (by rfl) (Go.World.ownsRow.alloc F8.out _) ⟨wc.heap.size, 0, none⟩ 1 1 [.int .i64 (i : Int)] (by rfl) (by rfl) (World.news_of_block (cs := #[.int .i64 (i : Int)]) (t := 3) (fr := (0, 0)) (Blk.new rfl).at_) (by simp [Value.oneCell']) (by omega) (by unfold maxLen; omega) (by omega) (by simp; omega) (wc.heap.size + 1) (by simp) ?_; intro g2 cap2 w9 hown2 hgrow2 hat2 hlt2)
                    have R8 : Run S (twoX (.slice (some ⟨g1, 0, none⟩) (L.length + 1) cap1) u5) b (.slice lx ln lc) w (g.backs.mapTo (fun s => s.obey g.leafs) (i + 1)) wc := R7.out.other HS.out T7.out.ge O8.out (fun k hk => by
                      rcases hk with e | e
                      · have e : g1 = k := by simpa [Value.ownBlock] using e
                        rw [← e]
                        rcases hat1.out with q | q
                        · exact .inl (.inl q)
                        · right; exact q
                      · exact .inl (.inr e))
                    have n8 : ∀ k, u5.ownBlock = some k → k ≠ g1 := fun k hk e => by
                      have l := own_lt T7.out.f hk
                      rcases hat1.out with q | q
                      · exact T7.out.ne g1 q (by rw [← e]; exact hk)
                      · omega
                    have ge1 : w.heap.size ≤ g1 := row_own2 H1.out g1 rfl
                    have O9 : OnS (twoX (.slice (some ⟨g1, 0, none⟩) (L.length + 1) cap1) u5) wc w9 := ⟨hgrow2.os.trans rfl, hgrow2.tape.trans rfl, hgrow2.output.trans rfl, by have := hgrow2.size; simp at this; omega, fun k hk hn => grow_block hgrow2 (by go_grown) hk (fun e => hn (.inr e.symm))⟩
                    have R9 := hid (show Run S (twoX (.slice (some ⟨g1, 0, none⟩) (L.length + 1) cap1) (.slice (some ⟨g2, 0, none⟩) (L.length + 1) cap2)) b (.slice lx ln lc) w (g.backs.mapTo (fun s => s.obey g.leafs) (i + 1)) w9 from R8.other HS.out (fun k hk => by
                      rcases hk with e | e
                      · have e : g1 = k := by simpa [Value.ownBlock] using e
                        omega
                      · exact row_own2 T7.out.f k e) O9 (fun k hk => by
                      rcases hk with e | e
                      · exact .inl (.inl e)
                      · have e : g2 = k := by simpa [Value.ownBlock] using e
                        rw [← e]
                        rcases hat2 with q | q
                        · exact .inl (.inr q)
                        · right; omega))
                    have T9 := hid (show Two w w9 (.slice (some ⟨g1, 0, none⟩) (L.length + 1) cap1) (.slice (some ⟨g2, 0, none⟩) (L.length + 1) cap2) (L ++ [(i, c)]) from by
                      refine ⟨?_, ?_, fun k hk e => ?_⟩
                      · rw [List.length_append]
                        have e : cmds (shotL (L ++ [(i, c)])) = cmds (shotL L) ++ cmdCells c := by unfold shotL; rw [List.map_append]; exact cmds_snoc _ _
                        rw [e, ← ec.out]
                        refine own_of H1.out (fun k hk => grow_block hgrow2 (by go_grown) (own_lt H1.out hk) (fun q => ?_))
                        have e : g1 = k := by simpa [Value.ownBlock] using hk
                        exact n8 k q.symm e.symm
                      · rw [List.length_append]
                        have e : fromL (L ++ [(i, c)]) = fromL L ++ [.int .i64 (i : Int)] := by unfold fromL; rw [List.map_append]; rfl
                        rw [e]
                        exact hown2
                      · have e1 : g1 = k := by simpa [Value.ownBlock] using hk
                        have e2 : g2 = k := by simpa [Value.ownBlock] using e
                        rcases hat2 with q | q
                        · exact n8 g2 q (by omega)
                        · have := own_lt H1.out hk; omega)
                    clear hown2 hgrow2 hat2 O8 O9 R8 F8 n8 R7 T7 Q7 H1 hat1
                    go_wp2
                    go_roundg (gk - 1)
                    case measure => omega
                    case rel => exact ⟨i + 1, by go_num, by omega, by omega, by rw [EF2.out]; exact T9, R9⟩
            · obtain rfl : i = 8 := by omega
              as_aux_lemma =>
                have j1 : ¬ (8 : Int) < 8 := by omega
                have R2 := hid (show Run S (twoX u4 u5) b (.slice lx ln lc) w (logTo g 0) wr from by rw [logTo_0]; exact RJ.out)
                have T2 := TJ
                clear RJ TJ
                go_wp2_with fail
                clear hi hk hlt i0
                go_loopg [9, 10] 9 (fun k u9 u10 wr2 => ∃ i : Nat, u9 = .int .i64 i ∧ i ≤ 8 ∧ k + i = 9 ∧ Hid (Two w wr2 u4 u5 (g.backs.firesTo 8)) ∧ Hid (Run S (twoX u4 u5) b (.slice lx ln lc) w (logTo g i) wr2))
                case atStart => exact ⟨0, rfl, by omega, rfl, T2, R2⟩
                case round =>
                  clear R2 T2
                  obtain ⟨i, rfl, hi, hk, TJ, RJ⟩ := hrel
                  have i0 : (0 : Int) ≤ (i : Int) := by omega
                  by_cases hlt : i < 8
                  · as_aux_lemma =>
                      have i1 : (i : Int) < 8 := by omega
                      obtain ⟨hon, gv', wv', hd⟩ := RJ.out
                      have HON := hid hon
                      have HD := hid hd
                      obtain ⟨xs, ns, cs, hv⟩ := hd.ws i
                      have no := hid (fun h => logTo_no (g := g) (i := i) h)
                      have yes := hid (fun h => logTo_yes (g := g) (i := i) h)
                      have ll := logTo_len g i
                      have lg := HF.out.ln
                      have hdt : (logTo g i).tick = g.tick + 1 := rfl
                      obtain ⟨c0, c1, c2, c3, c4, c5, c6, c7, c8, c9, c10, c11, c12, c13, c14⟩ := hd.gc.seat (s := g.walks.seat i) (v := .slice xs ns cs) hlt (fun k _ => by rw [hv]; rfl)
                      have ct := hd.gc.ct
                      rw [hdt] at ct
                      have wt : g.walks.tick = g.tick + 1 := rfl
                      rw [wt] at yes
                      have lb := hd.gc.lt
                      obtain ⟨gx, gc, hgv⟩ := slice_own hd.lg
                      subst hgv
                      have cg := hd.gc.cg
                      have TL := hid (show ∀ k, twoX u4 u5 k → k < wr.heap.size from TJ.out.lt)
                      have LB := hid (show (logTo g i).log.length ≤ 24008 from by omega)
                      have sq : Hid (∀ j, (logTo g (i + 1)).seat j = (logTo g i).seat j) := fun j => rfl
                      generalize g.walks.seat i = s at *
                      clear hon hd hv hdt wt ll lg
                      obtain ⟨h0, eh⟩ : ∃ h, s.here = h := ⟨_, rfl⟩
                      obtain ⟨l0, el⟩ : ∃ l, s.live = l := ⟨_, rfl⟩
                      rw [eh] at c0
                      rw [el] at c1
                      have EH := hid eh
                      have EL := hid el
                      clear eh el
                      obtain ⟨W1, hW1⟩ : ∃ W1, wr.alloc (.cells #[.bool h0, .bool l0, .int .i64 s.pos.x, .int .i64 s.pos.y, .int .i64 s.pos.z, .int .i64 s.home.x, .int .i64 s.home.y, .int .i64 s.home.z, .int .i64 s.health, .int .i64 s.ammo, .int .i64 s.shot, .int .i64 s.died, .int .i64 s.gen, .int .i64 s.last, .slice xs ns cs] 74) = W1 := ⟨_, rfl⟩
                      have QS := hid (show Blk W1 wr.heap.size #[.bool h0, .bool l0, .int .i64 s.pos.x, .int .i64 s.pos.y, .int .i64 s.pos.z, .int .i64 s.home.x, .int .i64 s.home.y, .int .i64 s.home.z, .int .i64 s.health, .int .i64 s.ammo, .int .i64 s.shot, .int .i64 s.died, .int .i64 s.gen, .int .i64 s.last, .slice xs ns cs] 74 from by rw [← hW1]; exact Blk.new rfl)
                      have BW := hid (show Below wr.heap.size wr W1 from by rw [← hW1]; go_grown)
                      have T1 := hid (TJ.out.after BW.out)
                      have R1 := hid (RJ.out.after BW.out TL.out)
                      have y0 : W1.cell? ⟨wr.heap.size, 0, none⟩ = some (.bool h0) := QS.out.cell 0
                      have y1 : W1.cell? ⟨wr.heap.size, 1, none⟩ = some (.bool l0) := QS.out.cell 1
                      clear RJ
                      go_upto_region 26 with fail
                      try rw [hW1]
                      clear hW1 c0 c1 c2 c3 c4 c5 c6 c7 c8 c9 c10 c11 c12 c13 c14 ct cg
                      have yl := QS.out.lt
                      cases h0
                      · have EN := hid (no.out (fun e => by rw [EH.out] at e; cases e.1))
                        go_wp2
                        go_roundg (gk - 1)
                        case measure => omega
                        case rel => exact ⟨i + 1, by go_num, by omega, by omega, T1, hid (by rw [EN.out]; exact R1.out)⟩
                      cases l0
                      · have EN := hid (no.out (fun e => by rw [EL.out] at e; cases e.2))
                        go_wp2
                        go_roundg (gk - 1)
                        case measure => omega
                        case rel => exact ⟨i + 1, by go_num, by omega, by omega, T1, hid (by rw [EN.out]; exact R1.out)⟩
                      have EN := hid (yes.out ⟨EH.out, EL.out⟩)
                      clear no yes
                      obtain ⟨ii, hi0, hz0, hz1, hz2⟩ := info_parts infoTrk
                      go_upto_region 27 with fail
                      clear y0 y1
                      obtain ⟨W2, hW2⟩ : ∃ W2, W1.drew = W2 := ⟨_, rfl⟩
                      have B2 := hid (show Below wr.heap.size wr W2 from by rw [← hW2]; exact bl BW.out (by go_grown))
                      have Q2 := hid (show Blk W2 wr.heap.size _ _ from by rw [← hW2]; exact QS.out.drew)
                      have G1 := hid (HD.out.after B2.out)
                      have lb1 := G1.out.gc.lt
                      have fr1 := G1.out.gc.free
                      have cg1 := G1.out.gc.cg
                      have SP := hid (fun (W : World) (eb : W.heap[b]? = W2.heap[b]?) (eq : W.heap[wr.heap.size]? = W2.heap[wr.heap.size]?) => show W.cell? ⟨b, 2, none⟩ = some (.int .i64 (g.tick + 1)) ∧ W.cell? ⟨wr.heap.size, 2, none⟩ = some (.int .i64 s.pos.x) ∧ W.cell? ⟨wr.heap.size, 3, none⟩ = some (.int .i64 s.pos.y) ∧ W.cell? ⟨wr.heap.size, 4, none⟩ = some (.int .i64 s.pos.z) ∧ W.cell? ⟨wr.heap.size, 12, none⟩ = some (.int .i64 s.gen) from
                        ⟨(World.cell?_of_block (a := ⟨b, _, none⟩) eb).trans G1.out.gc.ct, (World.cell?_of_block (a := ⟨wr.heap.size, _, none⟩) eq).trans (Q2.out.cell 2), (World.cell?_of_block (a := ⟨wr.heap.size, _, none⟩) eq).trans (Q2.out.cell 3), (World.cell?_of_block (a := ⟨wr.heap.size, _, none⟩) eq).trans (Q2.out.cell 4), (World.cell?_of_block (a := ⟨wr.heap.size, _, none⟩) eq).trans (Q2.out.cell 12)⟩)
                      have OW := hid (show W2.ownsRow 0 125 6 (.slice gx (logTo g i).log.length gc) (logTo g i).log.length (trks (logTo g i).log) from G1.out.lg)
                      have NB := hid (show ∀ k, (Value.slice gx (logTo g i).log.length gc).ownBlock = some k → k ≠ b ∧ k < wr.heap.size from fun k hk => ⟨HD.out.gne k hk, own_lt HD.out.lg hk⟩)
                      have lbd := LB.out
                      have lq := Q2.out.lt
                      have z1 : wr.heap.size ≤ W2.heap.size := B2.out.size
                      have nqb : b ≠ wr.heap.size := by omega
                      refine wp_region_held_drew (S := (fun w' => w'.cell? ⟨b, 2, none⟩ = some (.int .i64 (g.tick + 1)) ∧ w'.cell? ⟨wr.heap.size, 2, none⟩ = some (.int .i64 s.pos.x) ∧ w'.cell? ⟨wr.heap.size, 3, none⟩ = some (.int .i64 s.pos.y) ∧ w'.cell? ⟨wr.heap.size, 4, none⟩ = some (.int .i64 s.pos.z) ∧ w'.cell? ⟨wr.heap.size, 12, none⟩ = some (.int .i64 s.gen))) (by kernel_rfl) (by exact SP.out W1 (by rw [← hW2]; rfl) (by rw [← hW2]; rfl)) (fun hHeld => ?_)
                      rw [hW2] at hHeld ⊢
                      refine take_lit (i := 0) (oi := _) (v := ?tv0) rfl (by kernel_rfl) (by kernel_rfl) (by kernel_rfl) (fun _ _ _ h => h) (Or.inl ⟨by rfl, ?thy0⟩) (by assumption) ?trest0
                      case thy0 => (intro w hSw; (try dsimp only at hSw); go_simp; first | done | (with_reducible rfl))
                      simp only [Act.put, List.setIfInBounds_toArray, List.set_cons_zero, List.set_cons_succ]
                      refine take_lit (i := 1) (oi := _) (v := ?tv1) rfl (by kernel_rfl) (by kernel_rfl) (by kernel_rfl) (fun _ _ _ h => h) (Or.inl ⟨by rfl, ?thy1⟩) (by assumption) ?trest1
                      case thy1 => (intro w hSw; (try dsimp only at hSw); go_simp; first | done | (with_reducible rfl))
                      simp only [Act.put, List.setIfInBounds_toArray, List.set_cons_zero, List.set_cons_succ]
                      refine take_lit (i := 2) (oi := _) (v := ?tv2) rfl (by kernel_rfl) (by kernel_rfl) (by kernel_rfl) (fun _ _ _ h => h) (Or.inl ⟨by rfl, ?thy2⟩) (by assumption) ?trest2
                      case thy2 => (intro w hSw; (try dsimp only at hSw); go_simp; first | done | (with_reducible rfl))
                      simp only [Act.put, List.setIfInBounds_toArray, List.set_cons_zero, List.set_cons_succ]
                      refine take_lit (i := 3) (oi := _) (v := ?tv3) rfl (by kernel_rfl) (by kernel_rfl) (by kernel_rfl) (fun _ _ _ h => h) (Or.inl ⟨by rfl, ?thy3⟩) (by assumption) ?trest3
                      case thy3 => (intro w hSw; (try dsimp only at hSw); go_simp; first | done | (with_reducible rfl))
                      simp only [Act.put, List.setIfInBounds_toArray, List.set_cons_zero, List.set_cons_succ]
                      refine take_lit (i := 5) (oi := _) (v := ?tv5) rfl (by kernel_rfl) (by kernel_rfl) (by kernel_rfl) (fun _ _ _ h => h) (Or.inl ⟨by rfl, ?thy5⟩) (by assumption) ?trest5
                      case thy5 => (intro w hSw; (try dsimp only at hSw); go_simp; first | done | (with_reducible rfl))
                      simp only [Act.put, List.setIfInBounds_toArray, List.set_cons_zero, List.set_cons_succ]
                      refine take_lit (i := 6) (oi := _) (v := ?tv6) rfl (by kernel_rfl) (by kernel_rfl) (by kernel_rfl) (fun _ _ _ h => h) (Or.inl ⟨by rfl, ?thy6⟩) (by assumption) ?trest6
                      case thy6 => (intro w hSw; (try dsimp only at hSw); go_simp; first | done | (with_reducible rfl))
                      simp only [Act.put, List.setIfInBounds_toArray, List.set_cons_zero, List.set_cons_succ]
                      refine take_lit (i := 7) (oi := _) (v := ?tv7) rfl (by kernel_rfl) (by kernel_rfl) (by kernel_rfl) (fun _ _ _ h => h) (Or.inl ⟨by rfl, ?thy7⟩) (by assumption) ?trest7
                      case thy7 => (intro w hSw; (try dsimp only at hSw); go_simp; first | done | (with_reducible rfl))
                      simp only [Act.put, List.setIfInBounds_toArray, List.set_cons_zero, List.set_cons_succ]
                      refine take_lit (i := 8) (oi := _) (v := ?tv8) rfl (by kernel_rfl) (by kernel_rfl) (by kernel_rfl) (fun _ _ _ h => h) (Or.inl ⟨by rfl, ?thy8⟩) (by assumption) ?trest8
                      case thy8 => (intro w hSw; (try dsimp only at hSw); go_simp; first | done | (with_reducible rfl))
                      simp only [Act.put, List.setIfInBounds_toArray, List.set_cons_zero, List.set_cons_succ]
                      refine take_lit (i := 9) (oi := _) (v := ?tv9) rfl (by kernel_rfl) (by kernel_rfl) (by kernel_rfl) (fun _ _ _ h => h) (Or.inl ⟨by rfl, ?thy9⟩) (by assumption) ?trest9
                      case thy9 => (intro w hSw; (try dsimp only at hSw); go_simp; first | done | (with_reducible rfl))
                      simp only [Act.put, List.setIfInBounds_toArray, List.set_cons_zero, List.set_cons_succ]
                      refine take_lit (i := 10) (oi := _) (v := ?tv10) rfl (by kernel_rfl) (by kernel_rfl) (by kernel_rfl) (fun _ _ _ h => h) (Or.inl ⟨by rfl, ?thy10⟩) (by assumption) ?trest10
                      case thy10 => (intro w hSw; (try dsimp only at hSw); go_simp; first | done | (with_reducible rfl))
                      simp only [Act.put, List.setIfInBounds_toArray, List.set_cons_zero, List.set_cons_succ]
                      refine take_lit (i := 11) (oi := _) (v := ?tv11) rfl (by kernel_rfl) (by kernel_rfl) (by kernel_rfl) (fun _ _ _ h => h) (Or.inl ⟨by rfl, ?thy11⟩) (by assumption) ?trest11
                      case thy11 => (intro w hSw; (try dsimp only at hSw); go_simp; first | done | (with_reducible rfl))
                      simp only [Act.put, List.setIfInBounds_toArray, List.set_cons_zero, List.set_cons_succ]
                      refine take_lit (i := 12) (oi := _) (v := ?tv12) rfl (by kernel_rfl) (by kernel_rfl) (by kernel_rfl) (fun _ _ _ h => h) (Or.inl ⟨by rfl, ?thy12⟩) (by assumption) ?trest12
                      case thy12 => (intro w hSw; (try dsimp only at hSw); go_simp; first | done | (with_reducible rfl))
                      simp only [Act.put, List.setIfInBounds_toArray, List.set_cons_zero, List.set_cons_succ]
                      refine take_lit (i := 13) (oi := _) (v := ?tv13) rfl (by kernel_rfl) (by kernel_rfl) (by kernel_rfl) (fun _ _ _ h => h) (Or.inl ⟨by rfl, ?thy13⟩) (by assumption) ?trest13
                      case thy13 => (intro w hSw; (try dsimp only at hSw); go_simp; first | done | (with_reducible rfl))
                      simp only [Act.put, List.setIfInBounds_toArray, List.set_cons_zero, List.set_cons_succ]
                      refine take_lit (i := 14) (oi := _) (v := ?tv14) rfl (by kernel_rfl) (by kernel_rfl) (by kernel_rfl) (fun _ _ _ h => h) (Or.inl ⟨by rfl, ?thy14⟩) (by assumption) ?trest14
                      case thy14 => (intro w hSw; (try dsimp only at hSw); go_simp; first | done | (with_reducible rfl))
                      simp only [Act.put, List.setIfInBounds_toArray, List.set_cons_zero, List.set_cons_succ]
                      refine take_lit (i := 15) (oi := _) (v := .agg #[.int .i64 (i : Int), .int .i64 s.gen, .int .i64 (g.tick + 1), .int .i64 s.pos.x, .int .i64 s.pos.y, .int .i64 s.pos.z]) rfl (by kernel_rfl) (by kernel_rfl) (by kernel_rfl) (fun _ _ _ h => h) (Or.inl ⟨by rfl, ?thy15⟩) (by assumption) ?trest15
                      case thy15 => exact fun w hSw => exec_build 125 _ rfl _ (builtTrk _ _ _ _ _ _) w
                      simp only [Act.put, List.setIfInBounds_toArray, List.set_cons_zero, List.set_cons_succ]
                      refine wpAnyH_ready (rs := [4, 16]) (by kernel_rfl) (by simp) ?_
                      refine AllReadyH.cons rfl (fun K hK => ?_) (AllReadyH.cons rfl (fun K hK => ?_) AllReadyH.nil)
                      · go_simp
                        refine hK.out _ _ (by assumption) (fun hHeld2 => ?_)
                        clear hK K hHeld
                        refine wpAnyH_ready (rs := [16]) (by kernel_rfl) (by simp) ?_
                        refine AllReadyH.cons rfl (fun K hK => ?_) AllReadyH.nil
                        refine step_oneTrk rfl (.tmp 137) rfl _ _ _ _ _ _ rfl ?_
                        refine hK.out _ _ (SP.out _ (Below.heap_alloc _ _ _ lb1) (Below.heap_alloc _ _ _ lq)) (fun hHeld3 => ?_)
                        clear hK K hHeld2
                        refine wpAnyH_ready (rs := [17]) (by kernel_rfl) (by simp) ?_
                        refine AllReadyH.cons rfl (fun K hK => ?_) AllReadyH.nil
                        refine step_append_lies _ (by rfl) _ _ _ (by rfl) 0 125 ii _ 6 48 Tryz.underlying76 hi0 hz0 hz1 hz2 rfl (by omega) (.slice gx (logTo g i).log.length gc) (logTo g i).log.length (trks (logTo g i).log) (by rfl) (own_of OW.out (fun k hk => Below.heap_alloc _ _ _ (own_lt OW.out hk))) ⟨W2.heap.size, 0, none⟩ 1 1 [.int .i64 (i : Int), .int .i64 s.gen, .int .i64 (g.tick + 1), .int .i64 s.pos.x, .int .i64 s.pos.y, .int .i64 s.pos.z] (by rfl) (by rfl) (World.news_of_block (cs := #[.int .i64 (i : Int), .int .i64 s.gen, .int .i64 (g.tick + 1), .int .i64 s.pos.x, .int .i64 s.pos.y, .int .i64 s.pos.z]) (t := 125) (fr := (0, 0)) (heap_alloc_new W2 _)) (by simp [Value.oneCell']) (by omega) (by unfold maxLen; omega) (by omega) (by simp) (W2.heap.size + 1) (by simp) ?_
                        intro g1 cap1 w3 hown1 hgrow hat hlt1
                        have eb := grow_block hgrow (by go_grown) lb1 (fun e => (NB.out b e.symm).1 rfl)
                        have eq := grow_block hgrow (by go_grown) lq (fun e => by have := (NB.out _ e.symm).2; omega)
                        have T3 := hid (show Touch b (Value.slice gx (logTo g i).log.length gc).ownBlock wr w3 from (Touch.below B2.out).trans (grow_touch hgrow (by go_grown)))
                        have hat2 := hid (show (Value.slice gx (logTo g i).log.length gc).ownBlock = some g1 ∨ wr.heap.size ≤ g1 from hat.imp (fun e => e) (fun e => by omega))
                        have ON3 := hid hown1
                        have G3 := hid (G1.out.gc.of eb (by have := T3.out.size; omega))
                        have e123 := G3.out.cg
                        have ef := G3.out.free
                        refine hK.out _ _ (SP.out w3 eb eq) (fun hHeld4 => ?_)
                        obtain ⟨m0, m1, m2, m3, m4⟩ := SP.out w3 eb eq
                        clear hK K hgrow hat hown1 eb eq
                        try simp only [Act.put, List.setIfInBounds_toArray]
                        refine take_lit (i := 18) (oi := _) (v := ?tv18) rfl (by kernel_rfl) (by kernel_rfl) (by kernel_rfl) (fun _ _ _ h => h) (Or.inl ⟨by rfl, ?thy18⟩) (by assumption) ?trest18
                        case thy18 => (intro w hSw; (try dsimp only at hSw); go_simp; first | done | (with_reducible rfl))
                        simp only [Act.put]
                        refine take_lit (i := 19) (oi := _) (v := ?tv19) rfl (by kernel_rfl) (by kernel_rfl) (by kernel_rfl) (fun _ _ _ h => h) (Or.inl ⟨by rfl, ?thy19⟩) (by assumption) ?trest19
                        case thy19 => (intro w hSw; (try dsimp only at hSw); go_simp; first | done | (with_reducible rfl))
                        simp only [Act.put]
                        refine wpAnyH_ready (rs := [20]) (by kernel_rfl) (by simp) ?_
                        refine AllReadyH.cons rfl (fun K hK => ?_) AllReadyH.nil
                        go_simp
                        refine hK.out _ _ ?thS20 (fun hHeld5 => ?_)
                        case thS20 => simp [m0, m1, m2, m3, m4, cell_set_off, cell_set_blk, nqb]
                        clear hK K hHeld4 hHeld5 m0 m1 m2 m3 m4 e123 ef
                        refine wpAnyH_done (by kernel_rfl) ?_ _
                        have g1b : g1 ≠ b := by
                          rcases hat2.out with e | e
                          · exact HD.out.gne g1 e
                          · omega
                        have SW := HD.out.swapL (g' := logTo g (i + 1)) (gv' := (.slice (some ⟨g1, 0, none⟩) ((logTo g i).log.length + 1) cap1)) (W2 := w3.setCell ⟨b, 123, none⟩ (.slice (some ⟨g1, 0, none⟩) ((logTo g i).log.length + 1) cap1)) (T3.out.trans (Touch.on (On.set b _ _ _)))
                          (fun k hk => by
                            have e : g1 = k := by simpa [Value.ownBlock] using hk
                            rw [← e]; exact hat2.out)
                          (by
                            rw [EN.out, List.length_append, trks_snoc]
                            exact own_of ON3.out (fun k hk => by
                              have e : g1 = k := by simpa [Value.ownBlock] using hk
                              rw [← e]
                              exact (On.set b 123 w3 _).block g1 hlt1 g1b))
                          rfl rfl (fun j => rfl) (G3.out.setG _)
                        have R9 := hid (Run.step HON.out TL.out SW)
                        have T9 := hid (TJ.out.keep HS.out SW.1)
                        generalize w3.setCell ⟨b, 123, none⟩ (.slice (some ⟨g1, 0, none⟩) ((logTo g i).log.length + 1) cap1) = W9 at R9 T9 ⊢
                        clear SW T3 ON3 G3 G1 HD HON TJ TL T1 R1 QS Q2 BW B2 SP OW NB hat2
                        go_wp2
                        go_roundg (gk - 1)
                        case measure => omega
                        case rel => exact ⟨i + 1, by go_num, by omega, by omega, T9, R9⟩
                      · refine step_oneTrk rfl (.tmp 137) rfl _ _ _ _ _ _ rfl ?_
                        refine hK.out _ _ (SP.out _ (Below.heap_alloc _ _ _ lb1) (Below.heap_alloc _ _ _ lq)) (fun hHeld2 => ?_)
                        clear hK K hHeld
                        refine wpAnyH_ready (rs := [4]) (by kernel_rfl) (by simp) ?_
                        refine AllReadyH.cons rfl (fun K hK => ?_) AllReadyH.nil
                        have cg2 := (World.cell?_of_block (a := ⟨b, 123, none⟩) (Below.heap_alloc W2 (.cells #[.int .i64 (i : Int), .int .i64 s.gen, .int .i64 (g.tick + 1), .int .i64 s.pos.x, .int .i64 s.pos.y, .int .i64 s.pos.z] 125) b lb1)).trans cg1
                        go_simp
                        refine hK.out _ _ (SP.out _ (Below.heap_alloc _ _ _ lb1) (Below.heap_alloc _ _ _ lq)) (fun hHeld3 => ?_)
                        clear hK K hHeld2 cg2
                        refine wpAnyH_ready (rs := [17]) (by kernel_rfl) (by simp) ?_
                        refine AllReadyH.cons rfl (fun K hK => ?_) AllReadyH.nil
                        refine step_append_lies _ (by rfl) _ _ _ (by rfl) 0 125 ii _ 6 48 Tryz.underlying76 hi0 hz0 hz1 hz2 rfl (by omega) (.slice gx (logTo g i).log.length gc) (logTo g i).log.length (trks (logTo g i).log) (by rfl) (own_of OW.out (fun k hk => Below.heap_alloc _ _ _ (own_lt OW.out hk))) ⟨W2.heap.size, 0, none⟩ 1 1 [.int .i64 (i : Int), .int .i64 s.gen, .int .i64 (g.tick + 1), .int .i64 s.pos.x, .int .i64 s.pos.y, .int .i64 s.pos.z] (by rfl) (by rfl) (World.news_of_block (cs := #[.int .i64 (i : Int), .int .i64 s.gen, .int .i64 (g.tick + 1), .int .i64 s.pos.x, .int .i64 s.pos.y, .int .i64 s.pos.z]) (t := 125) (fr := (0, 0)) (heap_alloc_new W2 _)) (by simp [Value.oneCell']) (by omega) (by unfold maxLen; omega) (by omega) (by simp) (W2.heap.size + 1) (by simp) ?_
                        intro g1 cap1 w3 hown1 hgrow hat hlt1
                        have eb := grow_block hgrow (by go_grown) lb1 (fun e => (NB.out b e.symm).1 rfl)
                        have eq := grow_block hgrow (by go_grown) lq (fun e => by have := (NB.out _ e.symm).2; omega)
                        have T3 := hid (show Touch b (Value.slice gx (logTo g i).log.length gc).ownBlock wr w3 from (Touch.below B2.out).trans (grow_touch hgrow (by go_grown)))
                        have hat2 := hid (show (Value.slice gx (logTo g i).log.length gc).ownBlock = some g1 ∨ wr.heap.size ≤ g1 from hat.imp (fun e => e) (fun e => by omega))
                        have ON3 := hid hown1
                        have G3 := hid (G1.out.gc.of eb (by have := T3.out.size; omega))
                        have e123 := G3.out.cg
                        have ef := G3.out.free
                        refine hK.out _ _ (SP.out w3 eb eq) (fun hHeld4 => ?_)
                        obtain ⟨m0, m1, m2, m3, m4⟩ := SP.out w3 eb eq
                        clear hK K hgrow hat hown1 eb eq
                        try simp only [Act.put, List.setIfInBounds_toArray]
                        refine take_lit (i := 18) (oi := _) (v := ?tvb18) rfl (by kernel_rfl) (by kernel_rfl) (by kernel_rfl) (fun _ _ _ h => h) (Or.inl ⟨by rfl, ?thyb18⟩) (by assumption) ?trestb18
                        case thyb18 => (intro w hSw; (try dsimp only at hSw); go_simp; first | done | (with_reducible rfl))
                        simp only [Act.put]
                        refine take_lit (i := 19) (oi := _) (v := ?tvb19) rfl (by kernel_rfl) (by kernel_rfl) (by kernel_rfl) (fun _ _ _ h => h) (Or.inl ⟨by rfl, ?thyb19⟩) (by assumption) ?trestb19
                        case thyb19 => (intro w hSw; (try dsimp only at hSw); go_simp; first | done | (with_reducible rfl))
                        simp only [Act.put]
                        refine wpAnyH_ready (rs := [20]) (by kernel_rfl) (by simp) ?_
                        refine AllReadyH.cons rfl (fun K hK => ?_) AllReadyH.nil
                        go_simp
                        refine hK.out _ _ ?thSb20 (fun hHeld5 => ?_)
                        case thSb20 => simp [m0, m1, m2, m3, m4, cell_set_off, cell_set_blk, nqb]
                        clear hK K hHeld4 hHeld5 m0 m1 m2 m3 m4 e123 ef
                        refine wpAnyH_done (by kernel_rfl) ?_ _
                        have g1b : g1 ≠ b := by
                          rcases hat2.out with e | e
                          · exact HD.out.gne g1 e
                          · omega
                        have SW := HD.out.swapL (g' := logTo g (i + 1)) (gv' := (.slice (some ⟨g1, 0, none⟩) ((logTo g i).log.length + 1) cap1)) (W2 := w3.setCell ⟨b, 123, none⟩ (.slice (some ⟨g1, 0, none⟩) ((logTo g i).log.length + 1) cap1)) (T3.out.trans (Touch.on (On.set b _ _ _)))
                          (fun k hk => by
                            have e : g1 = k := by simpa [Value.ownBlock] using hk
                            rw [← e]; exact hat2.out)
                          (by
                            rw [EN.out, List.length_append, trks_snoc]
                            exact own_of ON3.out (fun k hk => by
                              have e : g1 = k := by simpa [Value.ownBlock] using hk
                              rw [← e]
                              exact (On.set b 123 w3 _).block g1 hlt1 g1b))
                          rfl rfl (fun j => rfl) (G3.out.setG _)
                        have R9 := hid (Run.step HON.out TL.out SW)
                        have T9 := hid (TJ.out.keep HS.out SW.1)
                        generalize w3.setCell ⟨b, 123, none⟩ (.slice (some ⟨g1, 0, none⟩) ((logTo g i).log.length + 1) cap1) = W9 at R9 T9 ⊢
                        clear SW T3 ON3 G3 G1 HD HON TJ TL T1 R1 QS Q2 BW B2 SP OW NB hat2
                        go_wp2
                        go_roundg (gk - 1)
                        case measure => omega
                        case rel => exact ⟨i + 1, by go_num, by omega, by omega, T9, R9⟩
                  · obtain rfl : i = 8 := by omega
                    as_aux_lemma =>
                      have j1 : ¬ (8 : Int) < 8 := by omega
                      have fl := M.firesTo_len g.backs 8
                      have CO := hid (show ∀ q ∈ g.backs.firesTo 8, q.1 < 8 ∧ M.CmdOk q.2 from fun q hq => by
                        obtain ⟨h1, h2⟩ := M.firesTo_mem (g := g.backs) 8 hq
                        have e : (g.backs.seat q.1).wait = (g.seat q.1).wait := by unfold M.Game.backs; rw [M.Game.map_in _ _ h1, M.back_wait]; rfl
                        rw [e] at h2
                        exact ⟨h1, HP.out.c q.1 h1 q.2 h2⟩)
                      have FT := hid (show ∀ k, (M.shotAll g.notes ((g.backs.firesTo 8).take k)).Fit from fun k => FN.out.shotAll (fun q hq => (CO.out q (List.mem_of_mem_take hq)).1))
                      have EW : Hid (g.walk = M.shotAll g.notes (g.backs.firesTo 8)) := hid rfl
                      have R3 := hid (show Run S (twoX u4 u5) b (.slice lx ln lc) w (M.shotAll g.notes ((g.backs.firesTo 8).take 0)) wr from RJ.out)
                      generalize g.walk = FW at *
                      generalize g.backs.firesTo 8 = L at *
                      clear RJ
                      go_wp2_with fail
                      clear hi hk hlt i0
                      go_loopg [11] (L.length + 1) (fun k u11 wr2 => ∃ i : Nat, u11 = .int .i64 i ∧ i ≤ L.length ∧ k + i = L.length + 1 ∧ Hid (Two w wr2 u4 u5 L) ∧ Hid (Run S (twoX u4 u5) b (.slice lx ln lc) w (M.shotAll g.notes (L.take i)) wr2))
                      case atStart => exact ⟨0, rfl, by omega, by omega, TJ, R3⟩
                      case round =>
                        clear R3 TJ
                        obtain ⟨i, rfl, hi, hk, TJ, RJ⟩ := hrel
                        have i0 : (0 : Int) ≤ (i : Int) := by omega
                        obtain ⟨x4, cp4, hu4⟩ := slice_own TJ.out.s
                        obtain ⟨x5, cp5, hu5⟩ := slice_own TJ.out.f
                        subst hu4
                        subst hu5
                        by_cases hlt : i < L.length
                        · as_aux_lemma =>
                            have i1 : (i : Int) < (L.length : Int) := by omega
                            obtain ⟨g4, rfl⟩ : ∃ g4, x4 = some ⟨g4, 0, none⟩ := by
                              rcases own_shape TJ.out.s with ⟨e1, e2⟩ | ⟨g0, c0, e1, _⟩
                              · omega
                              · cases e1; exact ⟨_, rfl⟩
                            obtain ⟨g5, rfl⟩ : ∃ g5, x5 = some ⟨g5, 0, none⟩ := by
                              rcases own_shape TJ.out.f with ⟨e1, e2⟩ | ⟨g0, c0, e1, _⟩
                              · omega
                              · cases e1; exact ⟨_, rfl⟩
                            obtain ⟨q, hq⟩ : ∃ q, L[i]? = some q := ⟨L[i], List.getElem?_eq_getElem hlt⟩
                            obtain ⟨j, c⟩ := q
                            have qc := CO.out (j, c) (List.mem_of_getElem? hq)
                            have EQ := hid (show M.shotAll g.notes (L.take (i + 1)) = (M.shotAll g.notes (L.take i)).shot j c from by rw [take_next hq, M.shotAll_append]; rfl)
                            have k4 := fun o (ho : o < 9) => own_at (f := cmdCells) (k := 9) (fun _ => rfl) TJ.out.s (i := i) (x := c) (by unfold shotL; rw [List.getElem?_map, hq]; rfl) (j := o) ho
                            have k5 := own_at (f := fun q : Nat × M.Cmd => [.int .i64 (q.1 : Int)]) (k := 1) (fun _ => rfl) (by have := TJ.out.f; rw [fromL_flat] at this; exact this) hq (j := 0) (by omega)
                            have d0 : wr.cell? ⟨g4, i * 9, none⟩ = some (.int .i64 c.seq) := k4 0 (by omega)
                            have d1 : wr.cell? ⟨g4, i * 9 + 1, none⟩ = some (.bool c.fire) := k4 1 (by omega)
                            have d2 : wr.cell? ⟨g4, i * 9 + 2, none⟩ = some (.int .i64 c.mv.x) := k4 2 (by omega)
                            have d3 : wr.cell? ⟨g4, i * 9 + 3, none⟩ = some (.int .i64 c.mv.y) := k4 3 (by omega)
                            have d4 : wr.cell? ⟨g4, i * 9 + 4, none⟩ = some (.int .i64 c.mv.z) := k4 4 (by omega)
                            have d5 : wr.cell? ⟨g4, i * 9 + 5, none⟩ = some (.int .i64 c.aim.x) := k4 5 (by omega)
                            have d6 : wr.cell? ⟨g4, i * 9 + 6, none⟩ = some (.int .i64 c.aim.y) := k4 6 (by omega)
                            have d7 : wr.cell? ⟨g4, i * 9 + 7, none⟩ = some (.int .i64 c.aim.z) := k4 7 (by omega)
                            have d8 : wr.cell? ⟨g4, i * 9 + 8, none⟩ = some (.int .i64 c.time) := k4 8 (by omega)
                            have e0 : wr.cell? ⟨g5, i, none⟩ = some (.int .i64 (j : Int)) := by have := k5; rw [Nat.mul_one] at this; exact this
                            obtain ⟨hon, gv', wv', hd⟩ := RJ.out
                            have HON := hid hon
                            have HD := hid hd
                            have FG := hid (FT.out i)
                            have TX := hid (show ∀ k, twoX (.slice (some ⟨g4, 0, none⟩) L.length cp4) (.slice (some ⟨g5, 0, none⟩) L.length cp5) k → k < wr.heap.size from TJ.out.lt)
                            clear k4 k5 hon hd hq RJ
                            generalize M.shotAll g.notes (L.take i) = G at *
                            go_wp2_with fail
                            refine still_tail5 9 (by kernel_rfl) (by kernel_rfl) ?_
                            simp only [List.take_succ_cons, List.take_zero, List.drop_succ_cons, List.drop_zero]
                            repeat still_step
                            refine wpStill_nil ?_
                            go_wp2_with fail
                            refine (gShot_any b j (.string G.map) gv' lx ln lc G wv' c wr.drew qc.1 (HD.out.gc.of rfl HD.out.gc.lt) HD.out.ws FG.out (own_of HD.out.lg (fun k hk => rfl)) HD.out.gne (own_of HD.out.lf (fun k hk => rfl)) HD.out.lne qc.2).mono ?_
                            rintro e w5 ⟨rfl, G5, O5⟩
                            have O6 : On b wr w5 := (On.below (by go_grown)).trans O5
                            obtain ⟨s1, s2, s3, s4⟩ := M.shot_keep G j c
                            have R5 := hid (show Run S _ b (.slice lx ln lc) w (M.shotAll g.notes (L.take (i + 1))) w5 from by
                              rw [EQ.out]
                              exact Run.seats HON.out TX.out HD.out O6 s3 s2 s4 (fun k => shot_wait G j c k) (by rw [s3]; exact G5))
                            have T5 := hid (TJ.out.keep HS.out (OnS.on O6 HD.out.sb))
                            clear O5 O6 G5 s1 s2 s3 s4 HD HON TJ
                            go_wp2
                            go_roundg (gk - 1)
                            case measure => omega
                            case rel => exact ⟨i + 1, by go_num, by omega, by omega, T5, R5⟩
                        · as_aux_lemma =>
                            obtain rfl : i = L.length := by omega
                            have j1 : ¬ (L.length : Int) < (L.length : Int) := by omega
                            have R9 := hid (show Run S _ b (.slice lx ln lc) w FW wr from by have := RJ.out; rw [List.take_length] at this; rw [EW.out]; exact this)
                            clear RJ
                            go_wp2
                            go_ret
                            exact R9.out.post

end Go.Proofs.YtonmihojfcjmjaaGreat
