import Derived.Test.YtonmihojfcjmjaaGreatDd4
import Derived.Deep.RegionHeld3
import Derived.Deep.DeepCutAuto
/- Contracts of the document's shots: shot, where it happens. -/
namespace Go.Proofs.YtonmihojfcjmjaaGreat
open Go.RowKit
set_option linter.unusedVariables false
attribute [local go_sem] cell_set_off cell_set_blk

namespace M
theorem Game.Fit.paid {g : Game} (h : g.Fit) {i : Nat} (hi : i < 8) (ha : ¬ (g.seat i).ammo = 0) : (g.put i ((g.seat i).paid g.tick)).Fit := by
  have sn := h.s i hi
  refine ⟨h.t0, h.t1, fun j hj => ?_, fun j hj => ?_, h.lo, h.ln, fun j hj => ?_, h.lc, h.ll⟩
  · by_cases e : j = i
    · subst e; rw [Game.put_at]
      exact ⟨sn.g1, sn.g2, sn.h1, sn.h2, by show 0 ≤ (g.seat j).ammo - 1; have := sn.a1; omega, by show (g.seat j).ammo - 1 ≤ 6; have := sn.a2; omega, by show -1 ≤ g.tick; have := h.t0; omega, h.t1, sn.p⟩
    · rw [Game.put_ne _ _ e]; exact h.s j hj
  · by_cases e : j = i
    · subst e; rw [Game.put_at]; exact h.d j hj
    · rw [Game.put_ne _ _ e]; exact h.d j hj
  · unfold Game.recs
    by_cases e : j = i
    · subst e; rw [Game.put_at]; exact h.up j hj
    · rw [Game.put_ne _ _ e]; exact h.up j hj
theorem shot_is {g : Game} {i : Nat} {c : Cmd} (hc : g.mayShoot i = true) : g.shot i c = (g.put i ((g.seat i).paid g.tick)).harmed ((g.put i ((g.seat i).paid g.tick)).victim i (g.seat i).pos (wayP c.aim) (bring c.time (256 * (g.tick - 16)) (256 * g.tick)) 8) := by
  unfold Game.shot; rw [if_pos hc]
theorem Vic.end_no {g : Game} {i : Nat} {p d : V3} {t : Int} {v n e x : Int} (h : Vic g i p d t 8 v n e x) (hv : v < 0) : g.harmed (g.victim i p d t 8) = g := by
  unfold Game.harmed
  rcases h with ⟨h1, _⟩ | ⟨k, _, h2, _⟩
  · rw [h1]
  · omega
theorem Vic.end_yes {g : Game} {i : Nat} {p d : V3} {t : Int} {v n e x : Int} (h : Vic g i p d t 8 v n e x) (hv : ¬ v < 0) : ∃ k : Nat, v = (k : Int) ∧ k < 8 ∧ (x = 25 ∨ x = 60) ∧ g.harmed (g.victim i p d t 8) = g.put k ((g.seat k).harm x g.tick) := by
  rcases h with ⟨_, h1, _⟩ | ⟨k, h1, h2, h3, h4⟩
  · omega
  · refine ⟨k, h2, h3, h4, ?_⟩
    unfold Game.harmed; rw [h1]
end M

theorem Blk.seat15 {W : World} {b : Nat} {x0 x1 x2 x3 x4 x5 x6 x7 x8 x9 x10 x11 x12 x13 x14 : Value} {t : TypeId} (h : Blk W b #[x0, x1, x2, x3, x4, x5, x6, x7, x8, x9, x10, x11, x12, x13, x14] t) :
    W.cell? ⟨b, 0, none⟩ = some x0 ∧ W.cell? ⟨b, 1, none⟩ = some x1 ∧ W.cell? ⟨b, 2, none⟩ = some x2 ∧ W.cell? ⟨b, 3, none⟩ = some x3 ∧ W.cell? ⟨b, 4, none⟩ = some x4 ∧ W.cell? ⟨b, 9, none⟩ = some x9 ∧ W.cell? ⟨b, 10, none⟩ = some x10 ∧ b < W.heap.size :=
  ⟨h.cell 0, h.cell 1, h.cell 2, h.cell 3, h.cell 4, h.cell 9, h.cell 10, h.lt⟩

set_option maxRecDepth 100000 in
set_option maxHeartbeats 8000000 in
theorem gShot_yes (b i : Nat) (m gv : Value) (lx : Option Addr) (ln lc : Nat) (g : M.Game) (wv : Nat → Value) (c : M.Cmd) (w : World) (hi : i < 8) (h : Gc w b m (.slice lx ln lc) (.int .i64 g.tick) gv (fun i => seatV (g.seat i) (wv i))) (hwv : ∀ i, ∃ x n c, wv i = .slice x n c) (hf : g.Fit)
    (hlog : w.ownsRow 0 125 6 gv g.log.length (trks g.log)) (hne : ∀ k, gv.ownBlock = some k → k ≠ b) (hlf : w.ownsRow 0 93 7 (.slice lx ln lc) g.leafs.length (flat g.leafs)) (hne2 : ∀ k, (Value.slice lx ln lc).ownBlock = some k → k ≠ b)
    (hco : M.CmdOk c) (hc : g.mayShoot i = true) :
    Calls Tryz.prog 64 #[.pointer (some ⟨b, 0, none⟩), .int .i64 i, .agg #[.int .i64 c.seq, .bool c.fire, .int .i64 c.mv.x, .int .i64 c.mv.y, .int .i64 c.mv.z, .int .i64 c.aim.x, .int .i64 c.aim.y, .int .i64 c.aim.z, .int .i64 c.time]] w (ShotPost b m (.slice lx ln lc) gv (g.shot i c) wv w) := by
  have HG := hid h
  obtain ⟨c0, c1, c2, c3, c4, c5, c6, c7, c8, c9, c10, c11, c12, c13, c14⟩ := h.seat hi (fun k _ => rfl)
  have ct := h.ct
  have hb := h.lt
  have fr := h.free
  have i0 : (0 : Int) ≤ (i : Int) := by omega
  have i1 : (i : Int) < 8 := by omega
  have sn := hf.s i hi
  have t0 := hf.t0
  have t1 := hf.t1
  have HF := hid hf
  have HL := hid hlog
  have HN := hid hne
  have HLF := hid hlf
  have HN2 := hid hne2
  have HW := hid hwv
  have HC := hid hc
  have aim := hco.aim
  obtain ⟨am1, am2, am3, am4, am5, am6⟩ := aim
  have NW := hid (M.way_near hco.aim)
  have tm0 := hco.t0
  have tm1 := hco.t1
  obtain ⟨xs, ns, cs, hv⟩ := hwv i
  rw [hv] at c14
  have hm := hc
  unfold M.Game.mayShoot at hm
  rw [Bool.and_eq_true, Bool.and_eq_true] at hm
  obtain ⟨⟨el, ea⟩, er⟩ := hm
  obtain ⟨s, hs⟩ : ∃ s, g.seat i = s := ⟨_, rfl⟩
  have HS := hid hs
  rw [hs] at c0 c1 c2 c3 c4 c5 c6 c7 c8 c9 c10 c11 c12 c13 sn el ea er
  rw [el] at c1
  have EL := hid el
  have za : (s.ammo == 0) = false := by simpa using ea
  have zr : Hid ((decide (0 ≤ s.shot) && decide (g.tick - s.shot < 3)) = false) := by
    cases q : (decide (0 ≤ s.shot) && decide (g.tick - s.shot < 3))
    · exact rfl
    · rw [q] at er; cases er
  have PC := hid sn.p
  obtain ⟨g1, g2, h1, h2, a1, a2, s1, s2, p1⟩ := sn
  obtain ⟨px1, px2, py1, py2, pz1, pz2⟩ := p1
  clear h hwv hv hf hlog hne hlf hne2 hco hc hs el ea er
  obtain ⟨W1, hW1⟩ : ∃ W1, (w.alloc (.cells #[.int .i64 c.seq, .bool c.fire, .int .i64 c.mv.x, .int .i64 c.mv.y, .int .i64 c.mv.z, .int .i64 c.aim.x, .int .i64 c.aim.y, .int .i64 c.aim.z, .int .i64 c.time] 50)).alloc (.cells #[.bool s.here, .bool true, .int .i64 s.pos.x, .int .i64 s.pos.y, .int .i64 s.pos.z, .int .i64 s.home.x, .int .i64 s.home.y, .int .i64 s.home.z, .int .i64 s.health, .int .i64 s.ammo, .int .i64 s.shot, .int .i64 s.died, .int .i64 s.gen, .int .i64 s.last, .slice xs ns cs] 74) = W1 := ⟨_, rfl⟩
  have QC := hid (show Blk W1 w.heap.size #[.int .i64 c.seq, .bool c.fire, .int .i64 c.mv.x, .int .i64 c.mv.y, .int .i64 c.mv.z, .int .i64 c.aim.x, .int .i64 c.aim.y, .int .i64 c.aim.z, .int .i64 c.time] 50 from by rw [← hW1]; exact (by repeat' (first | (with_reducible assumption) | (refine Blk.new ?_; (first | (simp; done) | rfl); done) | (with_reducible refine Blk.alloc ?_) | (with_reducible refine Blk.drew ?_) | (with_reducible refine Blk.drewN ?_))))
  have QS := hid (show Blk W1 (w.heap.size + 1) #[.bool s.here, .bool true, .int .i64 s.pos.x, .int .i64 s.pos.y, .int .i64 s.pos.z, .int .i64 s.home.x, .int .i64 s.home.y, .int .i64 s.home.z, .int .i64 s.health, .int .i64 s.ammo, .int .i64 s.shot, .int .i64 s.died, .int .i64 s.gen, .int .i64 s.last, .slice xs ns cs] 74 from by rw [← hW1]; exact Blk.new (by simp))
  have BW := hid (show Below w.heap.size w W1 from by rw [← hW1]; go_grown)
  have G1 := hid (HG.out.after BW.out)
  have ct1 := G1.out.ct
  obtain ⟨y0, y1, y2, y3, y4, y9, y10, yl⟩ := QS.out.seat15
  go_enter Tryz.func64, Tryz.ntmps64
  go_wp2_with fail
  try rw [hW1]
  clear hW1 c0 c1 c2 c3 c4 c5 c6 c7 c8 c9 c10 c11 c12 c13 c14 ct fr
  go_cut [52] (fun c wx => c = .bool false ∧ ∃ n : Nat, wx = W1.drewN n)
  case first =>
    as_aux_lemma =>
      by_cases k1 : 0 ≤ s.shot
      · have k2 : ¬ g.tick - s.shot < 3 := fun e => by have := zr.out; rw [decide_eq_true k1, decide_eq_true e] at this; cases this
        go_quiet (fail)
        go_wp2_with fail
        go_meet
        exact ⟨rfl, _, rfl⟩
      · go_quiet (fail)
        go_wp2_with fail
        go_meet
        exact ⟨rfl, _, rfl⟩
  case rest =>
    obtain ⟨rfl, n2, rfl⟩ := hcut
    have G2 := hid (show Gc (W1.drewN n2) b m (.slice lx ln lc) (.int .i64 g.tick) gv (fun i => seatV (g.seat i) (wv i)) from G1.out.of rfl G1.out.lt)
    have QC2 := hid (show Blk (W1.drewN n2) w.heap.size _ _ from QC.out.drewN)
    have QS2 := hid (show Blk (W1.drewN n2) (w.heap.size + 1) _ _ from QS.out.drewN)
    have B2 := hid (show Below w.heap.size w (W1.drewN n2) from below_drewN BW.out n2)
    generalize W1.drewN n2 = W2 at G2 QC2 QS2 B2 ⊢
    clear y0 y1 y2 y3 y4 y9 y10 yl ct1 G1 QC QS BW zr
    obtain ⟨y0, y1, y2, y3, y4, y9, y10, yl⟩ := QS2.out.seat15
    have fr := G2.out.free
    have lb := G2.out.lt
    have c9 := G2.out.cs i 9 hi (by omega)
    simp only [seatV] at c9
    have wza : IntKind.i64.wrap (s.ammo - 1) = s.ammo - 1 := IntWalk.i64_in _ ⟨by omega, by omega⟩
    go_wp2_with fail
    refine still_tail4 9 (by kernel_rfl) (by kernel_rfl) ?_
    simp only [List.take_succ_cons, List.take_zero, List.drop_succ_cons, List.drop_zero]
    repeat still_step
    refine wpStill_nil ?_
    go_wp2_with fail
    have G3 := hid ((G2.out.setS i 9 hi (by omega) (.int .i64 (s.ammo - 1))).drew)
    have O3 := (On.set b (3 + i * 15 + 9) W2 (.int .i64 (s.ammo - 1))).drew
    generalize (W2.setCell ⟨b, 3 + i * 15 + 9, none⟩ (.int .i64 (s.ammo - 1))).drew = W3 at G3 O3 ⊢
    have QC3 := hid (QC2.out.on O3 (by omega))
    have QS3 := hid (QS2.out.on O3 (by omega))
    have U3 := hid (show On b w W3 from (On.below B2.out).trans O3)
    clear y0 y1 y2 y3 y4 y9 y10 yl fr lb c9 O3 G2 QC2 QS2 B2
    have fr := G3.out.free
    have lb := G3.out.lt
    have ct := G3.out.ct
    have c10 := G3.out.cs i 10 hi (by omega)
    simp [seatV] at c10
    go_wp2_with fail
    refine still_tail4 10 (by kernel_rfl) (by kernel_rfl) ?_
    simp only [List.take_succ_cons, List.take_zero, List.drop_succ_cons, List.drop_zero]
    repeat still_step
    refine wpStill_nil ?_
    go_wp2_with fail
    have G4a := (G3.out.setS i 10 hi (by omega) (.int .i64 g.tick)).drew
    have O4 := (On.set b (3 + i * 15 + 10) W3 (.int .i64 g.tick)).drew
    generalize (W3.setCell ⟨b, 3 + i * 15 + 10, none⟩ (.int .i64 g.tick)).drew = W4 at G4a O4 ⊢
    have G4 := hid (show Gc W4 b m (.slice lx ln lc) (.int .i64 g.tick) gv (fun j => seatV ((g.put i ((g.seat i).paid g.tick)).seat j) (wv j)) from G4a.congr (fun j k hj hk => by
      by_cases e : j = i
      · subst e
        rw [M.Game.put_at, HS.out]
        simp only [true_and]
        rcases fifteen hk with rfl | rfl | rfl | rfl | rfl | rfl | rfl | rfl | rfl | rfl | rfl | rfl | rfl | rfl | rfl <;> first | rfl | (simp [seatV, M.Seat.paid, HS.out])
      · simp [M.Game.put_ne _ _ e, e]))
    have QC4 := hid (QC3.out.on O4 (by omega))
    have QS4 := hid (QS3.out.on O4 (by omega))
    have U4 := hid (show On b w W4 from U3.out.trans O4)
    clear fr lb ct c10 O4 G3 QC3 QS3 U3 G4a
    have lb := G4.out.lt
    have ct := G4.out.ct
    obtain ⟨e0, e1, e2, e3, e4, e5, e6, e7, e8, ef, ez⟩ := QC4.out.nine2
    obtain ⟨y0, y1, y2, y3, y4, y9, y10, yl⟩ := QS4.out.seat15
    obtain ⟨T, hT⟩ : ∃ T, M.bring c.time (256 * (g.tick - 16)) (256 * g.tick) = T := ⟨_, rfl⟩
    have TB := M.bring_bd (v := c.time) (lo := 256 * (g.tick - 16)) (hi := 256 * g.tick) (by omega)
    rw [hT] at TB
    obtain ⟨T0, T1⟩ := TB
    have HT := hid hT
    have wz1 : IntKind.i64.wrap (g.tick - 16) = g.tick - 16 := IntWalk.i64_in _ ⟨by omega, by omega⟩
    have wz2 : IntKind.i64.wrap (256 * (g.tick - 16)) = 256 * (g.tick - 16) := IntWalk.i64_in _ ⟨by omega, by omega⟩
    have wz3 : IntKind.i64.wrap (256 * g.tick) = 256 * g.tick := IntWalk.i64_in _ ⟨by omega, by omega⟩
    have HBr := hid (fun W => rbring_at c.time (256 * (g.tick - 16)) (256 * g.tick) W T HT)
    clear hT
    go_wp2_with fail
    refine still_tail4 14 (by kernel_rfl) (by kernel_rfl) ?_
    simp only [List.take_succ_cons, List.take_zero, List.drop_succ_cons, List.drop_zero]
    iterate 13 still_step
    still_call (HBr.out _)
    refine wpStill_nil ?_
    have LT := hid (fun W (hW : W.ownsRow 0 93 7 (.slice lx ln lc) g.leafs.length (flat g.leafs)) => rtrace_any lx ln lc 0 g.leafs s.pos (M.wayP c.aim) W hW HF.out.ll PC.out.near NW.out HF.out.lc)
    have LV4 := hid (own_of (W' := W4) HLF.out (fun k hk => U4.out.block k (own_lt HLF.out hk) (HN2.out k hk)))
    obtain ⟨V, hV⟩ : ∃ V, (W4.alloc (.cells #[.int .i64 (16 * c.aim.x), .int .i64 (16 * c.aim.y), .int .i64 (16 * c.aim.z)] 27)).drew = V := ⟨_, rfl⟩
    have QD := hid (show Blk V W4.heap.size #[.int .i64 (16 * c.aim.x), .int .i64 (16 * c.aim.y), .int .i64 (16 * c.aim.z)] 27 from by rw [← hV]; exact (Blk.new rfl).drew)
    have BV := hid (show Below W4.heap.size W4 V from by rw [← hV]; go_grown)
    go_wp2_with fail
    try rw [hV]
    clear hV
    have GV := hid (G4.out.after BV.out)
    have QSV := hid (QS4.out.after BV.out)
    have LVV := hid (own_of (W' := V) LV4.out (fun k hk => BV.out.block k (own_lt LV4.out hk)))
    have UV := hid (show On b w V from U4.out.trans (On.below BV.out))
    have zV : W4.heap.size < V.heap.size := QD.out.lt
    have z4 : w.heap.size + 1 < W4.heap.size := QS4.out.lt
    clear e0 e1 e2 e3 e4 e5 e6 e7 e8 ef ez y0 y1 y2 y3 y4 y9 y10 yl ct lb G4 QC4 QS4 LV4 BV U4 HBr
    have cl := GV.out.cl
    have bl1 := GV.out.lt
    obtain ⟨y0, y1, y2, y3, y4, y9, y10, yl⟩ := QSV.out.seat15
    obtain ⟨d0, d1, d2, df, dl⟩ := QD.out.three
    have wx : (M.wayP c.aim).x = 16 * c.aim.x := rfl
    have wy : (M.wayP c.aim).y = 16 * c.aim.y := rfl
    have wz : (M.wayP c.aim).z = 16 * c.aim.z := rfl
    rw [wx, wy, wz] at LT
    clear wx wy wz
    go_region_held3 (fun w' => w'.cell? ⟨b, 1, none⟩ = some (.slice lx ln lc) ∧ w'.cell? ⟨w.heap.size + 1, 2, none⟩ = some (.int .i64 s.pos.x) ∧ w'.cell? ⟨w.heap.size + 1, 3, none⟩ = some (.int .i64 s.pos.y) ∧ w'.cell? ⟨w.heap.size + 1, 4, none⟩ = some (.int .i64 s.pos.z) ∧ w'.cell? ⟨W4.heap.size, 0, none⟩ = some (.int .i64 (16 * c.aim.x)) ∧ w'.cell? ⟨W4.heap.size, 1, none⟩ = some (.int .i64 (16 * c.aim.y)) ∧ w'.cell? ⟨W4.heap.size, 2, none⟩ = some (.int .i64 (16 * c.aim.z))) (go_keep)
      ((go_at_call 82; refine (LT.out _ (by exact own_of LVV.out (fun k hk => rfl))).mono ?_; rintro e w6 ⟨wl, ka, kb, rfl, hE, hb6⟩; have HE := hid hE; have B6 : Below V.heap.size V w6 := bl (by go_grown) hb6; clear hb6 hE; have m1 := (GV.out.after B6).cl; obtain ⟨_, _, m2, m3, m4, _, _, _⟩ := (QSV.out.after B6).seat15; obtain ⟨l2, l3, l4, lf, lz⟩ := (QD.out.after B6).three))
    have G6 := hid (GV.out.after B6)
    have QS6 := hid (QSV.out.after B6)
    have QD6 := hid (QD.out.after B6)
    have U6 := hid (show On b w w6 from UV.out.trans (On.below B6))
    have z6 := B6.size
    clear m1 m2 m3 m4 l2 l3 l4 lf lz y0 y1 y2 y3 y4 y9 y10 yl d0 d1 d2 df dl cl bl1 B6 GV QSV QD UV LVV LT
    have ha : ¬ (g.seat i).ammo = 0 := fun e => by rw [HS.out] at e; rw [e] at za; cases za
    have F1 := hid (HF.out.paid hi ha)
    have HSH := hid (M.shot_is (c := c) HC.out)
    rw [HS.out, HT.out] at HSH
    have IN1 := hid (show ∀ j, j < 8 → M.InB M.cubeLo M.cubeHi ((g.put i ((g.seat i).paid g.tick)).stood j T) from fun j hj => M.Game.stood_in F1.out hj T)
    rw [HS.out] at G6 F1 IN1
    have gt : (g.put i (s.paid g.tick)).tick = g.tick := rfl
    have gll : (g.put i (s.paid g.tick)).leafs = g.leafs := rfl
    have glg : (g.put i (s.paid g.tick)).log = g.log := rfl
    generalize g.put i (s.paid g.tick) = g' at *
    have L6 := hid (own_of (W' := w6) HL.out (fun k hk => U6.out.block k (own_lt HL.out hk) (HN.out k hk)))
    have ST := hid (fun (j : Nat) (hj : j < 8) (hl : (g'.seat j).live = true) (W : World) (hB : Below w6.heap.size w6 W) (q : M.V3) (hq : Hid (g'.stood j T = q)) =>
      gStood_any b j m (.slice lx ln lc) (.int .i64 g.tick) gv g' wv T W hj (G6.out.after hB) (by rw [glg]; exact own_of L6.out (fun k hk => hB.block k (own_lt L6.out hk))) HN.out F1.out.ln F1.out.lo (by omega) (by omega) (F1.out.up j hj hl) q hq)
    have SK := hid (fun (q : M.V3) (hq : M.InB M.cubeLo M.cubeHi q) (W : World) => rstruck_any s.pos (M.wayP c.aim) q W PC.out.near NW.out hq)
    have wx : (M.wayP c.aim).x = 16 * c.aim.x := rfl
    have wy : (M.wayP c.aim).y = 16 * c.aim.y := rfl
    have wz : (M.wayP c.aim).z = 16 * c.aim.z := rfl
    rw [wx, wy, wz] at SK
    have HWL := hid (M.entO_is HE.out)
    rw [← gll] at HWL
    have kb : (0 ≤ ka ∧ ka ≤ 1048576) ∧ (0 ≤ kb ∧ kb ≤ 1048576) := by
      cases wl
      · have := HE.out.no rfl; omega
      · have := HE.out.yes rfl; omega
    obtain ⟨⟨ka0, ka1⟩, kb0, kb1⟩ := kb
    clear wx wy wz ha HE wz1 wz2 wz3 wza h1 h2 g1 g2 a1 a2 s1 s2 px1 px2 py1 py2 pz1 pz2 za EL
    go_wp2_with fail
    go_loopg [12, 13, 14, 15, 16, 17, 18, 19, 20, 21, 22] 9 (fun k u12 u13 u14 u15 u16 u17 u18 u19 u20 u21 u22 wr => ∃ (j : Nat) (v n e x : Int), u12 = .int .i64 v ∧ u13 = .int .i64 n ∧ u14 = .int .i64 e ∧ u15 = .int .i64 x ∧ u16 = .int .i64 j ∧ j ≤ 8 ∧ k + j = 9 ∧ Hid (M.Vic g' i s.pos (M.wayP c.aim) T j v n e x) ∧ Hid (Below w6.heap.size w6 wr) ∧ 0 ≤ n ∧ n ≤ 1048576 ∧ 0 ≤ e ∧ e ≤ 1048576 ∧ -1 ≤ v ∧ v ≤ 7)
    case atStart => exact ⟨0, -1, 0, 0, 0, rfl, rfl, rfl, rfl, rfl, by omega, rfl, hid (.inl ⟨rfl, rfl, rfl, rfl, rfl⟩), hid (Below.refl _ _), by omega, by omega, by omega, by omega, by omega, by omega⟩
    case round =>
      as_aux_lemma =>
        obtain ⟨j, v, n, e, x, rfl, rfl, rfl, rfl, rfl, hj, hk, VJ, BJ, n0, n1, e0, e1, v0, v1⟩ := hrel
        have j0 : (0 : Int) ≤ (j : Int) := by omega
        have GJ := hid (G6.out.after BJ.out)
        have lb := GJ.out.lt
        by_cases hlt : j < 8
        · have j1 : (j : Int) < 8 := by omega
          obtain ⟨c0, c1, c2, c3, c4, c5, c6, c7, c8, c9, c10, c11, c12, c13, c14⟩ := GJ.out.seat hlt (fun k _ => rfl)
          obtain ⟨xt, nt, ct, hv⟩ := HW.out j
          rw [hv] at c14
          obtain ⟨t, ht⟩ : ∃ t, g'.seat j = t := ⟨_, rfl⟩
          have HTJ := hid ht
          rw [ht] at c0 c1 c2 c3 c4 c5 c6 c7 c8 c9 c10 c11 c12 c13
          clear ht hv
          by_cases hji : j = i
          · have z : ((j : Int) == (i : Int)) = true := by simp [hji]
            have VN := hid (VJ.out.skip (.inl hji))
            clear VJ hji
            as_aux_lemma =>
              go_wp2
              go_roundg (gk - 1)
              case measure => omega
              case rel => exact ⟨j + 1, v, n, e, x, rfl, rfl, rfl, rfl, by go_num, by omega, by omega, VN, hid (by have := BJ.out; have := BJ.out.size; go_grown), n0, n1, e0, e1, v0, v1⟩
          · have z : ((j : Int) == (i : Int)) = false := beq_eq_false_iff_ne.2 (by omega)
            have HJI := hid hji
            clear hji
            cases hh : t.here
            · have VN := hid (VJ.out.skip (.inr (by rw [HTJ.out, hh]; rfl)))
              rw [hh] at c0
              clear VJ hh
              as_aux_lemma =>
                go_wp2
                go_roundg (gk - 1)
                case measure => omega
                case rel => exact ⟨j + 1, v, n, e, x, rfl, rfl, rfl, rfl, by go_num, by omega, by omega, VN, hid (by have := BJ.out; have := BJ.out.size; go_grown), n0, n1, e0, e1, v0, v1⟩
            cases hl : t.live
            · have VN := hid (VJ.out.skip (.inr (by rw [HTJ.out, hl]; simp)))
              rw [hh] at c0
              rw [hl] at c1
              clear VJ hh hl
              as_aux_lemma =>
                go_wp2
                go_roundg (gk - 1)
                case measure => omega
                case rel => exact ⟨j + 1, v, n, e, x, rfl, rfl, rfl, rfl, by go_num, by omega, by omega, VN, hid (by have := BJ.out; have := BJ.out.size; go_grown), n0, n1, e0, e1, v0, v1⟩
            have HNS := hid (show ¬ (j = i ∨ ((g'.seat j).here && (g'.seat j).live) = false) from fun k => by
              rcases k with k | k
              · exact HJI.out k
              · rw [HTJ.out, hh, hl] at k; cases k)
            have gl : (g'.seat j).live = true := by rw [HTJ.out]; exact hl
            have GLV := hid gl
            rw [hh] at c0
            rw [hl] at c1
            obtain ⟨q, hq⟩ : ∃ q, g'.stood j T = q := ⟨_, rfl⟩
            have HQ := hid hq
            have IQ := hid (show M.InB M.cubeLo M.cubeHi q from hq ▸ IN1.out j hlt)
            have zj : w6.heap.size ≤ wr.heap.size := BJ.out.size
            clear hh hl gl hq HJI
            go_wp2_with fail
            refine (ST.out j hlt GLV.out _ (by have := BJ.out; have := BJ.out.size; go_grown) q HQ).mono ?_
            rintro rr w7 ⟨rfl, hb7⟩
            have B7 := hid (bl (show Below w6.heap.size w6 _ from by have := BJ.out; have := BJ.out.size; go_grown) hb7)
            have z7 := hb7.size
            clear hb7 c0 c1 c2 c3 c4 c5 c6 c7 c8 c9 c10 c11 c12 c13 c14 GJ lb
            as_aux_lemma =>
              obtain ⟨_, _, y2, y3, y4, _, _, yl⟩ := (QS6.out.after B7.out).seat15
              obtain ⟨d0, d1, d2, df, dl⟩ := (QD6.out.after B7.out).three
              have z67 : w6.heap.size ≤ w7.heap.size := B7.out.size
              go_wp2_with fail
              refine (SK.out q IQ.out _).mono ?_
              rintro rr w8 ⟨hit, mm, f, y, rfl, hH, ⟨m0, m1, f0, f1⟩, hy, hb8⟩
              have B8 := hid (bl (show Below w6.heap.size w6 _ from by have := B7.out; go_grown) hb8)
              have HH := hid (show M.hitAt s.pos (M.wayP c.aim) (g'.stood j T) = M.hitOf hit mm f y from by rw [HQ.out]; exact hH)
              have HY := hid hy
              clear hb8 hH hy y2 y3 y4 yl d0 d1 d2 df dl B7 HQ IQ
              cases hit
              · have VN := hid (VJ.out.no HH.out (fun k => by cases k.1))
                clear VJ HH
                as_aux_lemma =>
                  go_wp2
                  go_roundg (gk - 1)
                  case measure => omega
                  case rel => exact ⟨j + 1, v, n, e, x, rfl, rfl, rfl, rfl, by go_num, by omega, by omega, VN, B8, n0, n1, e0, e1, v0, v1⟩
              as_aux_lemma =>
                have pr1 := M.mul_bd m0 m1 kb0 kb1
                have pr2 := M.mul_bd ka0 ka1 f0 f1
                have pr3 := M.mul_bd m0 m1 e0 e1
                have pr4 := M.mul_bd n0 n1 f0 f1
                have k1 : wrap64 (mm * kb) = mm * kb := IntWalk.wrap64_in _ (by omega)
                have k2 : wrap64 (ka * f) = ka * f := IntWalk.wrap64_in _ (by omega)
                have k3 : wrap64 (mm * e) = mm * e := IntWalk.wrap64_in _ (by omega)
                have k4 : wrap64 (n * f) = n * f := IntWalk.wrap64_in _ (by omega)
                clear pr1 pr2 pr3 pr4
                have aheadN : Hid (v < 0 → M.Hit.ahead (some (mm, f, y)) (g'.victim i s.pos (M.wayP c.aim) T j).2 = true) := fun hv => by
                  rcases VJ.out with ⟨h1, _⟩ | ⟨kk, _, h2, _⟩
                  · rw [h1]; rfl
                  · omega
                have aheadS : Hid (¬ v < 0 → (M.Hit.ahead (some (mm, f, y)) (g'.victim i s.pos (M.wayP c.aim) T j).2 = true ↔ mm * e < n * f)) := fun hv => by
                  rcases VJ.out with ⟨_, h1, _⟩ | ⟨kk, h1, _, _⟩
                  · omega
                  · rw [h1]; show decide (mm * e < n * f) = true ↔ _; exact decide_eq_true_iff
                obtain ⟨RE, hRE⟩ : ∃ R, M.reachH (M.entO (M.US s.pos (M.wayP c.aim) g'.leafs)) (some (mm, f, y)) = R := ⟨_, rfl⟩
                have HRE := hid hRE
                have rE : Hid (RE = if wl = true then !decide (ka * f < mm * kb) else true) := by
                  unfold Hid
                  rw [← hRE, HWL.out]
                  cases wl <;> rfl
                clear hRE
                have HH2 := hid (show M.hitAt s.pos (M.wayP c.aim) (g'.stood j T) = some (mm, f, y) from HH.out)
                clear HH
                cases RE
                · obtain rfl : wl = true := by
                    cases wl
                    · have := rE.out; cases this
                    · rfl
                  have hx : ka * f < mm * kb := by
                    have := rE.out
                    by_cases q : ka * f < mm * kb
                    · exact q
                    · rw [if_pos rfl, decide_eq_false q] at this; cases this
                  have VN := hid (VJ.out.no HH2.out (fun k => by rw [HRE.out] at k; cases k.1))
                  clear VJ HH2 aheadN aheadS rE HRE
                  as_aux_lemma =>
                    go_wp2
                    go_roundg (gk - 1)
                    case measure => omega
                    case rel => exact ⟨j + 1, v, n, e, x, rfl, rfl, rfl, rfl, by go_num, by omega, by omega, VN, B8, n0, n1, e0, e1, v0, v1⟩
                have zx : Hid (wl = true → ¬ ka * f < mm * kb) := fun hw q => by
                  have := rE.out; rw [if_pos hw, decide_eq_true q] at this; cases this
                clear rE
                by_cases hv : v < 0
                · have VN := hid (M.Vic.yes hlt HH2.out HY.out HNS.out ⟨HRE.out, aheadN.out hv⟩)
                  have hv2 : ¬ 0 ≤ v := by omega
                  clear VJ HH2 aheadN aheadS HRE
                  cases wl
                  · as_aux_lemma =>
                      go_wp2
                      go_roundg (gk - 1)
                      case measure => omega
                      case rel => exact ⟨j + 1, j, mm, f, y, rfl, rfl, rfl, rfl, by go_num, by omega, by omega, VN, B8, m0, m1, f0, f1, by omega, by omega⟩
                  · have hx := zx.out rfl
                    as_aux_lemma =>
                      go_wp2
                      go_roundg (gk - 1)
                      case measure => omega
                      case rel => exact ⟨j + 1, j, mm, f, y, rfl, rfl, rfl, rfl, by go_num, by omega, by omega, VN, B8, m0, m1, f0, f1, by omega, by omega⟩
                · have hv2 : 0 ≤ v := by omega
                  by_cases hn : mm * e < n * f
                  · have VN := hid (M.Vic.yes hlt HH2.out HY.out HNS.out ⟨HRE.out, (aheadS.out hv).2 hn⟩)
                    clear VJ HH2 aheadN aheadS HRE
                    cases wl
                    · as_aux_lemma =>
                        go_wp2
                        go_roundg (gk - 1)
                        case measure => omega
                        case rel => exact ⟨j + 1, j, mm, f, y, rfl, rfl, rfl, rfl, by go_num, by omega, by omega, VN, B8, m0, m1, f0, f1, by omega, by omega⟩
                    · have hx := zx.out rfl
                      as_aux_lemma =>
                        go_wp2
                        go_roundg (gk - 1)
                        case measure => omega
                        case rel => exact ⟨j + 1, j, mm, f, y, rfl, rfl, rfl, rfl, by go_num, by omega, by omega, VN, B8, m0, m1, f0, f1, by omega, by omega⟩
                  · have VN := hid (VJ.out.no HH2.out (fun k => hn ((aheadS.out hv).1 k.2)))
                    clear VJ HH2 aheadN aheadS HRE
                    cases wl
                    · as_aux_lemma =>
                        go_wp2
                        go_roundg (gk - 1)
                        case measure => omega
                        case rel => exact ⟨j + 1, v, n, e, x, rfl, rfl, rfl, rfl, by go_num, by omega, by omega, VN, B8, n0, n1, e0, e1, v0, v1⟩
                    · have hx := zx.out rfl
                      as_aux_lemma =>
                        go_wp2
                        go_roundg (gk - 1)
                        case measure => omega
                        case rel => exact ⟨j + 1, v, n, e, x, rfl, rfl, rfl, rfl, by go_num, by omega, by omega, VN, B8, n0, n1, e0, e1, v0, v1⟩
        · obtain rfl : j = 8 := by omega
          have j1 : ¬ (8 : Int) < 8 := by omega
          as_aux_lemma =>
            have UJ := hid (show On b w wr from U6.out.trans (On.below BJ.out))
            by_cases hv : v < 0
            · have EN := hid (show g.shot i c = g' from by rw [HSH.out]; exact VJ.out.end_no hv)
              clear VJ HSH
              go_wp2
              go_end0
              exact ⟨rfl, by rw [EN.out, gt]; exact GJ.out, UJ.out⟩
            · obtain ⟨k, rfl, hk8, hx, hE⟩ := VJ.out.end_yes hv
              have EN := hid (show g.shot i c = g'.put k ((g'.seat k).harm x g'.tick) from by rw [HSH.out]; exact hE)
              have tk : (g.shot i c).tick = g.tick := by rw [EN.out]; exact gt
              have TK := hid tk
              rw [gt] at EN
              clear VJ HSH hE hv tk
              have k0 : (0 : Int) ≤ (k : Int) := by omega
              have k1 : (k : Int) < 8 := by omega
              have sk := F1.out.s k hk8
              have h1 := sk.h1
              have h2 := sk.h2
              obtain ⟨t, ht⟩ : ∃ t, g'.seat k = t := ⟨_, rfl⟩
              have HTK := hid ht
              have c8 := GJ.out.cs k 8 hk8 (by omega)
              have c1 := GJ.out.cs k 1 hk8 (by omega)
              have c11 := GJ.out.cs k 11 hk8 (by omega)
              have ct := GJ.out.ct
              have fr := GJ.out.free
              rw [ht] at c8 c1 c11 h1 h2
              simp only [seatV] at c8 c1 c11
              clear ht sk
              have x1 : 25 ≤ x := by omega
              have x2 : x ≤ 60 := by omega
              clear hx
              by_cases hp : 0 < t.health - x
              · have EN2 := hid (show g.shot i c = g'.put k { t with health := t.health - x } from by rw [EN.out, HTK.out]; unfold M.Seat.harm; rw [if_pos hp])
                clear EN
                go_wp2
                go_end0
                refine ⟨rfl, ?_, UJ.out.trans (On.set b _ _ _)⟩
                rw [TK.out, EN2.out]
                refine (GJ.out.setS k 8 hk8 (by omega) (.int .i64 (t.health - x))).congr (fun a o ha ho => ?_)
                by_cases e : a = k
                · subst e
                  rw [M.Game.put_at, HTK.out]
                  simp only [true_and]
                  rcases fifteen ho with rfl | rfl | rfl | rfl | rfl | rfl | rfl | rfl | rfl | rfl | rfl | rfl | rfl | rfl | rfl <;> rfl
                · simp [M.Game.put_ne _ _ e, e]
              · have EN2 := hid (show g.shot i c = g'.put k { t with health := 0, live := false, died := g.tick } from by rw [EN.out, HTK.out]; unfold M.Seat.harm; rw [if_neg hp])
                clear EN
                go_wp2_with fail
                refine still_tail4 10 (by kernel_rfl) (by kernel_rfl) ?_
                simp only [List.take_succ_cons, List.take_zero, List.drop_succ_cons, List.drop_zero]
                repeat still_step
                refine wpStill_nil ?_
                go_wp2
                go_end0
                refine ⟨rfl, ?_, (((UJ.out.trans (On.set b _ _ _)).trans (On.set b _ _ _)).trans (On.set b _ _ _)).drew⟩
                rw [TK.out, EN2.out]
                refine ((((GJ.out.setS k 8 hk8 (by omega) (.int .i64 0)).setS k 1 hk8 (by omega) (.bool false)).setS k 11 hk8 (by omega) (.int .i64 g.tick)).drew).congr (fun a o ha ho => ?_)
                by_cases e : a = k
                · subst e
                  rw [M.Game.put_at, HTK.out]
                  simp only [true_and]
                  rcases fifteen ho with rfl | rfl | rfl | rfl | rfl | rfl | rfl | rfl | rfl | rfl | rfl | rfl | rfl | rfl | rfl <;> rfl
                · simp [M.Game.put_ne _ _ e, e]

end Go.Proofs.YtonmihojfcjmjaaGreat
