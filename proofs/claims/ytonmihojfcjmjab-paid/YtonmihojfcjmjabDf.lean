import Derived.Test.YtonmihojfcjmjabBBk
import Derived.Deep.MidRow
/- Deaf. -/
namespace Go.Proofs.Ytonmihojfcjmjab
open Go.RowKit
set_option linter.unusedVariables false
attribute [local go_sem] cell_set_off cell_set_blk

theorem big6 (a : Addr) : loadCellsFrom a 0 6 #[] = big 6 a := rfl
theorem big6' (a : Addr) : loadCells a 6 = big 6 a := rfl
def opL (o : M.KOp) : List Value := [.int .i64 o.kind, .int .i64 o.slot, .int .i64 o.p.x, .int .i64 o.p.y, .int .i64 o.p.z, .string o.s]
/-- From a on lie the steps. -/
def KRow (W : World) (a : Addr) (n : Nat) (os : Nat → M.KOp) : Prop := ∀ i, i < n → ∀ j v, (opL (os i))[j]? = some v → W.cell? ((a.add (i * 6)).add j) = some v
theorem add_block (a : Addr) (k : Nat) : (a.add k).block = a.block := by unfold Addr.add; split <;> rfl
theorem KRow.lt {W : World} {a : Addr} {n : Nat} {os : Nat → M.KOp} (h : KRow W a n os) (hn : 0 < n) : a.block < W.heap.size := by
  have := World.block_lt_of_cell? W _ (h 0 hn 0 _ rfl)
  rwa [add_block, add_block] at this
theorem KRow.below {W W' : World} {a : Addr} {n : Nat} {os : Nat → M.KOp} (h : KRow W a n os) (hb : Below W.heap.size W W') : KRow W' a n os := fun i hi j v hv => by
  have e := h i hi j v hv
  have l : a.block < W.heap.size := h.lt (by omega)
  rw [← e]
  exact World.cell?_of_block (by rw [add_block, add_block]; exact hb.block _ l)
theorem KRow.load {W : World} {a : Addr} {n : Nat} {os : Nat → M.KOp} (h : KRow W a n os) {i : Nat} (hi : i < n) : (big 6 (a.add (i * 6))).run Try.prog W = .ok (opL (os i)).toArray W := by
  have := run_loadCells_list (P := Try.prog) W (a.add (i * 6)) (opL (os i)) (fun j v hv => h i hi j v hv)
  exact this

attribute [local go_sem ↓] big6 big6' in
set_option maxRecDepth 100000 in
set_option maxHeartbeats 2000000 in
theorem deaf_some (a : Addr) (n cap : Nat) (os : Nat → M.KOp) (w : World) (hR : KRow w a n os) (hn : n ≤ 9223372036854775806) (hs : ∀ i, i < n → (os i).s.size ≤ 140737488355328) :
    Calls Try.prog 3 #[.slice (some a) n cap] w fun e w' => e = .returned (.bool true) ∧ Below w.heap.size w w' := by
  have HR := hid hR
  have HSz := hid hs
  have H0 := hid (fun W => sv_new M.z0S W (by decide) M.z0_err M.z0L M.z0_top (by decide) M.z0_cub)
  clear hR hs
  go_enter Try.func3, Try.ntmps3
  go_wp2_with fail
  refine (H0.out _).mono ?_
  rintro e w1 ⟨hb1, x, vx, rfl, hx, hsx, hvx⟩
  have B1 := hid hb1
  have X1 := hid hsx
  have HVX := hid hvx
  have lx := hsx.pg.lt
  have lrx := hid (fun k (hk : vx.ownBlock = some k) => own_lt hsx.own hk)
  clear hb1 hsx hvx
  go_wp2_with fail
  refine (H0.out _).mono ?_
  rintro e w2 ⟨hb2, y, vy, rfl, hy, hsy, hvy⟩
  have B2 := hid (bl B1.out hb2)
  have X2 := hid (X1.out.after hb2)
  have Y2 := hid hsy
  have HVY := hid hvy
  have ly := hsy.pg.lt
  have lry := hid (fun k (hk : vy.ownBlock = some k) => own_lt hsy.own hk)
  have s1 := B1.out.size
  have s2 := hb2.size
  clear hb2 hsy hvy X1 B1 H0
  go_wp2_with fail
  go_loopg [9, 10, 11, 12, 13, 14, 15, 16, 17, 18, 19] (n + 1) (fun m u9 u10 u11 u12 u13 u14 u15 u16 u17 u18 u19 wr => ∃ (j : Nat) (g : M.PGame) (bk : M.Book), u9 = .int .i64 j ∧ j ≤ n ∧ m + j = n + 1 ∧ Hid (Sv wr x vx M.z0L (M.prs M.z0S) g) ∧ Hid (Sv wr y vy M.z0L (M.prs M.z0S) g) ∧ Hid (Bk wr w2.heap.size bk) ∧ Hid (Bk wr (w2.heap.size + 1) bk) ∧ Hid (bk.Of g) ∧ Hid (Below w.heap.size w wr) ∧ w2.heap.size + 2 ≤ wr.heap.size)
  case atStart =>
    refine ⟨0, M.PGame.fresh, M.Book.none, rfl, by omega, by omega, hid (X2.out.after (by go_grown)), hid (Y2.out.after (by go_grown)), hid (show Bk _ _ _ from Blk.alloc (Blk.new rfl)), hid (show Bk _ _ _ from Blk.new (by simp)), hid ⟨rfl, fun i _ => rfl⟩, hid (by have := B2.out; go_grown), by simp⟩
  case round =>
    clear X2 Y2 B2
    obtain ⟨j, g, bk, rfl, hj, hm, XJ, YJ, KB, KC, OF, BW, lw⟩ := hrel
    have nxy : x ≠ y := by omega
    have nkx : w2.heap.size ≠ x := by omega
    have nky : w2.heap.size ≠ y := by omega
    have ncx : w2.heap.size + 1 ≠ x := by omega
    have ncy : w2.heap.size + 1 ≠ y := by omega
    have rx : Hid (∀ k, vx.ownBlock = some k → k ≠ y ∧ k ≠ w2.heap.size ∧ k ≠ w2.heap.size + 1) := fun k hk => by have := lrx.out k hk; exact ⟨by omega, by omega, by omega⟩
    have ry : Hid (∀ k, vy.ownBlock = some k → k ≠ x ∧ k ≠ w2.heap.size ∧ k ≠ w2.heap.size + 1) := fun k hk => by have := lry.out k hk; have := HVY.out k hk; exact ⟨by omega, by omega, by omega⟩
    by_cases hlt : j < n
    · have j0 : (0 : Int) ≤ (j : Int) := by omega
      have j1 : (j : Int) < (n : Int) := by omega
      have ld := (HR.out.below BW.out).load hlt
      have sz := HSz.out j hlt
      generalize os j = o at *
      unfold opL at ld
      obtain ⟨V, hV⟩ : ∃ V, wr.alloc (.cells #[.int .i64 o.kind, .int .i64 o.slot, .int .i64 o.p.x, .int .i64 o.p.y, .int .i64 o.p.z, .string o.s] 35) = V := ⟨_, rfl⟩
      have bV : Below wr.heap.size wr V := by rw [← hV]; go_grown
      have QO := hid (show Blk V wr.heap.size #[.int .i64 o.kind, .int .i64 o.slot, .int .i64 o.p.x, .int .i64 o.p.y, .int .i64 o.p.z, .string o.s] 35 from by rw [← hV]; exact Blk.new rfl)
      have XV := hid (XJ.out.after bV)
      have YV := hid (YJ.out.after bV)
      have KBV := hid (show Bk V w2.heap.size bk from Blk.after KB.out bV)
      have KCV := hid (show Bk V (w2.heap.size + 1) bk from Blk.after KC.out bV)
      have BV := hid (bl BW.out bV)
      have lo := QO.out.lt
      clear XJ YJ KB KC BW bV
      have sz2 : o.s.size ≤ maxLen := by unfold maxLen; omega
      obtain ⟨a0, a1, a2, a3, a4, a5, af, al⟩ := QO.out.six6
      by_cases h3 : o.kind = 3
      · have z3 : (o.kind == 3) = true := by simp [h3]
        obtain ⟨F, hF⟩ : ∃ F, g.packet o.slot (M.decR o.s) (M.decE o.s) = F := ⟨_, rfl⟩
        have HF := hid hF
        have hA := hid (show F.2.packet o.slot (M.decR o.s) (M.decE o.s) = (if F.1 = 0 then 9 else F.1, F.2) from by rw [← hF]; exact M.packet_again g _ _ _)
        have OF2 := hid (show bk.Of F.2 from hF ▸ OF.out.packet _ _ _)
        clear hF h3
        go_wp2_with fail
        try rw [hV]
        clear hV ld
        refine (bSent_any w2.heap.size x vx M.z0L (M.prs M.z0S) g bk o.slot o.s V XV.out KBV.out OF.out nkx sz2 F HF).mono ?_
        rintro e w3 ⟨rfl, hs3, ho3⟩
        have X3 := hid hs3
        have Y3 := hid (YV.out.on ho3 (fun e => nxy e.symm) (fun k hk => (ry.out k hk).1))
        have KB3 := hid (show Bk w3 w2.heap.size bk from Blk.on KBV.out ho3 nkx)
        have KC3 := hid (show Bk w3 (w2.heap.size + 1) bk from Blk.on KCV.out ho3 ncx)
        have QO3 := hid (QO.out.on ho3 (by omega))
        have B3 := hid (On.toBelow BV.out (by omega) ho3 (by omega))
        have l3 := ho3.size
        clear hs3 ho3 XV YV KBV KCV QO BV a0 a1 a2 a3 a4 a5 af al
        obtain ⟨a0, a1, a2, a3, a4, a5, af, al⟩ := QO3.out.six6
        go_wp2_with fail
        refine (bSent_any (w2.heap.size + 1) y vy M.z0L (M.prs M.z0S) g bk o.slot o.s w3 Y3.out KC3.out OF.out ncy sz2 F HF).mono ?_
        rintro e w4 ⟨rfl, hs4, ho4⟩
        have Y4 := hid hs4
        have X4 := hid (X3.out.on ho4 nxy (fun k hk => (rx.out k hk).1))
        have KB4 := hid (show Bk w4 w2.heap.size bk from Blk.on KB3.out ho4 nky)
        have KC4 := hid (show Bk w4 (w2.heap.size + 1) bk from Blk.on KC3.out ho4 ncy)
        have QO4 := hid (QO3.out.on ho4 (by omega))
        have B4 := hid (On.toBelow B3.out (by omega) ho4 (by omega))
        have l4 := ho4.size
        clear hs4 ho4 X3 Y3 KB3 KC3 QO3 B3 a0 a1 a2 a3 a4 a5 af al HF
        obtain ⟨a0, a1, a2, a3, a4, a5, af, al⟩ := QO4.out.six6
        go_wp2_with fail
        refine (bNoise_any (w2.heap.size + 1) y vy M.z0L (M.prs M.z0S) F.2 bk o.slot o.s F.1 w4 Y4.out KC4.out OF2.out ncy sz hA.out).mono ?_
        rintro e w5 ⟨rfl, hs5, ho5⟩
        have Y5 := hid hs5
        have X5 := hid (X4.out.on ho5 nxy (fun k hk => (rx.out k hk).1))
        have KB5 := hid (show Bk w5 w2.heap.size bk from Blk.on KB4.out ho5 nky)
        have KC5 := hid (show Bk w5 (w2.heap.size + 1) bk from Blk.on KC4.out ho5 ncy)
        have B5 := hid (On.toBelow B4.out (by omega) ho5 (by omega))
        have l5 := ho5.size
        clear hs5 ho5 X4 Y4 KB4 KC4 QO4 B4 a0 a1 a2 a3 a4 a5 af al hA
        go_wp2_with fail
        refine (bAlike_any w2.heap.size x y vx vy M.z0L (M.prs M.z0S) F.2 bk w5 X5.out Y5.out KB5.out OF2.out).mono ?_
        rintro e w6 ⟨rfl, hb6⟩
        have X6 := hid (X5.out.after hb6)
        have Y6 := hid (Y5.out.after hb6)
        have KB6 := hid (show Bk w6 w2.heap.size bk from Blk.after KB5.out hb6)
        have KC6 := hid (show Bk w6 (w2.heap.size + 1) bk from Blk.after KC5.out hb6)
        have B6 := hid (bl B5.out hb6)
        have l6 := hb6.size
        clear hb6 X5 Y5 KB5 KC5 B5
        go_wp2
        go_roundg (gk - 1)
        case measure => omega
        case rel => exact ⟨j + 1, F.2, bk, by go_num, by omega, by omega, X6, Y6, KB6, KC6, OF2, B6, by omega⟩
      · have z3 : (o.kind == 3) = false := by simp [h3]
        have ld2 := big_blk (P := Try.prog) (n := 6) QO.out rfl
        have OF2 := hid (M.play_of OF.out o)
        clear h3
        go_wp2_with fail
        try rw [hV]
        clear hV ld ld2
        refine (bPlayed_any w2.heap.size x vx (M.prs M.z0S) g bk o V XV.out KBV.out OF.out nkx (fun k hk => (rx.out k hk).2.1) sz2).mono ?_
        rintro e w3 ⟨rfl, hs3, hk3, ho3⟩
        have X3 := hid hs3
        have KB3 := hid hk3
        have Y3 := hid (YV.out.onS ho3 (fun e => e.elim (fun h => nxy h.symm) (fun h => nky h.symm)) (fun k hk e => e.elim (ry.out k hk).1 (ry.out k hk).2.1))
        have KC3 := hid (show Bk w3 (w2.heap.size + 1) bk from Blk.onS KCV.out ho3 (fun e => e.elim ncx (by omega)))
        have QO3 := hid (QO.out.onS ho3 (fun e => e.elim (by omega) (by omega)))
        have B3 := hid (OnS.toBelow BV.out (by omega) ho3 (fun k e => by rcases e with rfl | rfl <;> omega))
        have l3 := ho3.size
        clear hs3 hk3 ho3 XV YV KBV KCV QO BV a0 a1 a2 a3 a4 a5 af al
        have ld3 := big_blk (P := Try.prog) (n := 6) QO3.out rfl
        go_wp2_with fail
        clear ld3
        refine (bPlayed_any (w2.heap.size + 1) y vy (M.prs M.z0S) g bk o w3 Y3.out KC3.out OF.out ncy (fun k hk => (ry.out k hk).2.2) sz2).mono ?_
        rintro e w4 ⟨rfl, hs4, hk4, ho4⟩
        have Y4 := hid hs4
        have KC4 := hid hk4
        have X4 := hid (X3.out.onS ho4 (fun e => e.elim nxy (fun h => ncx h.symm)) (fun k hk e => e.elim (rx.out k hk).1 (rx.out k hk).2.2))
        have KB4 := hid (show Bk w4 w2.heap.size (M.playB bk g o) from Blk.onS KB3.out ho4 (fun e => e.elim nky (by omega)))
        have B4 := hid (OnS.toBelow B3.out (by omega) ho4 (fun k e => by rcases e with rfl | rfl <;> omega))
        have l4 := ho4.size
        clear hs4 hk4 ho4 X3 Y3 KB3 KC3 QO3 B3
        go_wp2_with fail
        refine (bAlike_any w2.heap.size x y vx vy M.z0L (M.prs M.z0S) (M.playG g o) (M.playB bk g o) w4 X4.out Y4.out KB4.out OF2.out).mono ?_
        rintro e w6 ⟨rfl, hb6⟩
        have X6 := hid (X4.out.after hb6)
        have Y6 := hid (Y4.out.after hb6)
        have KB6 := hid (show Bk w6 w2.heap.size (M.playB bk g o) from Blk.after KB4.out hb6)
        have KC6 := hid (show Bk w6 (w2.heap.size + 1) (M.playB bk g o) from Blk.after KC4.out hb6)
        have B6 := hid (bl B4.out hb6)
        have l6 := hb6.size
        clear hb6 X4 Y4 KB4 KC4 B4
        go_wp2
        go_roundg (gk - 1)
        case measure => omega
        case rel => exact ⟨j + 1, M.playG g o, M.playB bk g o, by go_num, by omega, by omega, X6, Y6, KB6, KC6, OF2, B6, by omega⟩
    · have j1 : ¬ (j : Int) < (n : Int) := by omega
      go_wp2
      go_ret
      exact ⟨rfl, BW.out⟩

set_option maxRecDepth 100000 in
set_option maxHeartbeats 2000000 in
theorem deaf_nil (w : World) : Calls Try.prog 3 #[.slice none 0 0] w fun e w' => e = .returned (.bool true) ∧ Below w.heap.size w w' := by
  have H0 := hid (fun W => sv_new M.z0S W (by decide) M.z0_err M.z0L M.z0_top (by decide) M.z0_cub)
  go_enter Try.func3, Try.ntmps3
  go_wp2_with fail
  refine (H0.out _).mono ?_
  rintro e w1 ⟨hb1, x, vx, rfl, hx, hsx, hvx⟩
  have B1 := hid hb1
  clear hb1 hsx hvx
  go_wp2_with fail
  refine (H0.out _).mono ?_
  rintro e w2 ⟨hb2, y, vy, rfl, hy, hsy, hvy⟩
  have B2 := hid (bl B1.out hb2)
  clear hb2 hsy hvy B1 H0
  go_wp2_with fail
  refine wp_loop_rounds 1 ?_
  rw [rounds_succ]
  go_wp2
  go_ret
  exact ⟨rfl, by have := B2.out; have := B2.out.size; go_grown⟩

end Go.Proofs.Ytonmihojfcjmjab
