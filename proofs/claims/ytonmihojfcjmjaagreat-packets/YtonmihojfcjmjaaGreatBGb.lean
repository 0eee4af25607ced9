import Derived.Test.YtonmihojfcjmjaaGreatBGa
/- Contracts of the document's game: wants, a command waits. -/
namespace Go.Proofs.YtonmihojfcjmjaaGreat
open Go.RowKit
set_option linter.unusedVariables false
attribute [local go_sem] cell_set_off cell_set_blk

theorem infoCmd : (Tryz.prog.info? 50).map (fun i => (i.zero, i.size, i.bytes)) = some (some (.agg #[.int .i64 0, .bool false, .int .i64 0, .int .i64 0, .int .i64 0, .int .i64 0, .int .i64 0, .int .i64 0, .int .i64 0]), 9, 72) := by kernel_rfl

theorem Blk.nine2 {W : World} {b : Nat} {x0 x1 x2 x3 x4 x5 x6 x7 x8 : Value} {t : TypeId} (h : Blk W b #[x0, x1, x2, x3, x4, x5, x6, x7, x8] t) :
    W.cell? ⟨b, 0, none⟩ = some x0 ∧ W.cell? ⟨b, 1, none⟩ = some x1 ∧ W.cell? ⟨b, 2, none⟩ = some x2 ∧ W.cell? ⟨b, 3, none⟩ = some x3 ∧ W.cell? ⟨b, 4, none⟩ = some x4 ∧ W.cell? ⟨b, 5, none⟩ = some x5 ∧ W.cell? ⟨b, 6, none⟩ = some x6 ∧ W.cell? ⟨b, 7, none⟩ = some x7 ∧ W.cell? ⟨b, 8, none⟩ = some x8 ∧
    (∀ i, W.frozen? ⟨b, i, none⟩ = false) ∧ b < W.heap.size :=
  ⟨h.cell 0, h.cell 1, h.cell 2, h.cell 3, h.cell 4, h.cell 5, h.cell 6, h.cell 7, h.cell 8, h.frozen, h.lt⟩

theorem row_below {W W' : World} {base e size n B : Nat} {v : Value} {xs : List Value} (h : W.ownsRow base e size v n xs) (hb : Below B W W') (hv : ∀ g, v.ownBlock = some g → g < B) : W'.ownsRow base e size v n xs := by
  refine ⟨h.1, ?_⟩
  rcases h.2 with x | ⟨g, cap, cur, rfl, h1, h2, h3⟩
  · exact .inl x
  · exact .inr ⟨g, cap, cur, rfl, h1, by rw [hb.block g (hv g rfl)]; exact h2, h3⟩
theorem row_own2 {W : World} {base e size n : Nat} {v : Value} {xs : List Value} (h : W.ownsRow base e size v n xs) : ∀ k, v.ownBlock = some k → base ≤ k := by
  intro k hk
  rcases h.2 with ⟨rfl, _⟩ | ⟨g', cap, cur, rfl, hb, _⟩
  · cases hk
  · have : g' = k := by simpa [Value.ownBlock] using hk
    omega

theorem row_slice {W : World} {base e size n : Nat} {v : Value} {xs : List Value} (h : W.ownsRow base e size v n xs) : ∃ x k c, v = .slice x k c := by
  rcases h.2 with ⟨rfl, _⟩ | ⟨g', cap, cur, rfl, hb, _⟩
  · exact ⟨_, _, _, rfl⟩
  · exact ⟨_, _, _, rfl⟩

theorem Blk.set9b {W : World} {b : Nat} {x0 x1 x2 x3 x4 x5 x6 x7 x8 : Value} {t : TypeId} (h : Blk W b #[x0, x1, x2, x3, x4, x5, x6, x7, x8] t) (y0 y1 y2 y3 y4 y5 y6 y7 y8 : Value) : Blk (((((((((W.setCell ⟨b, 0, none⟩ y0).setCell ⟨b, 1, none⟩ y1).setCell ⟨b, 2, none⟩ y2).setCell ⟨b, 3, none⟩ y3).setCell ⟨b, 4, none⟩ y4).setCell ⟨b, 5, none⟩ y5).setCell ⟨b, 6, none⟩ y6).setCell ⟨b, 7, none⟩ y7).setCell ⟨b, 8, none⟩ y8).drew b #[y0, y1, y2, y3, y4, y5, y6, y7, y8] t := by
  have e := (((((((((h.set 0 y0).set 1 y1).set 2 y2).set 3 y3).set 4 y4).set 5 y5).set 6 y6).set 7 y7).set 8 y8).drew
  simp only [List.setIfInBounds_toArray, List.set_cons_succ, List.set_cons_zero] at e
  exact e

theorem on9R (W : World) (n : Nat) (y0 y1 y2 y3 y4 y5 y6 y7 y8 : Value) : On n W ((((((((((W.setCell ⟨n, 0, none⟩ y0).setCell ⟨n, 1, none⟩ y1).setCell ⟨n, 2, none⟩ y2).setCell ⟨n, 3, none⟩ y3).setCell ⟨n, 4, none⟩ y4).setCell ⟨n, 5, none⟩ y5).setCell ⟨n, 6, none⟩ y6).setCell ⟨n, 7, none⟩ y7).setCell ⟨n, 8, none⟩ y8).drew) := (((((((((On.set n 0 W y0).trans (On.set n 1 _ y1)).trans (On.set n 2 _ y2)).trans (On.set n 3 _ y3)).trans (On.set n 4 _ y4)).trans (On.set n 5 _ y5)).trans (On.set n 6 _ y6)).trans (On.set n 7 _ y7)).trans (On.set n 8 _ y8)).drew

/-- What wants leaves. -/
def WantsPost (b i : Nat) (m lv tv gv : Value) (f : Nat → Nat → Value) (s : M.Seat) (c : M.Cmd) (rest : List M.Cmd) (w : World) (e : Ending) (w' : World) : Prop :=
  e = .returned (.tuple #[.agg #[.int .i64 c.seq, .bool c.fire, .int .i64 c.mv.x, .int .i64 c.mv.y, .int .i64 c.mv.z, .int .i64 c.aim.x, .int .i64 c.aim.y, .int .i64 c.aim.z, .int .i64 c.time], .bool s.live]) ∧ On b w w' ∧ ∃ v' : Value, w'.ownsRow w.heap.size 50 9 v' rest.length (cmds rest) ∧ Gc w' b m lv tv gv (fun j => if j = i then seatV { s with wait := rest } v' else f j)

set_option maxRecDepth 100000 in
set_option maxHeartbeats 4000000 in
theorem gWants_yes (b i g cap base : Nat) (m lv tv gv : Value) (f : Nat → Nat → Value) (s : M.Seat) (c : M.Cmd) (rest : List M.Cmd) (w : World) (hi : i < 8) (h : Gc w b m lv tv gv f) (hs : ∀ k, k < 15 → f i k = seatV s (.slice (some ⟨g, 0, none⟩) (rest.length + 1) cap) k)
    (hr : rest.length ≤ 3) (hh : s.here = true) (hw : w.ownsRow base 50 9 (.slice (some ⟨g, 0, none⟩) (rest.length + 1) cap) (rest.length + 1) (cmds (c :: rest))) (hg : g < w.heap.size) :
    Calls Tryz.prog 62 #[.pointer (some ⟨b, 0, none⟩), .int .i64 i] w (WantsPost b i m lv tv gv f s c rest w) := by
  obtain ⟨c0, c1, c2, c3, c4, c5, c6, c7, c8, c9, c10, c11, c12, c13, c14⟩ := h.seat hi hs
  obtain ⟨d0, d1, d2, d3, d4, d5, d6, d7, d8⟩ := own_cmd9 hw (i := 0) (c := c) rfl
  simp only [Nat.zero_mul, Nat.zero_add] at d0 d1 d2 d3 d4 d5 d6 d7 d8
  have HW : Hid (w.ownsRow base 50 9 (.slice (some ⟨g, 0, none⟩) (rest.length + 1) cap) (rest.length + 1) (cmds (c :: rest))) := hw
  have HG : Hid (Gc w b m lv tv gv f) := h
  have HS : Hid (∀ k, k < 15 → f i k = seatV s (.slice (some ⟨g, 0, none⟩) (rest.length + 1) cap) k) := hs
  have hb := h.lt
  have i0 : (0 : Int) ≤ (i : Int) := by omega
  have i1 : (i : Int) < 8 := by omega
  have r0 : (0 : Int) ≤ (rest.length : Int) := by omega
  have r1 : (rest.length : Int) ≤ 3 := by omega
  have z0 : (((rest.length : Int) + 1) == 0) = false := beq_eq_false_iff_ne.2 (by omega)
  obtain ⟨ii, hi0, hz0, hz1, hz2⟩ := info_parts infoCmd
  rw [hh] at c0
  clear h hs hw hh
  go_enter Tryz.func62, Tryz.ntmps62
  go_wp2_with fail
  have q0 : Blk (((w.alloc (.cells #[.int .i64 0, .bool false, .int .i64 0, .int .i64 0, .int .i64 0, .int .i64 0, .int .i64 0, .int .i64 0, .int .i64 0] 50)).alloc (.cells #[.bool true, .bool s.live, .int .i64 s.pos.x, .int .i64 s.pos.y, .int .i64 s.pos.z, .int .i64 s.home.x, .int .i64 s.home.y, .int .i64 s.home.z, .int .i64 s.health, .int .i64 s.ammo, .int .i64 s.shot, .int .i64 s.died, .int .i64 s.gen, .int .i64 s.last, .slice (some ⟨g, 0, none⟩) (rest.length + 1) cap] 74)).alloc (.cells #[.int .i64 c.seq, .bool c.fire, .int .i64 c.mv.x, .int .i64 c.mv.y, .int .i64 c.mv.z, .int .i64 c.aim.x, .int .i64 c.aim.y, .int .i64 c.aim.z, .int .i64 c.time] 50)) w.heap.size #[.int .i64 0, .bool false, .int .i64 0, .int .i64 0, .int .i64 0, .int .i64 0, .int .i64 0, .int .i64 0, .int .i64 0] 50 := ((Blk.new rfl).alloc).alloc
  have q1 : Blk (((w.alloc (.cells #[.int .i64 0, .bool false, .int .i64 0, .int .i64 0, .int .i64 0, .int .i64 0, .int .i64 0, .int .i64 0, .int .i64 0] 50)).alloc (.cells #[.bool true, .bool s.live, .int .i64 s.pos.x, .int .i64 s.pos.y, .int .i64 s.pos.z, .int .i64 s.home.x, .int .i64 s.home.y, .int .i64 s.home.z, .int .i64 s.health, .int .i64 s.ammo, .int .i64 s.shot, .int .i64 s.died, .int .i64 s.gen, .int .i64 s.last, .slice (some ⟨g, 0, none⟩) (rest.length + 1) cap] 74)).alloc (.cells #[.int .i64 c.seq, .bool c.fire, .int .i64 c.mv.x, .int .i64 c.mv.y, .int .i64 c.mv.z, .int .i64 c.aim.x, .int .i64 c.aim.y, .int .i64 c.aim.z, .int .i64 c.time] 50)) (w.heap.size + 1) #[.bool true, .bool s.live, .int .i64 s.pos.x, .int .i64 s.pos.y, .int .i64 s.pos.z, .int .i64 s.home.x, .int .i64 s.home.y, .int .i64 s.home.z, .int .i64 s.health, .int .i64 s.ammo, .int .i64 s.shot, .int .i64 s.died, .int .i64 s.gen, .int .i64 s.last, .slice (some ⟨g, 0, none⟩) (rest.length + 1) cap] 74 := (Blk.new (by simp)).alloc
  have q2 : Blk (((w.alloc (.cells #[.int .i64 0, .bool false, .int .i64 0, .int .i64 0, .int .i64 0, .int .i64 0, .int .i64 0, .int .i64 0, .int .i64 0] 50)).alloc (.cells #[.bool true, .bool s.live, .int .i64 s.pos.x, .int .i64 s.pos.y, .int .i64 s.pos.z, .int .i64 s.home.x, .int .i64 s.home.y, .int .i64 s.home.z, .int .i64 s.health, .int .i64 s.ammo, .int .i64 s.shot, .int .i64 s.died, .int .i64 s.gen, .int .i64 s.last, .slice (some ⟨g, 0, none⟩) (rest.length + 1) cap] 74)).alloc (.cells #[.int .i64 c.seq, .bool c.fire, .int .i64 c.mv.x, .int .i64 c.mv.y, .int .i64 c.mv.z, .int .i64 c.aim.x, .int .i64 c.aim.y, .int .i64 c.aim.z, .int .i64 c.time] 50)) (w.heap.size + 1 + 1) #[.int .i64 c.seq, .bool c.fire, .int .i64 c.mv.x, .int .i64 c.mv.y, .int .i64 c.mv.z, .int .i64 c.aim.x, .int .i64 c.aim.y, .int .i64 c.aim.z, .int .i64 c.time] 50 := Blk.new (by simp)
  have B0 : Below w.heap.size w (((w.alloc (.cells #[.int .i64 0, .bool false, .int .i64 0, .int .i64 0, .int .i64 0, .int .i64 0, .int .i64 0, .int .i64 0, .int .i64 0] 50)).alloc (.cells #[.bool true, .bool s.live, .int .i64 s.pos.x, .int .i64 s.pos.y, .int .i64 s.pos.z, .int .i64 s.home.x, .int .i64 s.home.y, .int .i64 s.home.z, .int .i64 s.health, .int .i64 s.ammo, .int .i64 s.shot, .int .i64 s.died, .int .i64 s.gen, .int .i64 s.last, .slice (some ⟨g, 0, none⟩) (rest.length + 1) cap] 74)).alloc (.cells #[.int .i64 c.seq, .bool c.fire, .int .i64 c.mv.x, .int .i64 c.mv.y, .int .i64 c.mv.z, .int .i64 c.aim.x, .int .i64 c.aim.y, .int .i64 c.aim.z, .int .i64 c.time] 50)) := by go_grown
  have e0 : (((w.alloc (.cells #[.int .i64 0, .bool false, .int .i64 0, .int .i64 0, .int .i64 0, .int .i64 0, .int .i64 0, .int .i64 0, .int .i64 0] 50)).alloc (.cells #[.bool true, .bool s.live, .int .i64 s.pos.x, .int .i64 s.pos.y, .int .i64 s.pos.z, .int .i64 s.home.x, .int .i64 s.home.y, .int .i64 s.home.z, .int .i64 s.health, .int .i64 s.ammo, .int .i64 s.shot, .int .i64 s.died, .int .i64 s.gen, .int .i64 s.last, .slice (some ⟨g, 0, none⟩) (rest.length + 1) cap] 74)).alloc (.cells #[.int .i64 c.seq, .bool c.fire, .int .i64 c.mv.x, .int .i64 c.mv.y, .int .i64 c.mv.z, .int .i64 c.aim.x, .int .i64 c.aim.y, .int .i64 c.aim.z, .int .i64 c.time] 50)).heap.size = w.heap.size + 3 := by simp
  generalize ((w.alloc (.cells #[.int .i64 0, .bool false, .int .i64 0, .int .i64 0, .int .i64 0, .int .i64 0, .int .i64 0, .int .i64 0, .int .i64 0] 50)).alloc (.cells #[.bool true, .bool s.live, .int .i64 s.pos.x, .int .i64 s.pos.y, .int .i64 s.pos.z, .int .i64 s.home.x, .int .i64 s.home.y, .int .i64 s.home.z, .int .i64 s.health, .int .i64 s.ammo, .int .i64 s.shot, .int .i64 s.died, .int .i64 s.gen, .int .i64 s.last, .slice (some ⟨g, 0, none⟩) (rest.length + 1) cap] 74)).alloc (.cells #[.int .i64 c.seq, .bool c.fire, .int .i64 c.mv.x, .int .i64 c.mv.y, .int .i64 c.mv.z, .int .i64 c.aim.x, .int .i64 c.aim.y, .int .i64 c.aim.z, .int .i64 c.time] 50) = W0 at q0 q1 q2 B0 e0 ⊢
  have Q0 : Hid (Blk W0 w.heap.size #[.int .i64 0, .bool false, .int .i64 0, .int .i64 0, .int .i64 0, .int .i64 0, .int .i64 0, .int .i64 0, .int .i64 0] 50) := q0
  have Q1 : Hid (Blk W0 (w.heap.size + 1) #[.bool true, .bool s.live, .int .i64 s.pos.x, .int .i64 s.pos.y, .int .i64 s.pos.z, .int .i64 s.home.x, .int .i64 s.home.y, .int .i64 s.home.z, .int .i64 s.health, .int .i64 s.ammo, .int .i64 s.shot, .int .i64 s.died, .int .i64 s.gen, .int .i64 s.last, .slice (some ⟨g, 0, none⟩) (rest.length + 1) cap] 74) := q1
  have Q2 : Hid (Blk W0 (w.heap.size + 1 + 1) #[.int .i64 c.seq, .bool c.fire, .int .i64 c.mv.x, .int .i64 c.mv.y, .int .i64 c.mv.z, .int .i64 c.aim.x, .int .i64 c.aim.y, .int .i64 c.aim.z, .int .i64 c.time] 50) := q2
  have HB0 : Hid (Below w.heap.size w W0) := B0
  clear q0 q1 q2 B0 c0 c1 c2 c3 c4 c5 c6 c7 c8 c9 c10 c11 c12 c13 c14 d0 d1 d2 d3 d4 d5 d6 d7 d8
  go_loopg [8, 9] (rest.length + 1) (fun k u8 u9 wr => ∃ j : Nat, u9 = .int .i64 ((j : Int) + 1) ∧ j ≤ rest.length ∧ k + j = rest.length + 1 ∧ wr.ownsRow W0.heap.size 50 9 u8 j (cmds (rest.take j)) ∧ Below W0.heap.size W0 wr)
  case atStart => exact ⟨0, rfl, Nat.zero_le _, by omega, ⟨rfl, .inl ⟨rfl, rfl⟩⟩, Below.refl _ _⟩
  case round =>
    obtain ⟨j, rfl, hj, hk, hO, hB⟩ := hrel
    have HO : Hid (wr.ownsRow W0.heap.size 50 9 u8 j (cmds (rest.take j))) := hO
    have hz : W0.heap.size ≤ wr.heap.size := hB.size
    have a14 := (Q1.out.after hB).cell 14
    have a1 := (Q1.out.after hB).cell 1
    simp only [List.getElem?_toArray, List.getElem?_cons_zero, List.getElem?_cons_succ] at a14 a1
    have azs := (Q1.out.after hB).lt
    clear hO
    have j0 : (0 : Int) ≤ (j : Int) := by omega
    have j3 : (j : Int) ≤ 3 := by omega
    by_cases hlt : j < rest.length
    · obtain ⟨x, hx⟩ : ∃ x, rest[j]? = some x := ⟨rest[j], List.getElem?_eq_getElem hlt⟩
      have hwr := row_below (row_below HW.out HB0.out (fun k hk => by have : g = k := (by simpa [Value.ownBlock] using hk); omega)) hB (fun k hk => by have : g = k := (by simpa [Value.ownBlock] using hk); omega)
      obtain ⟨d0, d1, d2, d3, d4, d5, d6, d7, d8⟩ := own_cmd9 hwr (i := j + 1) (c := x) (by simpa using hx)
      have HT : Hid (rest.take (j + 1) = rest.take j ++ [x]) := by unfold Hid; rw [List.take_add_one, hx]; rfl
      have j1 : (j : Int) + 1 < (rest.length : Int) + 1 := by omega
      clear hwr hx
      go_wp2_with (at_builtin; refine wpList_append_lies _ (by rfl) _ _ _ (by rfl) W0.heap.size 50 ii _ 9 72 Tryz.underlying72 hi0 hz0 hz1 hz2 rfl (by omega) u8 j (cmds (rest.take j)) (by rfl) (Go.World.ownsRow.alloc HO.out _) ⟨wr.heap.size, 0, none⟩ 1 1 (cmdCells x) (by rfl) (by rfl) (World.news_of_block (cs := (cmdCells x).toArray) (t := 50) (fr := (0, 0)) (Blk.new rfl).at_) (by simp [cmdCells, Value.oneCell']) (by omega) (by unfold maxLen; omega) (by omega) (by simp; omega) (wr.heap.size + 1) (by simp) ?_; intro g1 cap1 w4 hown1 hgrow1 hat1 hlt1)
      go_roundg (gk - 1)
      case measure => omega
      case rel =>
        refine ⟨j + 1, by go_num, hlt, by omega, ?_, ?_⟩
        · rw [HT.out, cmds_snoc]; exact hown1
        · exact (hB.alloc hz _).grown hgrow1 (by simp; omega) (row_own2 HO.out)
    · obtain rfl : j = rest.length := by omega
      have ht : rest.take rest.length = rest := List.take_length
      rw [ht] at HO
      have hBw : Below w.heap.size w wr := HB0.out.trans (hB.mono (by omega))
      have G1 := HG.out.of (hBw.block b hb) (by have := hBw.size; omega)
      have c14 := (G1.seat hi HS.out).2.2.2.2.2.2.2.2.2.2.2.2.2.2
      have fr := G1.free
      obtain ⟨e1, e2, e3, e4, e5, e6, e7, e8, e9, ef, ez⟩ := (Q0.out.after hB).nine2
      obtain ⟨p1, p2, p3, p4, p5, p6, p7, p8, p9, pf, pz⟩ := (Q2.out.after hB).nine2
      have j1 : ¬ (rest.length : Int) + 1 < (rest.length : Int) + 1 := by omega
      have HG1 : Hid (Gc wr b m lv tv gv f) := G1
      have HBw : Hid (Below w.heap.size w wr) := hBw
      obtain ⟨x8, n8, k8, rfl⟩ := row_slice HO.out
      have hne : b ≠ w.heap.size + 1 := by omega
      have hne2 : b ≠ w.heap.size + 1 + 1 := by omega
      have hne3 : b ≠ w.heap.size := by omega
      clear ht G1 hBw
      go_wp2_with fail
      have G2 := HG1.out.setS i 14 hi (by omega) (.slice x8 n8 k8)
      have O2 : On b w (wr.setCell ⟨b, 3 + i * 15 + 14, none⟩ (.slice x8 n8 k8)) := (On.below HBw.out).trans (On.set b (3 + i * 15 + 14) wr (.slice x8 n8 k8))
      have q0 := (Q0.out.after hB).other (c := b) (3 + i * 15 + 14) (.slice x8 n8 k8) (fun e => hne3 e.symm)
      have q1 := (Q1.out.after hB).other (c := b) (3 + i * 15 + 14) (.slice x8 n8 k8) (fun e => hne e.symm)
      have q2 := (Q2.out.after hB).other (c := b) (3 + i * 15 + 14) (.slice x8 n8 k8) (fun e => hne2 e.symm)
      have hO5 : (wr.setCell ⟨b, 3 + i * 15 + 14, none⟩ (.slice x8 n8 k8)).ownsRow W0.heap.size 50 9 (.slice x8 n8 k8) rest.length (cmds rest) := by
        refine ⟨HO.out.1, ?_⟩
        rcases HO.out.2 with x | ⟨g5, cap5, cur5, e5, h5, h6, h7⟩
        · exact .inl x
        · exact .inr ⟨g5, cap5, cur5, e5, h5, by rw [Below.heap_setCell _ _ _ _ (show g5 ≠ b by omega)]; exact h6, h7⟩
      have HO5 : Hid ((wr.setCell ⟨b, 3 + i * 15 + 14, none⟩ (.slice x8 n8 k8)).ownsRow W0.heap.size 50 9 (.slice x8 n8 k8) rest.length (cmds rest)) := hO5
      clear hO5 e1 e2 e3 e4 e5 e6 e7 e8 e9 ef ez p1 p2 p3 p4 p5 p6 p7 p8 p9 pf pz a14 a1 c14 fr azs
      generalize wr.setCell ⟨b, 3 + i * 15 + 14, none⟩ (.slice x8 n8 k8) = w5 at G2 O2 q0 q1 q2 HO5 ⊢
      have HG2 : Hid (Gc w5 b m lv tv gv _) := G2
      have HO2 : Hid (On b w w5) := O2
      obtain ⟨e1, e2, e3, e4, e5, e6, e7, e8, e9, ef, ez⟩ := q0.nine2
      obtain ⟨p1, p2, p3, p4, p5, p6, p7, p8, p9, pf, pz⟩ := q2.nine2
      have a1 := q1.cell 1
      simp only [List.getElem?_toArray, List.getElem?_cons_zero, List.getElem?_cons_succ] at a1
      clear G2 O2
      go_region
      all_goals go_wp2
      have O9 := on9R w5 w.heap.size (.int .i64 c.seq) (.bool c.fire) (.int .i64 c.mv.x) (.int .i64 c.mv.y) (.int .i64 c.mv.z) (.int .i64 c.aim.x) (.int .i64 c.aim.y) (.int .i64 c.aim.z) (.int .i64 c.time)
      have q9 := q0.set9b (.int .i64 c.seq) (.bool c.fire) (.int .i64 c.mv.x) (.int .i64 c.mv.y) (.int .i64 c.mv.z) (.int .i64 c.aim.x) (.int .i64 c.aim.y) (.int .i64 c.aim.z) (.int .i64 c.time)
      generalize (((((((((w5.setCell ⟨w.heap.size, 0, none⟩ (.int .i64 c.seq)).setCell ⟨w.heap.size, 1, none⟩ (.bool c.fire)).setCell ⟨w.heap.size, 2, none⟩ (.int .i64 c.mv.x)).setCell ⟨w.heap.size, 3, none⟩ (.int .i64 c.mv.y)).setCell ⟨w.heap.size, 4, none⟩ (.int .i64 c.mv.z)).setCell ⟨w.heap.size, 5, none⟩ (.int .i64 c.aim.x)).setCell ⟨w.heap.size, 6, none⟩ (.int .i64 c.aim.y)).setCell ⟨w.heap.size, 7, none⟩ (.int .i64 c.aim.z)).setCell ⟨w.heap.size, 8, none⟩ (.int .i64 c.time)).drew = w9 at O9 q9 ⊢
      clear e1 e2 e3 e4 e5 e6 e7 e8 e9 ef ez p1 p2 p3 p4 p5 p6 p7 p8 p9 pf pz a1 q0 q1 q2
      obtain ⟨e1, e2, e3, e4, e5, e6, e7, e8, e9, ef, ez⟩ := q9.nine2
      refine bodyPost_ret (v := .tuple #[.agg #[.int .i64 c.seq, .bool c.fire, .int .i64 c.mv.x, .int .i64 c.mv.y, .int .i64 c.mv.z, .int .i64 c.aim.x, .int .i64 c.aim.y, .int .i64 c.aim.z, .int .i64 c.time], .bool s.live]) (by simp [results, Tryz.results62, go_sem, e1, e2, e3, e4, e5, e6, e7, e8, e9]) rfl ?_
      clear e1 e2 e3 e4 e5 e6 e7 e8 e9 ef ez q9
      have z5 : w.heap.size ≤ w5.heap.size := HO2.out.size
      have z9 : w5.heap.size ≤ w9.heap.size := O9.size
      refine ⟨rfl, ⟨O9.os.trans HO2.out.os, O9.tape.trans HO2.out.tape, O9.output.trans HO2.out.output, by omega, fun k hk hb => (O9.block k (by omega) (by omega)).trans (HO2.out.block k hk hb)⟩, .slice x8 n8 k8, ?_, ?_⟩
      · refine ⟨HO5.out.1, ?_⟩
        rcases HO5.out.2 with x | ⟨g5, cap5, cur5, e5, h5, h6, h7⟩
        · exact .inl x
        · exact .inr ⟨g5, cap5, cur5, e5, by omega, by rw [O9.block g5 (Array.getElem?_eq_some_iff.1 h6).1 (by omega)]; exact h6, h7⟩
      · refine (HG2.out.of (O9.block b HG2.out.lt hne3) (by have := HG2.out.lt; omega)).congr ?_
        intro j k hj hk
        by_cases e : j = i
        · subst e
          simp only [true_and, if_true]
          rcases fifteen hk with rfl | rfl | rfl | rfl | rfl | rfl | rfl | rfl | rfl | rfl | rfl | rfl | rfl | rfl | rfl <;> first | rfl | (simp; rw [HS.out _ (by omega)]; rfl)
        · simp [e]
end Go.Proofs.YtonmihojfcjmjaaGreat

/- Contracts of the document's game: Connect. -/
namespace Go.Proofs.YtonmihojfcjmjaaGreat
open Go.RowKit
set_option linter.unusedVariables false
attribute [local go_sem] cell_set_off cell_set_blk

/-- What Connect leaves. -/
def ConPost (b : Nat) (m lv tv gv : Value) (g : M.Game) (wv : Nat → Value) (p : M.V3) (w : World) (e : Ending) (w' : World) : Prop :=
  e = .returned (.tuple #[.int .i64 (g.connect p).1, .int .i64 (g.connect p).2.1]) ∧ On b w w' ∧ ∃ wv' : Nat → Value, Gc w' b m lv tv gv (fun i => seatV ((g.connect p).2.2.seat i) (wv' i)) ∧ ∀ i, (wv' i = wv i ∧ ((g.connect p).2.2.seat i).wait = (g.seat i).wait) ∨ (wv' i = .slice none 0 0 ∧ ((g.connect p).2.2.seat i).wait = [])

theorem ConPost.mk {b : Nat} {m lv tv gv : Value} {g : M.Game} {wv : Nat → Value} {p : M.V3} {w w' : World} {a c : Int} {h : M.Game} (e : g.connect p = (a, c, h)) (o : On b w w') (wv' : Nat → Value) (hg : Gc w' b m lv tv gv (fun i => seatV (h.seat i) (wv' i))) (hw : ∀ i, (wv' i = wv i ∧ (h.seat i).wait = (g.seat i).wait) ∨ (wv' i = .slice none 0 0 ∧ (h.seat i).wait = [])) :
    ConPost b m lv tv gv g wv p w (.returned (.tuple #[.int .i64 a, .int .i64 c])) w' := by
  unfold ConPost
  rw [e]
  exact ⟨rfl, o, wv', hg, hw⟩

theorem free_step {g : M.Game} {n i : Nat} : g.freeFrom (n + 1) i = if (g.seat i).here = false then some i else g.freeFrom n (i + 1) := rfl

set_option maxRecDepth 100000 in
set_option maxHeartbeats 4000000 in
theorem gConnect_any (b : Nat) (m tv gv : Value) (lx : Option Addr) (ln lc : Nat) (g : M.Game) (wv : Nat → Value) (p : M.V3) (w : World) (h : Gc w b m (.slice lx ln lc) tv gv (fun i => seatV (g.seat i) (wv i))) (hwv : ∀ i, ∃ x n c, wv i = .slice x n c)
    (hgen : ∀ i, i < 8 → 0 ≤ (g.seat i).gen ∧ (g.seat i).gen ≤ 4611686018427387904) (row : World → Prop) (h0 : row w) (hmono : ∀ W W' : World, row W → Below W.heap.size W W' → row W')
    (C : ∀ W : World, Calls Tryz.prog 33 #[.agg #[.int .i64 p.x, .int .i64 p.y, .int .i64 p.z]] W fun e W' => e = .returned (.bool (M.cubB p)) ∧ Below W.heap.size W W')
    (Z : ∀ W : World, row W → Calls Tryz.prog 34 #[.slice lx ln lc, .agg #[.int .i64 p.x, .int .i64 p.y, .int .i64 p.z]] W fun e W' => e = .returned (.int .i64 (M.zR p g.leafs (-1))) ∧ Below W.heap.size W W') :
    Calls Tryz.prog 17 #[.pointer (some ⟨b, 0, none⟩), .agg #[.int .i64 p.x, .int .i64 p.y, .int .i64 p.z]] w (ConPost b m (.slice lx ln lc) tv gv g wv p w) := by
  have HG : Hid (Gc w b m (.slice lx ln lc) tv gv (fun i => seatV (g.seat i) (wv i))) := h
  have HC : Hid (∀ W : World, Calls Tryz.prog 33 #[.agg #[.int .i64 p.x, .int .i64 p.y, .int .i64 p.z]] W fun e W' => e = .returned (.bool (M.cubB p)) ∧ Below W.heap.size W W') := C
  have HZ : Hid (∀ W : World, row W → Calls Tryz.prog 34 #[.slice lx ln lc, .agg #[.int .i64 p.x, .int .i64 p.y, .int .i64 p.z]] W fun e W' => e = .returned (.int .i64 (M.zR p g.leafs (-1))) ∧ Below W.heap.size W W') := Z
  have HM : Hid (∀ W W' : World, row W → Below W.heap.size W W' → row W') := hmono
  have H0 : Hid (row w) := h0
  have HGN : Hid (∀ i, i < 8 → 0 ≤ (g.seat i).gen ∧ (g.seat i).gen ≤ 4611686018427387904) := hgen
  clear h C Z hmono h0 hgen
  go_enter Tryz.func17, Tryz.ntmps17
  go_wp2_with fail
  refine (HC.out _).mono ?_
  rintro e w1 ⟨rfl, hb⟩
  have q0 := (show Blk _ w.heap.size #[.int .i64 p.x, .int .i64 p.y, .int .i64 p.z] 27 from (by repeat' (first | (with_reducible assumption) | (refine Blk.new ?_; (first | (simp; done) | rfl); done) | (with_reducible refine Blk.alloc ?_) | (with_reducible refine Blk.drew ?_) | (with_reducible refine Blk.drewN ?_)))).after hb
  have B1 : Below w.heap.size w w1 := bl (by go_grown) hb
  clear hb
  cases hc : M.cubB p
  · have E : Hid (g.connect p = (0, 5, g)) := by unfold Hid M.Game.connect; rw [hc]; rfl
    clear hc
    go_wp2
    go_ret2
    exact .mk E.out (On.below B1) wv (HG.out.after B1) (fun i => .inl ⟨rfl, rfl⟩)
  · have HG1 : Hid (Gc w1 b m (.slice lx ln lc) tv gv (fun i => seatV (g.seat i) (wv i))) := HG.out.after B1
    have HR1 : Hid (row w1) := HM.out w w1 H0.out B1
    have Q0 : Hid (Blk w1 w.heap.size #[.int .i64 p.x, .int .i64 p.y, .int .i64 p.z] 27) := q0
    have HB1 : Hid (Below w.heap.size w w1) := B1
    obtain ⟨a0, a1, a2, af, az⟩ := q0.three
    have cl := HG1.out.cl
    have bz := HG1.out.lt
    have hbw := HG.out.lt
    have HCB : Hid (M.cubB p = true) := hc
    clear hc q0 B1
    obtain ⟨z, hz⟩ : ∃ z, M.zR p g.leafs (-1) = z := ⟨_, rfl⟩
    have Hz : Hid (M.zR p g.leafs (-1) = z) := hz
    clear hz
    go_wp2_with fail
    go_region_held3 (fun w' => w'.cell? ⟨b, 1, none⟩ = some (.slice lx ln lc) ∧ w'.cell? ⟨w.heap.size, 0, none⟩ = some (.int .i64 p.x) ∧ w'.cell? ⟨w.heap.size, 1, none⟩ = some (.int .i64 p.y) ∧ w'.cell? ⟨w.heap.size, 2, none⟩ = some (.int .i64 p.z)) (go_keep)
      ((go_at_call 34; refine (HZ.out _ (HM.out w1 _ HR1.out (by go_grown))).mono ?_; rintro e w2 ⟨rfl, hb2⟩; have B2 : Below w1.heap.size w1 w2 := bl (by go_grown) hb2; clear hb2; obtain m1 := (HG1.out.after B2).cl; obtain ⟨m2, m3, m4, mf, mz⟩ := (Q0.out.after B2).three))
    have HB2 : Hid (Below w1.heap.size w1 w2) := B2
    have HBB : Hid (Below w.heap.size w w2) := bl HB1.out B2
    have HG2 : Hid (Gc w2 b m (.slice lx ln lc) tv gv (fun i => seatV (g.seat i) (wv i))) := HG1.out.after B2
    have Q2 : Hid (Blk w2 w.heap.size #[.int .i64 p.x, .int .i64 p.y, .int .i64 p.z] 27) := Q0.out.after B2
    rw [Hz.out]
    clear m1 m2 m3 m4 mf mz a0 a1 a2 af az cl bz B2
    by_cases hz0 : z < 0
    · have E : Hid (g.connect p = (0, 5, g)) := by unfold Hid M.Game.connect; rw [HCB.out, Hz.out, decide_eq_false (by omega)]; rfl
      go_wp2
      go_ret2
      exact .mk E.out (On.below HBB.out) wv HG2.out (fun i => .inl ⟨rfl, rfl⟩)
    · have HF : Hid (g.connect p = match g.freeFrom 8 0 with | some i => ((i : Int), 0, g.put i (M.Seat.arrive { M.Seat.none (g.seat i).gen with here := true, home := p })) | none => (0, 6, g)) := by
        unfold Hid M.Game.connect
        rw [HCB.out, Hz.out, decide_eq_true (by omega)]
        rfl
      go_wp2_with fail
      go_loopg [8] 9 (fun k u8 wr => ∃ j : Nat, u8 = .int .i64 j ∧ j ≤ 8 ∧ k + j = 9 ∧ Hid (g.freeFrom 8 0 = g.freeFrom (8 - j) j) ∧ wr = w2)
      case atStart => exact ⟨0, rfl, by omega, rfl, rfl, rfl⟩
      case round =>
        obtain ⟨j, rfl, hj, hk, hP, rfl⟩ := hrel
        have j0 : (0 : Int) ≤ (j : Int) := by omega
        by_cases hlt : j < 8
        · have j1 : (j : Int) < 8 := by omega
          obtain ⟨n, hn⟩ : ∃ n, 8 - j = n + 1 := ⟨7 - j, by omega⟩
          have hn2 : 8 - (j + 1) = n := by omega
          have e2 : g.freeFrom (8 - j) j = if (g.seat j).here = false then some j else g.freeFrom n (j + 1) := by rw [hn]; rfl
          have hP2 := hP.out.trans e2
          clear e2
          have c0 := HG2.out.cs j 0 hlt (by omega)
          simp only [seatV, Nat.add_zero] at c0
          cases hh : (g.seat j).here
          · have HP3 : Hid (g.freeFrom 8 0 = some j) := by unfold Hid; rw [hP2, if_pos hh]
            obtain ⟨d0, d1, d2, d3, d4, d5, d6, d7, d8, d9, d10, d11, d12, d13, d14⟩ := HG2.out.seat hlt (fun k _ => rfl)
            obtain ⟨xj, nj, cj, hvj⟩ := hwv j
            rw [hvj] at d14
            rw [hh] at d0
            obtain ⟨n0, n1⟩ := HGN.out j hlt
            have fr := HG2.out.free
            obtain ⟨a0, a1, a2, af, az⟩ := Q2.out.three
            have hne : b ≠ w.heap.size := by omega
            have E : Hid (g.connect p = ((j : Int), 0, g.put j (M.Seat.arrive { M.Seat.none (g.seat j).gen with here := true, home := p }))) := by unfold Hid; rw [HF.out, HP3.out]
            obtain ⟨s, hs⟩ : ∃ s, g.seat j = s := ⟨_, rfl⟩
            rw [hs] at d1 d2 d3 d4 d5 d6 d7 d8 d9 d10 d11 d12 d13 n0 n1 E
            clear hP2 hh hP hn hn2 c0 hvj hs
            go_wp2_with fail
            refine still_tail4 14 (by kernel_rfl) (by kernel_rfl) ?_
            simp only [List.take_succ_cons, List.take_zero, List.drop_succ_cons, List.drop_zero]
            repeat still_step
            refine wpStill_nil ?_
            go_wp2_with fail
            have G3 := (HG2.out.setAll j hlt { M.Seat.none s.gen with here := true, home := p } (.slice none 0 0)).drew
            have O3 := (On.setAll b j wr { M.Seat.none s.gen with here := true, home := p } (.slice none 0 0)).drew
            refine (gArrive_any b j m (.slice lx ln lc) tv gv _ { M.Seat.none s.gen with here := true, home := p } (.slice none 0 0) _ hlt G3 (fun k hk => by simp) n0 n1).mono ?_
            rintro e w5 ⟨rfl, G5, O5⟩
            have O6 := ((On.below (b := b) HBB.out).trans O3).trans O5
            have HG5 : Hid (Gc w5 b m (.slice lx ln lc) tv gv _) := G5
            have HO6 : Hid (On b w w5) := O6
            clear G3 O3 G5 O5 O6 d0 d1 d2 d3 d4 d5 d6 d7 d8 d9 d10 d11 d12 d13 d14 a0 a1 a2 af az fr
            go_wp2
            go_ret2
            refine .mk E.out HO6.out (fun i => if i = j then .slice none 0 0 else wv i) (HG5.out.congr ?_) ?_
            · intro i k hi hk
              by_cases e : i = j
              · subst e; simp [M.Game.put_at]
              · simp [M.Game.put_ne _ _ e, e]
            · intro i
              by_cases e : i = j
              · subst e; right; simp [M.Game.put_at, M.Seat.arrive, M.Seat.none]
              · left; rw [M.Game.put_ne _ _ e]; exact ⟨if_neg e, rfl⟩
          · rw [hh] at c0
            have HP3 : Hid (g.freeFrom 8 0 = g.freeFrom (8 - (j + 1)) (j + 1)) := by unfold Hid; rw [hP2, hn2, if_neg (by simp [hh])]
            clear hP2 hh hP hn hn2
            go_wp2
            go_roundg (gk - 1)
            case measure => omega
            case rel => exact ⟨j + 1, by go_num, by omega, by omega, HP3, rfl⟩
        · obtain rfl : j = 8 := by omega
          have E : Hid (g.connect p = (0, 6, g)) := by unfold Hid; rw [HF.out, hP.out]; rfl
          have j1 : ¬ ((8 : Nat) : Int) < 8 := by omega
          clear hP
          go_wp2
          go_ret2
          exact .mk E.out (On.below HBB.out) wv HG2.out (fun i => .inl ⟨rfl, rfl⟩)
end Go.Proofs.YtonmihojfcjmjaaGreat
