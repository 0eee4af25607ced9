import Derived.Test.YtonmihojfcjmjaaGreatBE2
import Derived.Test.YtonmihojfcjmjaaGreatDd9
/- Contracts of the great statements' helpers: ticks. -/
namespace Go.Proofs.YtonmihojfcjmjaaGreat
open Go.RowKit
set_option linter.unusedVariables false
attribute [local go_sem] cell_set_off cell_set_blk

theorem sv_now {b : Nat} {v : Value} {ls : List M.Lf} {ps : Nat → Bool} {g : M.PGame} {w : World} (h : Sv w b v ls ps g) : Calls Tryz.prog 25 #[.pointer (some ⟨b, 0, none⟩)] w fun e w' => e = .returned (.int .i64 g.tick) ∧ w' = w := sNow_any b v ps g w h.pg
theorem dg_now {S : Nat → Prop} {b : Nat} {lv gv : Value} {wv : Nat → Value} {g : M.Game} {w : World} (h : Gd w S b lv gv wv g) : Calls Tryz.prog 26 #[.pointer (some ⟨b, 0, none⟩)] w fun e w' => e = .returned (.int .i64 g.tick) ∧ w' = w := gNow_any b w g.tick h.gc.ct

set_option maxRecDepth 100000 in
set_option maxHeartbeats 4000000 in
theorem pticks_nil (n held : Int) (w : World) : Calls Tryz.prog 22 #[.agg #[.pointer none, .pointer none], .int .i64 n, .int .i64 held] w fun e w' => e = .returned (.bool true) ∧ Below w.heap.size w w' := by
  obtain ⟨j1, hj1⟩ : ∃ j, Op.intBits .and .i64 held 1 = pure (.int .i64 j) := ⟨_, rfl⟩
  obtain ⟨W1, hW1⟩ : ∃ W1, w.alloc (.cells #[.pointer none, .pointer none] 38) = W1 := ⟨_, rfl⟩
  have QS := hid (show Blk W1 w.heap.size #[.pointer none, .pointer none] 38 from by rw [← hW1]; exact Blk.new rfl)
  have BW := hid (show Below w.heap.size w W1 from by rw [← hW1]; go_grown)
  go_enter Tryz.func22, Tryz.ntmps22
  go_wp2_with fail
  try rw [hW1]
  clear hW1
  go_loopg [7, 8, 9, 10, 11] 3003 (fun k u7 u8 u9 u10 u11 wr => ∃ i : Nat, u7 = .int .i64 i ∧ i ≤ 3002 ∧ k + i = 3003 ∧ Hid (Below W1.heap.size W1 wr))
  case atStart => exact ⟨0, rfl, by omega, rfl, hid (Below.refl _ _)⟩
  case round =>
    obtain ⟨i, rfl, hi, hk, BJ⟩ := hrel
    have i0 : (0 : Int) ≤ (i : Int) := by omega
    have QJ := hid (QS.out.after BJ.out)
    have y0 : wr.cell? ⟨w.heap.size, 0, none⟩ = some (.pointer none) := QJ.out.cell 0
    have y1 : wr.cell? ⟨w.heap.size, 1, none⟩ = some (.pointer none) := QJ.out.cell 1
    have yl := QJ.out.lt
    by_cases h1 : (i : Int) < n
    · by_cases h2 : (i : Int) < 3002
      · go_wp2_with fail
        refine (sTick_nilB _).mono ?_
        rintro e w1 ⟨rfl, hb1⟩
        have B1 := hid (show Below W1.heap.size W1 w1 from bl BJ.out hb1)
        have Q1 := hid (QS.out.after B1.out)
        have a0 : w1.cell? ⟨w.heap.size, 0, none⟩ = some (.pointer none) := Q1.out.cell 0
        have a1 : w1.cell? ⟨w.heap.size, 1, none⟩ = some (.pointer none) := Q1.out.cell 1
        have al := Q1.out.lt
        clear hb1 BJ QJ y0 y1 yl
        go_wp2_with fail
        refine (gStep_nil _).mono ?_
        rintro e w2 ⟨rfl, rfl⟩
        cases z : (j1 != 0)
        · go_wp2
          go_roundg (gk - 1)
          case measure => omega
          case rel => exact ⟨i + 1, by go_num, by omega, by omega, B1⟩
        · go_wp2_with fail
          refine (sNow_nilB _).mono ?_
          rintro e w3 ⟨rfl, hb3⟩
          have B3 := hid (show Below W1.heap.size W1 w3 from bl B1.out hb3)
          have Q3 := hid (QS.out.after B3.out)
          have d0 : w3.cell? ⟨w.heap.size, 0, none⟩ = some (.pointer none) := Q3.out.cell 0
          have d1 : w3.cell? ⟨w.heap.size, 1, none⟩ = some (.pointer none) := Q3.out.cell 1
          have dl := Q3.out.lt
          clear hb3 a0 a1 al
          go_wp2_with fail
          refine (gNow_nil _).mono ?_
          rintro e w4 ⟨rfl, rfl⟩
          go_wp2
          go_roundg (gk - 1)
          case measure => omega
          case rel => exact ⟨i + 1, by go_num, by omega, by omega, B3⟩
      · go_wp2
        go_ret
        exact ⟨rfl, BW.out.trans (BJ.out.mono BW.out.size)⟩
    · go_wp2
      go_ret
      exact ⟨rfl, BW.out.trans (BJ.out.mono BW.out.size)⟩

set_option maxRecDepth 100000 in
set_option maxHeartbeats 4000000 in
theorem pticks_duo {N : Int} {T : Nat → Prop} {bx bg : Nat} {v lv : Value} {S : Nat → Prop} {P : M.PGame} {G : M.Game} (n held : Int) (w : World) (h : Duo N w T bx bg v lv S P G) (hN : N ≤ 4611686018427380000) (hT : ∀ k, T k → k < w.heap.size) :
    Calls Tryz.prog 22 #[.agg #[.pointer (some ⟨bx, 0, none⟩), .pointer (some ⟨bg, 0, none⟩)], .int .i64 n, .int .i64 held] w (DuPost N T (.pointer (some ⟨bx, 0, none⟩)) (.pointer (some ⟨bg, 0, none⟩)) w) := by
  obtain ⟨j1, hj1⟩ : ∃ j, Op.intBits .and .i64 held 1 = pure (.int .i64 j) := ⟨_, rfl⟩
  obtain ⟨W1, hW1⟩ : ∃ W1, w.alloc (.cells #[.pointer (some ⟨bx, 0, none⟩), .pointer (some ⟨bg, 0, none⟩)] 38) = W1 := ⟨_, rfl⟩
  have QS := hid (show Blk W1 w.heap.size #[.pointer (some ⟨bx, 0, none⟩), .pointer (some ⟨bg, 0, none⟩)] 38 from by rw [← hW1]; exact Blk.new rfl)
  have BW := hid (show Below w.heap.size w W1 from by rw [← hW1]; go_grown)
  have HT := hid hT
  have D0 := hid (show ∃ S P G, Duo N W1 (grownT T W1 W1) bx bg v lv S P G from ⟨S, P, G, (h.onS (U := fun _ => False) (OnS.below BW.out) (fun _ _ e => e)).more (Int.le_refl _) (fun k hk => .inl hk)⟩)
  clear h hT
  go_enter Tryz.func22, Tryz.ntmps22
  go_wp2_with fail
  try rw [hW1]
  clear hW1
  go_loopg [7, 8, 9, 10, 11] 3003 (fun k u7 u8 u9 u10 u11 wr => ∃ i : Nat, u7 = .int .i64 i ∧ i ≤ 3002 ∧ k + i = 3003 ∧ Hid (OnS T W1 wr) ∧ Hid (∃ S P G, Duo N wr (grownT T W1 wr) bx bg v lv S P G))
  case atStart => exact ⟨0, rfl, by omega, rfl, hid (OnS.refl _ _), D0⟩
  case round =>
    clear D0
    obtain ⟨i, rfl, hi, hk, OJ, DJ⟩ := hrel
    have i0 : (0 : Int) ≤ (i : Int) := by omega
    have NT : Hid (¬ T w.heap.size) := fun e => by have := HT.out _ e; omega
    have QJ := hid (QS.out.onS OJ.out NT.out)
    have y0 : wr.cell? ⟨w.heap.size, 0, none⟩ = some (.pointer (some ⟨bx, 0, none⟩)) := QJ.out.cell 0
    have y1 : wr.cell? ⟨w.heap.size, 1, none⟩ = some (.pointer (some ⟨bg, 0, none⟩)) := QJ.out.cell 1
    have yl := QJ.out.lt
    by_cases h1 : (i : Int) < n
    · by_cases h2 : (i : Int) < 3002
      · obtain ⟨S, P, G, hd⟩ := DJ.out
        have HD := hid hd
        obtain ⟨F, hF⟩ : ∃ F, P.step G.leafs = F := ⟨_, rfl⟩
        obtain ⟨F2, hF2⟩ : ∃ F2, G.step = F2 := ⟨_, rfl⟩
        obtain ⟨r1, r2, r3, r4⟩ := hd.rel.step hd.sv.ok hd.good
        rw [hF, hF2] at r1 r2
        rw [hF2] at r3 r4
        have HF := hid hF
        have HF2 := hid hF2
        have RS := hid r2
        have R3 := hid r3
        have R4 := hid r4
        have FT := hid (hd.fit hN)
        have ST := hid (hd.steps hN)
        clear hd hF hF2 r2 r3 r4 DJ
        go_wp2_with fail
        refine (sv_tick HD.out.sv F HF).mono ?_
        rintro e w1 ⟨rfl, s1, o1⟩
        have S1 := hid s1
        have O1 := hid o1
        have z1 := o1.size
        have nbx : w.heap.size ≠ bx := fun e => by
          rcases HD.out.tb with q | q
          · exact NT.out (e ▸ q)
          · have := QS.out.lt; omega
        have Q1 := hid (QJ.out.on o1 nbx)
        have a1 : w1.cell? ⟨w.heap.size, 1, none⟩ = some (.pointer (some ⟨bg, 0, none⟩)) := Q1.out.cell 1
        have al := Q1.out.lt
        obtain ⟨gv, wv, hg⟩ := HD.out.mid o1
        have HG := hid hg
        have S8 := hid (show ∀ k, S k → k < w1.heap.size from fun k hk => by have := (HD.out.ts k hk).2.1; omega)
        clear s1 o1 y0 y1 yl hg
        go_wp2_with fail
        refine (dg_step HG.out S8.out FT.out ST.out F2 HF2).mono ?_
        rintro e w2 ⟨rfl, o2, g2⟩
        have NX := HD.out.next S1.out O1.out o2 g2 RS.out R3.out R4.out
        have NSx : ¬ S w.heap.size := fun e => by
          rcases (HD.out.ts _ e).1 with q | q
          · exact NT.out q
          · have := QS.out.lt; omega
        have Q2 := hid (Q1.out.onS o2 NSx)
        have O9 := hid (show OnS T W1 w2 from by
          have z2 := o2.size
          have zj := OJ.out.size
          refine ⟨NX.1.os.trans OJ.out.os, NX.1.tape.trans OJ.out.tape, NX.1.output.trans OJ.out.output, by omega, fun k hk hn => ?_⟩
          rw [NX.1.block k (by omega) (fun e => by rcases e with e | e; exact hn e; omega), OJ.out.block k hk hn])
        have D9 := hid (show ∃ S P G, Duo N w2 (grownT T W1 w2) bx bg v lv S P G ∧ P.tick = G.tick ∧ G = F2.2 ∧ P = F.2 from by
          obtain ⟨S', d⟩ := NX.2
          have z2 := o2.size
          have zj := OJ.out.size
          refine ⟨S', F.2, F2.2, d.more (Int.le_refl _) (fun k hk => ?_), d.rel.t, rfl, rfl⟩
          rcases hk with (e | e) | e
          · exact .inl e
          · exact .inr ⟨e.1, by omega⟩
          · exact .inr ⟨by omega, e.2⟩)
        have a2 : w2.cell? ⟨w.heap.size, 0, none⟩ = some (.pointer (some ⟨bx, 0, none⟩)) := Q2.out.cell 0
        have a3 : w2.cell? ⟨w.heap.size, 1, none⟩ = some (.pointer (some ⟨bg, 0, none⟩)) := Q2.out.cell 1
        have al2 := Q2.out.lt
        clear NX o2 g2 a1 al HG S8 S1 O1 HD RS R3 R4 FT ST OJ NSx nbx
        obtain ⟨e0, n0⟩ := F
        obtain ⟨e1, n1⟩ := F2
        simp only at r1
        subst r1
        cases z : (j1 != 0)
        · go_wp2
          go_roundg (gk - 1)
          case measure => omega
          case rel => exact ⟨i + 1, by go_num, by omega, by omega, O9, hid (by obtain ⟨S', P', G', d, _⟩ := D9.out; exact ⟨S', P', G', d⟩)⟩
        · obtain ⟨S', P', G', d, et, _⟩ := D9.out
          have DD := hid d
          have ET := hid et
          clear d D9 et
          go_wp2_with fail
          refine (sv_now DD.out.sv).mono ?_
          rintro e w3 ⟨rfl, rfl⟩
          rw [ET.out]
          obtain ⟨gv', wv', hg'⟩ := DD.out.gd
          have HG' := hid hg'
          clear hg'
          go_wp2_with fail
          refine (dg_now HG'.out).mono ?_
          rintro e w4 ⟨rfl, rfl⟩
          go_wp2
          go_roundg (gk - 1)
          case measure => omega
          case rel => exact ⟨i + 1, by go_num, by omega, by omega, O9, hid ⟨S', P', G', DD.out⟩⟩
      · go_wp2
        go_ret
        obtain ⟨S, P, G, d⟩ := DJ.out
        exact DuPost.box BW.out OJ.out d.du
    · go_wp2
      go_ret
      obtain ⟨S, P, G, d⟩ := DJ.out
      exact DuPost.box BW.out OJ.out d.du

end Go.Proofs.YtonmihojfcjmjaaGreat

/- Contracts of the great statements' helpers: plays. -/
namespace Go.Proofs.YtonmihojfcjmjaaGreat
open Go.RowKit
set_option linter.unusedVariables false
attribute [local go_sem] cell_set_off cell_set_blk

/-- A step of a script. -/
structure M.LOp where
  kind : Int
  a : Int
  b : Int
  p : M.V3
  s : ByteArray
def lopL (o : M.LOp) : List Value := [.int .i64 o.kind, .int .i64 o.a, .int .i64 o.b, .int .i64 o.p.x, .int .i64 o.p.y, .int .i64 o.p.z, .string o.s]
theorem Blk.op7 {W : World} {k : Nat} {o : M.LOp} {t : TypeId} (h : Blk W k (lopL o).toArray t) :
    W.cell? ⟨k, 0, none⟩ = some (.int .i64 o.kind) ∧ W.cell? ⟨k, 1, none⟩ = some (.int .i64 o.a) ∧ W.cell? ⟨k, 2, none⟩ = some (.int .i64 o.b) ∧ W.cell? ⟨k, 3, none⟩ = some (.int .i64 o.p.x) ∧ W.cell? ⟨k, 4, none⟩ = some (.int .i64 o.p.y) ∧ W.cell? ⟨k, 5, none⟩ = some (.int .i64 o.p.z) ∧ W.cell? ⟨k, 6, none⟩ = some (.string o.s) ∧ k < W.heap.size :=
  ⟨h.cell 0, h.cell 1, h.cell 2, h.cell 3, h.cell 4, h.cell 5, h.cell 6, h.lt⟩

set_option maxRecDepth 100000 in
set_option maxHeartbeats 8000000 in
theorem pplays_nil (o : M.LOp) (held : Int) (w : World) (hs : o.s.size ≤ maxLen) : Calls Tryz.prog 11 #[.agg #[.pointer none, .pointer none], .agg #[.int .i64 o.kind, .int .i64 o.a, .int .i64 o.b, .int .i64 o.p.x, .int .i64 o.p.y, .int .i64 o.p.z, .string o.s], .int .i64 held] w fun e w' => e = .returned (.bool true) ∧ Below w.heap.size w w' := by
  obtain ⟨j1, hj1⟩ : ∃ j, Op.intBits .and .i64 held 1 = pure (.int .i64 j) := ⟨_, rfl⟩
  obtain ⟨j2, hj2⟩ : ∃ j, Op.intBits .and .i64 held 2 = pure (.int .i64 j) := ⟨_, rfl⟩
  obtain ⟨j4, hj4⟩ : ∃ j, Op.intBits .and .i64 held 4 = pure (.int .i64 j) := ⟨_, rfl⟩
  obtain ⟨W1, hW1⟩ : ∃ W1, (w.alloc (.cells #[.pointer none, .pointer none] 38)).alloc (.cells #[.int .i64 o.kind, .int .i64 o.a, .int .i64 o.b, .int .i64 o.p.x, .int .i64 o.p.y, .int .i64 o.p.z, .string o.s] 29) = W1 := ⟨_, rfl⟩
  have QP := hid (show Blk W1 w.heap.size #[.pointer none, .pointer none] 38 from by rw [← hW1]; exact (Blk.new rfl).alloc)
  have QO := hid (show Blk W1 (w.heap.size + 1) (lopL o).toArray 29 from by rw [← hW1]; exact Blk.new (by simp))
  have BW := hid (show Below w.heap.size w W1 from by rw [← hW1]; go_grown)
  have p0 : W1.cell? ⟨w.heap.size, 0, none⟩ = some (.pointer none) := QP.out.cell 0
  have p1 : W1.cell? ⟨w.heap.size, 1, none⟩ = some (.pointer none) := QP.out.cell 1
  have pl := QP.out.lt
  obtain ⟨o0, o1, o2, o3, o4, o5, o6, ol⟩ := QO.out.op7
  by_cases k2 : o.kind = 2
  · have z2 : (o.kind == 2) = true := by simp [k2]
    clear k2
    go_enter Tryz.func11, Tryz.ntmps11
    go_wp2_with fail
    try rw [hW1]
    clear hW1
    refine (sConnect_nilB o.p _).mono ?_
    rintro e w1 ⟨rfl, hb1⟩
    have B1 := hid (show Below w.heap.size w w1 from bl BW.out hb1)
    have q1 : w1.cell? ⟨w.heap.size, 1, none⟩ = some (.pointer none) := (QP.out.after hb1).cell 1
    have ql := (QP.out.after hb1).lt
    obtain ⟨n0, n1, n2, n3, n4, n5, n6, nl⟩ := (QO.out.after hb1).op7
    clear hb1 p0 p1 pl o0 o1 o2 o3 o4 o5 o6 ol
    go_wp2_with fail
    refine (gConnect_nil o.p _).mono ?_
    rintro e w2 ⟨rfl, hb2⟩
    have B2 := hid (show Below w.heap.size w w2 from bl B1.out hb2)
    cases z : (j1 == 0)
    · go_wp2
      go_ret
      exact ⟨rfl, B2.out⟩
    · go_wp2
      go_ret
      exact ⟨rfl, B2.out⟩
  by_cases k3 : o.kind = 3
  · have z3 : (o.kind == 3) = true := by simp [k3]
    have z2 : (o.kind == 2) = false := by simp [k2]
    clear k3 k2
    go_enter Tryz.func11, Tryz.ntmps11
    go_wp2_with fail
    try rw [hW1]
    clear hW1
    refine (sLeave_nilB o.b _).mono ?_
    rintro e w1 ⟨rfl, hb1⟩
    have B1 := hid (show Below w.heap.size w w1 from bl BW.out hb1)
    have q1 : w1.cell? ⟨w.heap.size, 1, none⟩ = some (.pointer none) := (QP.out.after hb1).cell 1
    have ql := (QP.out.after hb1).lt
    obtain ⟨n0, n1, n2, n3, n4, n5, n6, nl⟩ := (QO.out.after hb1).op7
    clear hb1 p0 p1 pl o0 o1 o2 o3 o4 o5 o6 ol
    go_wp2_with fail
    refine (gLeave_nil o.b _).mono ?_
    rintro e w2 ⟨rfl, rfl⟩
    have B2 := hid (show Below w.heap.size w w2 from B1.out)
    cases z : (j1 == 0)
    · go_wp2
      go_ret
      exact ⟨rfl, B2.out⟩
    · go_wp2
      go_ret
      exact ⟨rfl, B2.out⟩
  by_cases k4 : o.kind = 4
  · have z4 : (o.kind == 4) = true := by simp [k4]
    have z2 : (o.kind == 2) = false := by simp [k2]
    have z3 : (o.kind == 3) = false := by simp [k3]
    clear k4 k2 k3
    go_enter Tryz.func11, Tryz.ntmps11
    go_wp2_with fail
    try rw [hW1]
    clear hW1
    refine (sPacket_nilB o.b o.s _).mono ?_
    rintro e w1 ⟨rfl, hb1⟩
    have B1 := hid (show Below w.heap.size w w1 from bl BW.out hb1)
    have q1 : w1.cell? ⟨w.heap.size, 1, none⟩ = some (.pointer none) := (QP.out.after hb1).cell 1
    have ql := (QP.out.after hb1).lt
    obtain ⟨n0, n1, n2, n3, n4, n5, n6, nl⟩ := (QO.out.after hb1).op7
    clear hb1 p0 p1 pl o0 o1 o2 o3 o4 o5 o6 ol
    go_wp2_with fail
    refine (gPacket_nil o.b o.s _).mono ?_
    rintro e w2 ⟨rfl, rfl⟩
    have B2 := hid (show Below w.heap.size w w2 from B1.out)
    cases z : (j2 == 0)
    · go_wp2
      go_ret
      exact ⟨rfl, B2.out⟩
    · go_wp2
      go_ret
      exact ⟨rfl, B2.out⟩
  by_cases k5 : o.kind = 5
  · have z5 : (o.kind == 5) = true := by simp [k5]
    have z2 : (o.kind == 2) = false := by simp [k2]
    have z3 : (o.kind == 3) = false := by simp [k3]
    have z4 : (o.kind == 4) = false := by simp [k4]
    clear k5 k2 k3 k4
    go_enter Tryz.func11, Tryz.ntmps11
    go_wp2_with fail
    try rw [hW1]
    clear hW1
    refine (pticks_nil o.b held _).mono ?_
    rintro e w1 ⟨rfl, hb1⟩
    go_wp2
    go_ret
    exact ⟨rfl, bl BW.out hb1⟩
  by_cases k6 : o.kind = 6
  · have z6 : (o.kind == 6) = true := by simp [k6]
    have z2 : (o.kind == 2) = false := by simp [k2]
    have z3 : (o.kind == 3) = false := by simp [k3]
    have z4 : (o.kind == 4) = false := by simp [k4]
    have z5 : (o.kind == 5) = false := by simp [k5]
    clear k6 k2 k3 k4 k5
    go_enter Tryz.func11, Tryz.ntmps11
    go_wp2_with fail
    try rw [hW1]
    clear hW1
    refine (sSnap_nilB o.b _).mono ?_
    rintro e w1 ⟨rfl, hb1⟩
    have B1 := hid (show Below w.heap.size w w1 from bl BW.out hb1)
    have q1 : w1.cell? ⟨w.heap.size, 1, none⟩ = some (.pointer none) := (QP.out.after hb1).cell 1
    have ql := (QP.out.after hb1).lt
    obtain ⟨n0, n1, n2, n3, n4, n5, n6, nl⟩ := (QO.out.after hb1).op7
    clear hb1 p0 p1 pl o0 o1 o2 o3 o4 o5 o6 ol
    go_wp2_with fail
    refine (gSnap_nil o.b _).mono ?_
    rintro e w2 ⟨rfl, rfl⟩
    have B2 := hid (show Below w.heap.size w w2 from B1.out)
    cases z : (j4 == 0)
    · go_wp2
      go_ret
      exact ⟨rfl, B2.out⟩
    · go_wp2
      go_ret
      exact ⟨rfl, B2.out⟩
  by_cases k7 : o.kind = 7
  · have z7 : (o.kind == 7) = true := by simp [k7]
    have z2 : (o.kind == 2) = false := by simp [k2]
    have z3 : (o.kind == 3) = false := by simp [k3]
    have z4 : (o.kind == 4) = false := by simp [k4]
    have z5 : (o.kind == 5) = false := by simp [k5]
    have z6 : (o.kind == 6) = false := by simp [k6]
    clear k7 k2 k3 k4 k5 k6
    go_enter Tryz.func11, Tryz.ntmps11
    go_wp2_with fail
    try rw [hW1]
    clear hW1
    refine (sNow_nilB _).mono ?_
    rintro e w1 ⟨rfl, hb1⟩
    have B1 := hid (show Below w.heap.size w w1 from bl BW.out hb1)
    have q1 : w1.cell? ⟨w.heap.size, 1, none⟩ = some (.pointer none) := (QP.out.after hb1).cell 1
    have ql := (QP.out.after hb1).lt
    obtain ⟨n0, n1, n2, n3, n4, n5, n6, nl⟩ := (QO.out.after hb1).op7
    clear hb1 p0 p1 pl o0 o1 o2 o3 o4 o5 o6 ol
    go_wp2_with fail
    refine (gNow_nil _).mono ?_
    rintro e w2 ⟨rfl, rfl⟩
    have B2 := hid (show Below w.heap.size w w2 from B1.out)
    cases z : (j1 == 0)
    · go_wp2
      go_ret
      exact ⟨rfl, B2.out⟩
    · go_wp2
      go_ret
      exact ⟨rfl, B2.out⟩
  · have z2 : (o.kind == 2) = false := by simp [k2]
    have z3 : (o.kind == 3) = false := by simp [k3]
    have z4 : (o.kind == 4) = false := by simp [k4]
    have z5 : (o.kind == 5) = false := by simp [k5]
    have z6 : (o.kind == 6) = false := by simp [k6]
    have z7 : (o.kind == 7) = false := by simp [k7]
    clear k2 k3 k4 k5 k6 k7
    go_enter Tryz.func11, Tryz.ntmps11
    go_wp2
    go_ret
    exact ⟨rfl, BW.out⟩

set_option maxRecDepth 100000 in
set_option maxHeartbeats 8000000 in
theorem pplays_duo {N : Int} {T : Nat → Prop} {bx bg : Nat} {v lv : Value} {S : Nat → Prop} {P : M.PGame} {G : M.Game} (o : M.LOp) (held : Int) (w : World) (h : Duo N w T bx bg v lv S P G) (hs : o.s.size ≤ maxLen) (hN : N ≤ 4611686018427380000) (hT : ∀ k, T k → k < w.heap.size) :
    Calls Tryz.prog 11 #[.agg #[.pointer (some ⟨bx, 0, none⟩), .pointer (some ⟨bg, 0, none⟩)], .agg #[.int .i64 o.kind, .int .i64 o.a, .int .i64 o.b, .int .i64 o.p.x, .int .i64 o.p.y, .int .i64 o.p.z, .string o.s], .int .i64 held] w (DuPost (N + 1) T (.pointer (some ⟨bx, 0, none⟩)) (.pointer (some ⟨bg, 0, none⟩)) w) := by
  obtain ⟨j1, hj1⟩ : ∃ j, Op.intBits .and .i64 held 1 = pure (.int .i64 j) := ⟨_, rfl⟩
  obtain ⟨j2, hj2⟩ : ∃ j, Op.intBits .and .i64 held 2 = pure (.int .i64 j) := ⟨_, rfl⟩
  obtain ⟨j4, hj4⟩ : ∃ j, Op.intBits .and .i64 held 4 = pure (.int .i64 j) := ⟨_, rfl⟩
  obtain ⟨W1, hW1⟩ : ∃ W1, (w.alloc (.cells #[.pointer (some ⟨bx, 0, none⟩), .pointer (some ⟨bg, 0, none⟩)] 38)).alloc (.cells #[.int .i64 o.kind, .int .i64 o.a, .int .i64 o.b, .int .i64 o.p.x, .int .i64 o.p.y, .int .i64 o.p.z, .string o.s] 29) = W1 := ⟨_, rfl⟩
  have QP := hid (show Blk W1 w.heap.size #[.pointer (some ⟨bx, 0, none⟩), .pointer (some ⟨bg, 0, none⟩)] 38 from by rw [← hW1]; exact (Blk.new rfl).alloc)
  have QO := hid (show Blk W1 (w.heap.size + 1) (lopL o).toArray 29 from by rw [← hW1]; exact Blk.new (by simp))
  have BW := hid (show Below w.heap.size w W1 from by rw [← hW1]; go_grown)
  have p0 : W1.cell? ⟨w.heap.size, 0, none⟩ = some (.pointer (some ⟨bx, 0, none⟩)) := QP.out.cell 0
  have p1 : W1.cell? ⟨w.heap.size, 1, none⟩ = some (.pointer (some ⟨bg, 0, none⟩)) := QP.out.cell 1
  have pl := QP.out.lt
  obtain ⟨o0, o1, o2, o3, o4, o5, o6, ol⟩ := QO.out.op7
  have HD := hid (show Duo N W1 T bx bg v lv S P G from h.onS (U := fun _ => False) (OnS.below BW.out) (fun _ _ e => e))
  have FT := hid (HD.out.fit hN)
  have ST := hid (HD.out.steps hN)
  have nT : Hid (∀ k, T k → k < w.heap.size) := hT
  have nbx : bx < w.heap.size := hT bx HD.out.tb
  clear h hT
  by_cases k2 : o.kind = 2
  · have z2 : (o.kind == 2) = true := by simp [k2]
    clear k2
    obtain ⟨F, hF⟩ : ∃ F, P.connect (M.inCube o.p && decide (0 ≤ M.zP o.p G.leafs (-1))) o.p = F := ⟨_, rfl⟩
    obtain ⟨F2, hF2⟩ : ∃ F2, G.connect o.p = F2 := ⟨_, rfl⟩
    obtain ⟨r1, r2, r3⟩ := HD.out.rel.connect rfl HD.out.good o.p
    obtain ⟨k1, k2, _, k4⟩ := connect_keep G o.p
    rw [hF, hF2] at r1 r2 r3
    rw [hF2] at k1 k2 k4
    rw [← k4] at r3
    have HF := hid hF
    have HF2 := hid hF2
    have RS := hid r3
    have K1 := hid k1
    have K2 := hid k2
    clear hF hF2 r3 k1 k2 k4
    go_enter Tryz.func11, Tryz.ntmps11
    go_wp2_with fail
    try rw [hW1]
    clear hW1
    refine (sv_connect HD.out.sv o.p F HF).mono ?_
    rintro e w1 ⟨rfl, s1, o1'⟩
    have S1 := hid s1
    have O1 := hid o1'
    have q1 : w1.cell? ⟨w.heap.size, 1, none⟩ = some (.pointer (some ⟨bg, 0, none⟩)) := (QP.out.on o1' (by omega)).cell 1
    have ql := (QP.out.on o1' (by omega)).lt
    obtain ⟨n0, n1, n2, n3, n4, n5, n6, nl⟩ := (QO.out.on o1' (by omega)).op7
    obtain ⟨gv, wv, hg⟩ := HD.out.mid o1'
    have HG := hid hg
    clear s1 o1' hg p0 p1 pl o0 o1 o2 o3 o4 o5 o6 ol
    go_wp2_with fail
    refine (dg_connectF HG.out FT.out o.p F2 HF2).mono ?_
    rintro e w2 ⟨rfl, o2', g2⟩
    have NX := HD.out.next S1.out O1.out o2' g2 RS.out K2.out K1.out
    have DP := hid (show DuPost (N + 1) T (.pointer (some ⟨bx, 0, none⟩)) (.pointer (some ⟨bg, 0, none⟩)) w (.returned (.bool true)) w2 from by
      obtain ⟨a, S', d⟩ := NX
      exact DuPost.box BW.out a (d.more (by omega) (fun k hk => hk)).du)
    clear NX o2' g2 S1 O1 HG RS K1 K2 HF HF2 FT ST HD
    obtain ⟨e0, e1, f1⟩ := F
    obtain ⟨e2, e3, f2⟩ := F2
    simp only at r1 r2
    subst r1
    subst r2
    cases z : (j1 == 0)
    · go_wp2
      go_ret
      exact DP.out
    · go_wp2
      go_ret
      exact DP.out
  by_cases k3 : o.kind = 3
  · have z3 : (o.kind == 3) = true := by simp [k3]
    have z2 : (o.kind == 2) = false := by simp [k2]
    clear k3 k2
    obtain ⟨F, hF⟩ : ∃ F, P.leave o.b = F := ⟨_, rfl⟩
    obtain ⟨F2, hF2⟩ : ∃ F2, G.leave o.b = F2 := ⟨_, rfl⟩
    obtain ⟨r1, r3⟩ := HD.out.rel.leave o.b
    obtain ⟨k1, k2, _, k4⟩ := leave_keep G o.b
    rw [hF, hF2] at r1 r3
    rw [hF2] at k1 k2 k4
    rw [← k4] at r3
    have HF := hid hF
    have HF2 := hid hF2
    have RS := hid r3
    have K1 := hid k1
    have K2 := hid k2
    clear hF hF2 r3 k1 k2 k4
    go_enter Tryz.func11, Tryz.ntmps11
    go_wp2_with fail
    try rw [hW1]
    clear hW1
    refine (sv_leave HD.out.sv o.b F HF).mono ?_
    rintro e w1 ⟨rfl, s1, o1'⟩
    have S1 := hid s1
    have O1 := hid o1'
    have q1 : w1.cell? ⟨w.heap.size, 1, none⟩ = some (.pointer (some ⟨bg, 0, none⟩)) := (QP.out.on o1' (by omega)).cell 1
    have ql := (QP.out.on o1' (by omega)).lt
    obtain ⟨n0, n1, n2, n3, n4, n5, n6, nl⟩ := (QO.out.on o1' (by omega)).op7
    obtain ⟨gv, wv, hg⟩ := HD.out.mid o1'
    have HG := hid hg
    clear s1 o1' hg p0 p1 pl o0 o1 o2 o3 o4 o5 o6 ol
    go_wp2_with fail
    refine (dg_leaveF HG.out o.b F2 HF2).mono ?_
    rintro e w2 ⟨rfl, o2', g2⟩
    have NX := HD.out.next S1.out O1.out o2' g2 RS.out K2.out K1.out
    have DP := hid (show DuPost (N + 1) T (.pointer (some ⟨bx, 0, none⟩)) (.pointer (some ⟨bg, 0, none⟩)) w (.returned (.bool true)) w2 from by
      obtain ⟨a, S', d⟩ := NX
      exact DuPost.box BW.out a (d.more (by omega) (fun k hk => hk)).du)
    clear NX o2' g2 S1 O1 HG RS K1 K2 HF HF2 FT ST HD
    obtain ⟨e0, f1⟩ := F
    obtain ⟨e2, f2⟩ := F2
    simp only at r1
    subst r1
    cases z : (j1 == 0)
    · go_wp2
      go_ret
      exact DP.out
    · go_wp2
      go_ret
      exact DP.out
  by_cases k4 : o.kind = 4
  · have z4 : (o.kind == 4) = true := by simp [k4]
    have z2 : (o.kind == 2) = false := by simp [k2]
    have z3 : (o.kind == 3) = false := by simp [k3]
    clear k4 k2 k3
    obtain ⟨F, hF⟩ : ∃ F, P.packet o.b (M.decR o.s) (M.decE o.s) = F := ⟨_, rfl⟩
    obtain ⟨F2, hF2⟩ : ∃ F2, G.packet o.b (M.decR o.s) (M.decE o.s) = F2 := ⟨_, rfl⟩
    obtain ⟨r1, r3⟩ := HD.out.rel.packet HD.out.sv.ok o.b (M.decR o.s) (M.decE o.s)
    obtain ⟨k1, k2, _, k4⟩ := packet_keep G o.b (M.decR o.s) (M.decE o.s)
    rw [hF, hF2] at r1 r3
    rw [hF2] at k1 k2 k4
    rw [← k4] at r3
    have HF := hid hF
    have HF2 := hid hF2
    have RS := hid r3
    have K1 := hid k1
    have K2 := hid k2
    clear hF hF2 r3 k1 k2 k4
    go_enter Tryz.func11, Tryz.ntmps11
    go_wp2_with fail
    try rw [hW1]
    clear hW1
    refine (sv_packet HD.out.sv o.b o.s hs F HF).mono ?_
    rintro e w1 ⟨rfl, s1, o1'⟩
    have S1 := hid s1
    have O1 := hid o1'
    have q1 : w1.cell? ⟨w.heap.size, 1, none⟩ = some (.pointer (some ⟨bg, 0, none⟩)) := (QP.out.on o1' (by omega)).cell 1
    have ql := (QP.out.on o1' (by omega)).lt
    obtain ⟨n0, n1, n2, n3, n4, n5, n6, nl⟩ := (QO.out.on o1' (by omega)).op7
    obtain ⟨gv, wv, hg⟩ := HD.out.mid o1'
    have HG := hid hg
    clear s1 o1' hg p0 p1 pl o0 o1 o2 o3 o4 o5 o6 ol
    go_wp2_with fail
    refine (dg_packet HG.out o.b o.s hs ST.out.l F2 HF2).mono ?_
    rintro e w2 ⟨rfl, o2', g2⟩
    have NX := HD.out.next S1.out O1.out o2' g2 RS.out K2.out K1.out
    have DP := hid (show DuPost (N + 1) T (.pointer (some ⟨bx, 0, none⟩)) (.pointer (some ⟨bg, 0, none⟩)) w (.returned (.bool true)) w2 from by
      obtain ⟨a, S', d⟩ := NX
      exact DuPost.box BW.out a (d.more (by omega) (fun k hk => hk)).du)
    clear NX o2' g2 S1 O1 HG RS K1 K2 HF HF2 FT ST HD
    obtain ⟨e0, f1⟩ := F
    obtain ⟨e2, f2⟩ := F2
    simp only at r1
    subst r1
    cases z : (j2 == 0)
    · go_wp2
      go_ret
      exact DP.out
    · go_wp2
      go_ret
      exact DP.out
  by_cases k5 : o.kind = 5
  · have z5 : (o.kind == 5) = true := by simp [k5]
    have z2 : (o.kind == 2) = false := by simp [k2]
    have z3 : (o.kind == 3) = false := by simp [k3]
    have z4 : (o.kind == 4) = false := by simp [k4]
    clear k5 k2 k3 k4
    go_enter Tryz.func11, Tryz.ntmps11
    go_wp2_with fail
    try rw [hW1]
    clear hW1
    refine (pticks_duo o.b held _ HD.out hN (fun k hk => by have := nT.out k hk; have := BW.out.size; omega)).mono ?_
    rintro e w1 ⟨rfl, o1', d⟩
    have DP := hid (DuPost.box BW.out o1' (d.more (show N ≤ N + 1 by omega) (fun k hk => hk)))
    clear o1' d HD FT ST
    go_wp2
    go_ret
    exact DP.out
  by_cases k6 : o.kind = 6
  · have z6 : (o.kind == 6) = true := by simp [k6]
    have z2 : (o.kind == 2) = false := by simp [k2]
    have z3 : (o.kind == 3) = false := by simp [k3]
    have z4 : (o.kind == 4) = false := by simp [k4]
    have z5 : (o.kind == 5) = false := by simp [k5]
    clear k6 k2 k3 k4 k5
    obtain ⟨R, hR⟩ : ∃ R, G.snapS o.b = R := ⟨_, rfl⟩
    have e1 := HD.out.rel.snap HD.out.sv.ok HD.out.good o.b
    rw [hR] at e1
    have HR := hid hR
    have HE := hid e1
    clear hR e1
    obtain ⟨R1, R2⟩ := R
    go_enter Tryz.func11, Tryz.ntmps11
    go_wp2_with fail
    try rw [hW1]
    clear hW1
    refine (sv_snap HD.out.sv o.b (R1, R2) HE).mono ?_
    rintro e w1 ⟨rfl, hb1⟩
    have D1 := hid (HD.out.onS (U := fun _ => False) (OnS.below hb1) (fun _ _ e => e))
    have B1 := hid (show Below w.heap.size w w1 from bl BW.out hb1)
    have q1 : w1.cell? ⟨w.heap.size, 1, none⟩ = some (.pointer (some ⟨bg, 0, none⟩)) := (QP.out.after hb1).cell 1
    have ql := (QP.out.after hb1).lt
    obtain ⟨n0, n1, n2, n3, n4, n5, n6, nl⟩ := (QO.out.after hb1).op7
    clear hb1 p0 p1 pl o0 o1 o2 o3 o4 o5 o6 ol
    obtain ⟨gv, wv, hg⟩ := D1.out.gd
    have HG := hid hg
    have ms := HD.out.good.sz
    clear hg
    go_wp2_with fail
    refine (dg_snap HG.out FT.out ms o.b (R1, R2) HR).mono ?_
    rintro e w2 ⟨rfl, hb2⟩
    have DP := hid (show DuPost (N + 1) T (.pointer (some ⟨bx, 0, none⟩)) (.pointer (some ⟨bg, 0, none⟩)) w (.returned (.bool true)) w2 from
      DuPost.box (bl B1.out hb2) (OnS.refl _ _) ((D1.out.onS (U := fun _ => False) (OnS.below hb2) (fun _ _ e => e)).more (by omega) (fun k hk => .inl hk)).du)
    clear hb2 D1 B1 HG HD FT ST HR HE
    cases z : (j4 == 0)
    · go_wp2
      go_ret
      exact DP.out
    · go_wp2
      go_ret
      exact DP.out
  by_cases k7 : o.kind = 7
  · have z7 : (o.kind == 7) = true := by simp [k7]
    have z2 : (o.kind == 2) = false := by simp [k2]
    have z3 : (o.kind == 3) = false := by simp [k3]
    have z4 : (o.kind == 4) = false := by simp [k4]
    have z5 : (o.kind == 5) = false := by simp [k5]
    have z6 : (o.kind == 6) = false := by simp [k6]
    clear k7 k2 k3 k4 k5 k6
    have ET := hid HD.out.rel.t
    go_enter Tryz.func11, Tryz.ntmps11
    go_wp2_with fail
    try rw [hW1]
    clear hW1
    refine (sv_now HD.out.sv).mono ?_
    rintro e w1 ⟨rfl, rfl⟩
    rw [ET.out]
    obtain ⟨gv, wv, hg⟩ := HD.out.gd
    have HG := hid hg
    clear hg
    go_wp2_with fail
    refine (dg_now HG.out).mono ?_
    rintro e w2 ⟨rfl, rfl⟩
    have DP := hid (show DuPost (N + 1) T (.pointer (some ⟨bx, 0, none⟩)) (.pointer (some ⟨bg, 0, none⟩)) w (.returned (.bool true)) w2 from
      DuPost.box BW.out (OnS.refl _ _) (HD.out.more (by omega) (fun k hk => .inl hk)).du)
    clear HG HD FT ST ET
    cases z : (j1 == 0)
    · go_wp2
      go_ret
      exact DP.out
    · go_wp2
      go_ret
      exact DP.out
  · have z2 : (o.kind == 2) = false := by simp [k2]
    have z3 : (o.kind == 3) = false := by simp [k3]
    have z4 : (o.kind == 4) = false := by simp [k4]
    have z5 : (o.kind == 5) = false := by simp [k5]
    have z6 : (o.kind == 6) = false := by simp [k6]
    have z7 : (o.kind == 7) = false := by simp [k7]
    clear k2 k3 k4 k5 k6 k7
    have DP := hid (show DuPost (N + 1) T (.pointer (some ⟨bx, 0, none⟩)) (.pointer (some ⟨bg, 0, none⟩)) w (.returned (.bool true)) W1 from
      DuPost.box BW.out (OnS.refl _ _) (HD.out.more (by omega) (fun k hk => .inl hk)).du)
    clear HD FT ST
    go_enter Tryz.func11, Tryz.ntmps11
    go_wp2
    go_ret
    exact DP.out

/-- A step on a pair. -/
theorem pplays_any {N : Int} {T : Nat → Prop} {x y : Value} (o : M.LOp) (held : Int) (w : World) (h : Du N w T x y) (hs : o.s.size ≤ maxLen) (hN : N ≤ 4611686018427380000) (hT : ∀ k, T k → k < w.heap.size) :
    Calls Tryz.prog 11 #[.agg #[x, y], .agg #[.int .i64 o.kind, .int .i64 o.a, .int .i64 o.b, .int .i64 o.p.x, .int .i64 o.p.y, .int .i64 o.p.z, .string o.s], .int .i64 held] w (DuPost (N + 1) T x y w) := by
  rcases h with ⟨rfl, rfl⟩ | ⟨bx, bg, v, lv, S, P, G, rfl, rfl, d⟩
  · refine (pplays_nil o held w hs).mono ?_
    rintro e w' ⟨rfl, hb⟩
    exact ⟨rfl, OnS.below hb, .inl ⟨rfl, rfl⟩⟩
  · exact pplays_duo o held w d hs hN hT

end Go.Proofs.YtonmihojfcjmjaaGreat
