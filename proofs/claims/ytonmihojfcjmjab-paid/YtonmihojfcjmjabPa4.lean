import Derived.Test.YtonmihojfcjmjabBPa
/- Contracts of the statements' book: paid. -/
namespace Go.Proofs.Ytonmihojfcjmjab
open Go.RowKit
set_option linter.unusedVariables false
attribute [local go_sem] cell_set_off cell_set_blk

theorem Bk.die {W : World} {k : Nat} {b : M.Book} (h : Bk W k b) {i : Nat} (hi : i < 8) (t : Int) : Bk (W.setCell ⟨k, 9 + i, none⟩ (.int .i64 t)) k { b with died := fun n => if n = i then t else b.died n } := by
  refine (Blk.setC h (9 + i) (.int .i64 t)).to (fun j hj => ?_)
  by_cases e : j = 9 + i
  · subst e
    rw [if_pos rfl]
    unfold bookC
    rw [if_neg (by omega), if_neg (by omega), show 9 + i - 9 = i by omega]
    show Value.int .i64 t = .int .i64 (if i = i then t else _)
    rw [if_pos rfl]
  · rw [if_neg e]
    unfold bookC
    by_cases e0 : j = 0
    · rw [if_pos e0, if_pos e0]
    · rw [if_neg e0, if_neg e0]
      by_cases e9 : j < 9
      · rw [if_pos e9, if_pos e9]
      · rw [if_neg e9, if_neg e9]
        show Value.int .i64 (b.died (j - 9)) = .int .i64 (if j - 9 = i then t else b.died (j - 9))
        rw [if_neg (by omega)]
theorem Blk.span4 {W : World} {b : Nat} {f : Nat → M.Span} {t : TypeId} (h : Blk W b (cellsOf 32 (spansC f)) t) {j : Nat} (hj : j < 8) :
    W.cell? ⟨b, j * 4, none⟩ = some (.int .i64 (f j).live) ∧ W.cell? ⟨b, j * 4 + 1, none⟩ = some (.int .i64 (f j).health) ∧ W.cell? ⟨b, j * 4 + 2, none⟩ = some (.int .i64 (f j).ammo) ∧ W.cell? ⟨b, j * 4 + 3, none⟩ = some (.int .i64 (f j).left) := by
  have at_ : ∀ i, i < 4 → W.cell? ⟨b, j * 4 + i, none⟩ = some (spanC (f j) i) := fun i hi => by
    rw [h.cellC (j * 4 + i) (by omega)]; unfold spansC; rw [show (j * 4 + i) / 4 = j by omega, show (j * 4 + i) % 4 = i by omega]
  exact ⟨at_ 0 (by omega), at_ 1 (by omega), at_ 2 (by omega), at_ 3 (by omega)⟩

attribute [local go_sem ↓] big32 big32' in
set_option maxRecDepth 100000 in
set_option maxHeartbeats 8000000 in
theorem bPaid_any (k : Nat) (b : M.Book) (old now : Nat → M.Span) (w : World) (hK : Bk w k b) (hF : M.Fair b old now) :
    Calls Try.prog 26 #[.pointer (some ⟨k, 0, none⟩), .agg (cellsOf 32 (spansC old)), .agg (cellsOf 32 (spansC now))] w fun e w' => e = .returned (.bool true) ∧ Bk w' k (b.paidTo old now 8) ∧ On k w w' := by
  have HK := hid hK
  have FA := hid hF
  have lk := Blk.lt hK
  clear hK hF
  have hs1 : (cellsOf 32 (spansC old)).size = 32 := cellsOf_size _ _
  have hs2 : (cellsOf 32 (spansC now)).size = 32 := cellsOf_size _ _
  obtain ⟨W0, hW0⟩ : ∃ W, (w.alloc (.cells (cellsOf 32 (spansC old)) 63)).alloc (.cells (cellsOf 32 (spansC now)) 63) = W := ⟨_, rfl⟩
  have O0 := hid (show Blk W0 w.heap.size (cellsOf 32 (spansC old)) 63 from by rw [← hW0]; exact (Blk.new rfl).alloc)
  have N0 := hid (show Blk W0 (w.heap.size + 1) (cellsOf 32 (spansC now)) 63 from by rw [← hW0]; exact Blk.new (by simp))
  have B0 : Below w.heap.size w W0 := hW0 ▸ (by go_grown)
  have K0 := hid (show Bk W0 k (b.paidTo old now 0) from by rw [M.paidTo_0]; exact Blk.after HK.out B0)
  have D0 := hid (show On k w W0 from On.below B0)
  clear B0 HK
  go_enter Try.func26, Try.ntmps26
  go_wp2_with fail
  try rw [hW0]
  clear hW0
  go_loopg [7, 8, 9, 10, 11, 12, 13, 14, 15] 9 (fun m u7 u8 u9 u10 u11 u12 u13 u14 u15 wr => ∃ (j : Nat) (S Wn C L : Int), u7 = .int .i64 S ∧ u8 = .int .i64 Wn ∧ u9 = .int .i64 C ∧ u10 = .int .i64 L ∧ u11 = .int .i64 j ∧ j ≤ 8 ∧ m + j = 9 ∧ Hid (M.sumTo (b.shotN old now) j = S) ∧ Hid (M.sumTo (b.woundN old now) j = Wn) ∧ Hid (M.sumTo (b.costN old now) j = C) ∧ Hid (b.lastN old now j = L) ∧ Hid (Blk wr w.heap.size (cellsOf 32 (spansC old)) 63) ∧ Hid (Blk wr (w.heap.size + 1) (cellsOf 32 (spansC now)) 63) ∧ Hid (Bk wr k (b.paidTo old now j)) ∧ Hid (On k w wr))
  case atStart => exact ⟨0, 0, 0, 0, -1, rfl, rfl, rfl, rfl, rfl, by omega, rfl, hid rfl, hid rfl, hid rfl, hid rfl, O0, N0, K0, D0⟩
  case round =>
    clear O0 N0 K0 D0
    obtain ⟨j, S, Wn, C, L, rfl, rfl, rfl, rfl, rfl, hj, hm, ES, EW, EC, EL, OJ, NJ, KJ, DJ⟩ := hrel
    have j0 : (0 : Int) ≤ (j : Int) := by omega
    obtain ⟨⟨S0, S1⟩, ⟨Y0, Y1⟩, C0, C1⟩ := M.sums_bd FA.out j hj
    rw [ES.out] at S0 S1
    rw [EW.out] at Y0 Y1
    rw [EC.out] at C0 C1
    by_cases hlt8 : j < 8
    · have j1 : (j : Int) < 8 := by omega
      have wz : IntKind.i64.wrap (j : Int) = (j : Int) := IntWalk.i64_in _ ⟨by omega, by omega⟩
      have ch := KJ.out.here hlt8
      rw [show (b.paidTo old now j).here j = b.here j from rfl] at ch
      have nS : M.sumTo (b.shotN old now) (j + 1) = S + b.shotN old now j := by rw [← ES.out]; rfl
      have nW : M.sumTo (b.woundN old now) (j + 1) = Wn + b.woundN old now j := by rw [← EW.out]; rfl
      have nC : M.sumTo (b.costN old now) (j + 1) = C + b.costN old now j := by rw [← EC.out]; rfl
      have nL : b.lastN old now (j + 1) = if b.shotN old now j = 1 then (j : Int) else L := by rw [← EL.out]; rfl
      cases hh : b.here j
      · rw [hh] at ch
        have e1 : b.shotN old now j = 0 := by unfold M.Book.shotN; rw [hh, if_neg (fun k => by cases k.1)]
        have e2 : b.woundN old now j = 0 := by unfold M.Book.woundN; rw [hh, if_neg (fun k => by cases k.1)]
        have e3 : b.costN old now j = 0 := by unfold M.Book.costN; rw [hh, if_neg (fun k => by cases k.1)]
        have e4 : b.paidTo old now (j + 1) = b.paidTo old now j := M.paidTo_skip b old now j (fun k => by rw [hh] at k; cases k.1)
        rw [e1] at nS nL
        rw [e2] at nW
        rw [e3] at nC
        rw [Int.add_zero] at nS nW nC
        rw [if_neg (by decide)] at nL
        rw [← e4] at KJ
        have HnS := hid nS
        have HnW := hid nW
        have HnC := hid nC
        have HnL := hid nL
        clear nS nW nC nL e1 e2 e3 e4 hh ES EW EC EL
        go_wp2
        go_roundg (gk - 1)
        case measure => omega
        case rel => exact ⟨j + 1, S, Wn, C, L, rfl, rfl, rfl, rfl, by go_num, by omega, by omega, HnS, HnW, HnC, HnL, OJ, NJ, KJ, DJ⟩
      · rw [hh] at ch
        have fS := hid (show b.shotN old now j = if (now j).ammo ≠ (b.was old j).ammo then 1 else 0 from by unfold M.Book.shotN; simp only [hh, true_and])
        have fW := hid (show b.woundN old now j = if (now j).health < (b.was old j).health then 1 else 0 from by unfold M.Book.woundN; simp only [hh, true_and])
        have fC := hid (show b.costN old now j = if (now j).health < (b.was old j).health then (b.was old j).health - (now j).health else 0 from by unfold M.Book.costN; simp only [hh, true_and])
        obtain ⟨X, hX⟩ : ∃ X : Prop, X ↔ (b.here j = true ∧ (b.was old j).live = 1 ∧ (now j).live = 0) := ⟨_, Iff.rfl⟩
        have HX := hid hX
        have PD := hid (show X ↔ ((b.was old j).live = 1 ∧ (now j).live = 0) from ⟨fun h => (hX.1 h).2, fun h => hX.2 ⟨hh, h⟩⟩)
        clear hX
        have nS := hid nS
        have nW := hid nW
        have nC := hid nC
        have nL := hid nL
        obtain ⟨k1, k2, k3, k4, k5⟩ := FA.out.ok j hlt8 hh
        have PB := hid (M.was_byte FA.out j)
        have NB := hid (FA.out.n j)
        have ol := FA.out.ol j
        have FB := hid k1
        have GE := hid k2
        have Z0 := hid k5
        have LV := hid (show ((now j).live = 1 ∧ 0 < (now j).health) ∨ ((now j).live = 0 ∧ (now j).health = 0) from by
          have n := FA.out.n j
          have := n.l0
          have := n.h0
          by_cases e : (now j).live = 1
          · exact .inl ⟨e, k3.1 e⟩
          · refine .inr ⟨by omega, ?_⟩
            have : ¬ 0 < (now j).health := fun h => e (k3.2 h)
            omega)
        clear k1 k2 k3 k4 k5 hh ES EW EC EL
        have dt := FA.out.d0 j hlt8
        have t0 := FA.out.t0
        have t1 := FA.out.t1
        obtain ⟨d0, d1⟩ := dt
        obtain ⟨x0, x1, x2, x3⟩ := OJ.out.span4 hlt8
        obtain ⟨y0, y1, y2, y3⟩ := NJ.out.span4 hlt8
        have wasE := hid (show b.was old j = if (old j).live = 0 ∧ b.tick = b.died j + 8 then M.Span.whole else old j from rfl)
        obtain ⟨D, hD⟩ : ∃ D, b.died j = D := ⟨_, rfl⟩
        have HDe := hid (show (b.paidTo old now j).died j = D from by rw [M.paidTo_at]; exact hD)
        rw [hD] at d0 d1 wasE
        clear hD
        obtain ⟨q, hq⟩ : ∃ q, now j = q := ⟨_, rfl⟩
        rw [hq] at fS fW fC PD NB FB GE Z0 LV y0 y1 y2 y3
        obtain ⟨o, ho⟩ : ∃ o, old j = o := ⟨_, rfl⟩
        rw [ho] at wasE x0 x1 x2 x3 ol
        obtain ⟨p, hp⟩ : ∃ p, b.was old j = p := ⟨_, rfl⟩
        rw [hp] at fS fW fC PD PB FB GE Z0 wasE
        clear hq ho hp
        obtain ⟨q1, q2, q3, q4⟩ := q
        obtain ⟨o1, o2, o3, o4⟩ := o
        simp only at x0 x1 x2 x3 y0 y1 y2 y3 ol
        obtain ⟨V, hV⟩ : ∃ V, (wr.alloc (.cells #[.int .i64 o1, .int .i64 o2, .int .i64 o3, .int .i64 o4] 62)).alloc (.cells #[.int .i64 q1, .int .i64 q2, .int .i64 q3, .int .i64 q4] 62) = V := ⟨_, rfl⟩
        have QP := hid (show Blk V wr.heap.size #[.int .i64 o1, .int .i64 o2, .int .i64 o3, .int .i64 o4] 62 from hV ▸ (Blk.new rfl).alloc)
        have QQ := hid (show Blk V (wr.heap.size + 1) #[.int .i64 q1, .int .i64 q2, .int .i64 q3, .int .i64 q4] 62 from hV ▸ Blk.new (by simp))
        have BV : Below wr.heap.size wr V := hV ▸ (by go_grown)
        have OV := hid (OJ.out.after BV)
        have NV := hid (NJ.out.after BV)
        have KV := hid (show Bk V k (b.paidTo old now j) from Blk.after KJ.out BV)
        have DV := hid (DJ.out.trans (On.below BV))
        have lo := OJ.out.lt
        have ln := NJ.out.lt
        have lk2 := Blk.lt KJ.out
        have ct := KV.out.tick
        rw [show (b.paidTo old now j).tick = b.tick from rfl] at ct
        have cd := KV.out.died hlt8
        rw [HDe.out] at cd
        obtain ⟨vx0, vx1, vx2, vx3, vxf, vxl⟩ := QP.out.four
        clear BV OJ NJ KJ DJ
        by_cases hA : o1 = 0 ∧ b.tick = D + 8
        · obtain ⟨p1, p2, p3, p4⟩ := p
          have hp : (⟨p1, p2, p3, p4⟩ : M.Span) = ⟨1, 100, 6, 0⟩ := by rw [wasE.out, if_pos hA]; rfl
          injection hp with e1 e2 e3 e4
          subst e1 e2 e3 e4
          have z1 : (o1 == 0) = true := by simp [hA.1]
          have z2 : (b.tick == D + 8) = true := by simp [hA.2]
          clear wasE ol hA
          go_wp2_with fail
          try rw [hV]
          clear hV
          go_quiet (fail)
          obtain ⟨V2, hV2⟩ : ∃ V2, ((((V.drewN nq).setCell ⟨wr.heap.size, 0, none⟩ (.int .i64 1)).setCell ⟨wr.heap.size, 1, none⟩ (.int .i64 100)).setCell ⟨wr.heap.size, 2, none⟩ (.int .i64 6)).setCell ⟨wr.heap.size, 3, none⟩ (.int .i64 0) = V2 := ⟨_, rfl⟩
          have P2 := hid (show Blk V2 wr.heap.size #[.int .i64 1, .int .i64 100, .int .i64 6, .int .i64 0] 62 from by rw [← hV2]; exact (QP.out.drewN (n := nq)).set4 _ _ _ _)
          have o2' : On wr.heap.size (V.drewN nq) V2 := by rw [← hV2]; exact (((On.set _ 0 _ _).trans (On.set _ 1 _ _)).trans (On.set _ 2 _ _)).trans (On.set _ 3 _ _)
          have Q2 := hid ((QQ.out.drewN (n := nq)).on o2' (by omega))
          have O2 := hid ((OV.out.drewN (n := nq)).on o2' (by omega))
          have N2 := hid ((NV.out.drewN (n := nq)).on o2' (by omega))
          have K2 := hid (show Bk V2 k (b.paidTo old now j) from Blk.on (Blk.drewN (n := nq) KV.out) o2' (by omega))
          have D2 := hid (show On k w V2 from On.far (show On k w (V.drewN nq) from ⟨DV.out.os, DV.out.tape, DV.out.output, DV.out.size, DV.out.block⟩) o2' (by omega))
          clear QQ OV NV KV DV o2' ct cd x0 x1 x2 x3 y0 y1 y2 y3
          obtain ⟨ux0, ux1, ux2, ux3, uxf, uxl⟩ := P2.out.four
          obtain ⟨vy0, vy1, vy2, vy3, vyf, vyl⟩ := Q2.out.four
          go_wp2_with fail
          try rw [hV2]
          clear hV2 QP vx0 vx1 vx2 vx3 vxf vxl ux0 ux1 ux2 ux3 uxf uxl vy0 vy1 vy2 vy3 vyf vyl
          have fS := hid (show b.shotN old now j = if q3 ≠ 6 then 1 else 0 from fS.out)
          have fW := hid (show b.woundN old now j = if q2 < 100 then 1 else 0 from fW.out)
          have fC := hid (show b.costN old now j = if q2 < 100 then 100 - q2 else 0 from fC.out)
          have PD := hid (show X ↔ ((1 : Int) = 1 ∧ q1 = 0) from by first | exact PD.out | (have h := PD.out; simpa using h))
          have GE := hid (show q2 ≤ 100 from GE.out)
          have Z0 := hid (show (1 : Int) = 0 → q3 = 6 from by first | exact Z0.out | (have h := Z0.out; simpa using h))
          have LV := hid (show (q1 = 1 ∧ 0 < q2) ∨ (q1 = 0 ∧ q2 = 0) from LV.out)
          by_cases hf : q3 ≠ 6
          · refine (kshot_any ⟨1, 100, 6, 0⟩ ⟨q1, q2, q3, q4⟩ _ PB.out NB.out FB.out true (hid (by rw [decide_eq_false hf]; rfl))).mono ?_
            rintro e w3 ⟨rfl, hb⟩
            have P3 := hid (P2.out.after hb)
            have Q3 := hid (Q2.out.after hb)
            have O3 := hid (O2.out.after hb)
            have N3 := hid (N2.out.after hb)
            have K3 := hid (show Bk w3 k (b.paidTo old now j) from Blk.after K2.out hb)
            have D3 := hid (D2.out.trans (On.below hb))
            have lk3 := Blk.lt K3.out
            have ct := K3.out.tick
            rw [show (b.paidTo old now j).tick = b.tick from rfl] at ct
            have cd := K3.out.died hlt8
            have cf := Blk.frozen K3.out
            clear hb P2 Q2 O2 N2 K2 D2
            obtain ⟨x0, x1, x2, x3, xf, xl⟩ := P3.out.four
            obtain ⟨y0, y1, y2, y3, yf, yl⟩ := Q3.out.four
            have nb := NB.out
            obtain ⟨nb1, nb2, nb3, nb4, _, _, _, _⟩ := nb
            have pb := PB.out
            obtain ⟨_, _, pb3, pb4, _, _, _, _⟩ := pb
            simp only at nb1 nb2 nb3 nb4 pb3 pb4
            have hge := GE.out
            have hl := LV.out
            clear GE LV FB PB NB P3 Q3
            clear Z0
            rcases hl with ⟨rfl, hl2⟩ | ⟨rfl, rfl⟩
            · by_cases hw : (q2 : Int) < 100
              · have nS2 := hid (show M.sumTo (b.shotN old now) (j + 1) = S + 1 from by rw [nS.out, fS.out, if_pos hf])
                have nL2 := hid (show b.lastN old now (j + 1) = (j : Int) from by rw [nL.out, fS.out, if_pos hf, if_pos rfl])
                have nW2 := hid (show M.sumTo (b.woundN old now) (j + 1) = Wn + 1 from by rw [nW.out, fW.out, if_pos hw])
                have nC2 := hid (show M.sumTo (b.costN old now) (j + 1) = C + 100 - q2 from by rw [nC.out, fC.out, if_pos hw]; omega)
                have zw : (q2 : Int) < 100 := hw
                have zg : decide ((100 : Int) < q2) = false := decide_eq_false (by omega)
                have K4 := hid (show Bk w3 k (b.paidTo old now (j + 1)) from by rw [M.paidTo_skip b old now j (fun h => by exact absurd (PD.out.1 (HX.out.2 h)).2 (by decide))]; exact K3.out)
                clear nS nL nW nC fS fW fC hf hw PD K3 FA
                go_wp2
                go_roundg (gk - 1)
                case measure => omega
                case rel => exact ⟨j + 1, _, _, _, _, rfl, rfl, rfl, rfl, by go_num, by omega, by omega, nS2, nW2, nC2, nL2, O3, N3, K4, D3⟩
              · have nS2 := hid (show M.sumTo (b.shotN old now) (j + 1) = S + 1 from by rw [nS.out, fS.out, if_pos hf])
                have nL2 := hid (show b.lastN old now (j + 1) = (j : Int) from by rw [nL.out, fS.out, if_pos hf, if_pos rfl])
                have nW2 := hid (show M.sumTo (b.woundN old now) (j + 1) = Wn from by rw [nW.out, fW.out, if_neg hw]; omega)
                have nC2 := hid (show M.sumTo (b.costN old now) (j + 1) = C from by rw [nC.out, fC.out, if_neg hw]; omega)
                have zw : decide ((q2 : Int) < 100) = false := decide_eq_false hw
                have zg : decide ((100 : Int) < q2) = false := decide_eq_false (by omega)
                have K4 := hid (show Bk w3 k (b.paidTo old now (j + 1)) from by rw [M.paidTo_skip b old now j (fun h => by exact absurd (PD.out.1 (HX.out.2 h)).2 (by decide))]; exact K3.out)
                clear nS nL nW nC fS fW fC hf hw PD K3 FA
                go_wp2
                go_roundg (gk - 1)
                case measure => omega
                case rel => exact ⟨j + 1, _, _, _, _, rfl, rfl, rfl, rfl, by go_num, by omega, by omega, nS2, nW2, nC2, nL2, O3, N3, K4, D3⟩
            · have hw : (0 : Int) < 100 := by decide
              have nS2 := hid (show M.sumTo (b.shotN old now) (j + 1) = S + 1 from by rw [nS.out, fS.out, if_pos hf])
              have nL2 := hid (show b.lastN old now (j + 1) = (j : Int) from by rw [nL.out, fS.out, if_pos hf, if_pos rfl])
              have nW2 := hid (show M.sumTo (b.woundN old now) (j + 1) = Wn + 1 from by rw [nW.out, fW.out, if_pos hw])
              have nC2 := hid (show M.sumTo (b.costN old now) (j + 1) = C + 100 from by rw [nC.out, fC.out, if_pos hw]; omega)
              have zw : (0 : Int) < 100 := hw
              have zg : decide ((100 : Int) < 0) = false := decide_eq_false (by omega)
              have K4 := hid (show Bk (w3.setCell ⟨k, 9 + j, none⟩ (.int .i64 b.tick)).drew k (b.paidTo old now (j + 1)) from by rw [M.paidTo_died b old now j (HX.out.1 (PD.out.2 ⟨rfl, rfl⟩))]; exact Blk.drew (K3.out.die hlt8 b.tick))
              have o4 := On.set k (9 + j) w3 (.int .i64 b.tick)
              have O4 := hid ((O3.out.on o4 (by omega)).drew)
              have N4 := hid ((N3.out.on o4 (by omega)).drew)
              have D4 := hid ((D3.out.trans o4).drew)
              clear o4 nS nL nW nC fS fW fC hf hw PD O3 N3 D3 FA
              go_wp2_with fail
              refine still_tail5 9 (by kernel_rfl) (by kernel_rfl) ?_
              simp only [List.take_succ_cons, List.take_zero, List.drop_succ_cons, List.drop_zero]
              repeat still_step
              refine wpStill_nil ?_
              go_wp2
              go_roundg (gk - 1)
              case measure => omega
              case rel => exact ⟨j + 1, _, _, _, _, rfl, rfl, rfl, rfl, by go_num, by omega, by omega, nS2, nW2, nC2, nL2, O4, N4, K4, D4⟩
          · refine (kshot_any ⟨1, 100, 6, 0⟩ ⟨q1, q2, q3, q4⟩ _ PB.out NB.out FB.out false (hid (by rw [decide_eq_true (show q3 = 6 from Decidable.not_not.1 hf)]; rfl))).mono ?_
            rintro e w3 ⟨rfl, hb⟩
            have P3 := hid (P2.out.after hb)
            have Q3 := hid (Q2.out.after hb)
            have O3 := hid (O2.out.after hb)
            have N3 := hid (N2.out.after hb)
            have K3 := hid (show Bk w3 k (b.paidTo old now j) from Blk.after K2.out hb)
            have D3 := hid (D2.out.trans (On.below hb))
            have lk3 := Blk.lt K3.out
            have ct := K3.out.tick
            rw [show (b.paidTo old now j).tick = b.tick from rfl] at ct
            have cd := K3.out.died hlt8
            have cf := Blk.frozen K3.out
            clear hb P2 Q2 O2 N2 K2 D2
            obtain ⟨x0, x1, x2, x3, xf, xl⟩ := P3.out.four
            obtain ⟨y0, y1, y2, y3, yf, yl⟩ := Q3.out.four
            have nb := NB.out
            obtain ⟨nb1, nb2, nb3, nb4, _, _, _, _⟩ := nb
            have pb := PB.out
            obtain ⟨_, _, pb3, pb4, _, _, _, _⟩ := pb
            simp only at nb1 nb2 nb3 nb4 pb3 pb4
            have hge := GE.out
            have hl := LV.out
            clear GE LV FB PB NB P3 Q3
            clear Z0
            rcases hl with ⟨rfl, hl2⟩ | ⟨rfl, rfl⟩
            · by_cases hw : (q2 : Int) < 100
              · have nS2 := hid (show M.sumTo (b.shotN old now) (j + 1) = S from by rw [nS.out, fS.out, if_neg hf]; omega)
                have nL2 := hid (show b.lastN old now (j + 1) = L from by rw [nL.out, fS.out, if_neg hf, if_neg (by decide)])
                have nW2 := hid (show M.sumTo (b.woundN old now) (j + 1) = Wn + 1 from by rw [nW.out, fW.out, if_pos hw])
                have nC2 := hid (show M.sumTo (b.costN old now) (j + 1) = C + 100 - q2 from by rw [nC.out, fC.out, if_pos hw]; omega)
                have zw : (q2 : Int) < 100 := hw
                have zg : decide ((100 : Int) < q2) = false := decide_eq_false (by omega)
                have K4 := hid (show Bk w3 k (b.paidTo old now (j + 1)) from by rw [M.paidTo_skip b old now j (fun h => by exact absurd (PD.out.1 (HX.out.2 h)).2 (by decide))]; exact K3.out)
                clear nS nL nW nC fS fW fC hf hw PD K3 FA
                go_wp2
                go_roundg (gk - 1)
                case measure => omega
                case rel => exact ⟨j + 1, _, _, _, _, rfl, rfl, rfl, rfl, by go_num, by omega, by omega, nS2, nW2, nC2, nL2, O3, N3, K4, D3⟩
              · have nS2 := hid (show M.sumTo (b.shotN old now) (j + 1) = S from by rw [nS.out, fS.out, if_neg hf]; omega)
                have nL2 := hid (show b.lastN old now (j + 1) = L from by rw [nL.out, fS.out, if_neg hf, if_neg (by decide)])
                have nW2 := hid (show M.sumTo (b.woundN old now) (j + 1) = Wn from by rw [nW.out, fW.out, if_neg hw]; omega)
                have nC2 := hid (show M.sumTo (b.costN old now) (j + 1) = C from by rw [nC.out, fC.out, if_neg hw]; omega)
                have zw : decide ((q2 : Int) < 100) = false := decide_eq_false hw
                have zg : decide ((100 : Int) < q2) = false := decide_eq_false (by omega)
                have K4 := hid (show Bk w3 k (b.paidTo old now (j + 1)) from by rw [M.paidTo_skip b old now j (fun h => by exact absurd (PD.out.1 (HX.out.2 h)).2 (by decide))]; exact K3.out)
                clear nS nL nW nC fS fW fC hf hw PD K3 FA
                go_wp2
                go_roundg (gk - 1)
                case measure => omega
                case rel => exact ⟨j + 1, _, _, _, _, rfl, rfl, rfl, rfl, by go_num, by omega, by omega, nS2, nW2, nC2, nL2, O3, N3, K4, D3⟩
            · have hw : (0 : Int) < 100 := by decide
              have nS2 := hid (show M.sumTo (b.shotN old now) (j + 1) = S from by rw [nS.out, fS.out, if_neg hf]; omega)
              have nL2 := hid (show b.lastN old now (j + 1) = L from by rw [nL.out, fS.out, if_neg hf, if_neg (by decide)])
              have nW2 := hid (show M.sumTo (b.woundN old now) (j + 1) = Wn + 1 from by rw [nW.out, fW.out, if_pos hw])
              have nC2 := hid (show M.sumTo (b.costN old now) (j + 1) = C + 100 from by rw [nC.out, fC.out, if_pos hw]; omega)
              have zw : (0 : Int) < 100 := hw
              have zg : decide ((100 : Int) < 0) = false := decide_eq_false (by omega)
              have K4 := hid (show Bk (w3.setCell ⟨k, 9 + j, none⟩ (.int .i64 b.tick)).drew k (b.paidTo old now (j + 1)) from by rw [M.paidTo_died b old now j (HX.out.1 (PD.out.2 ⟨rfl, rfl⟩))]; exact Blk.drew (K3.out.die hlt8 b.tick))
              have o4 := On.set k (9 + j) w3 (.int .i64 b.tick)
              have O4 := hid ((O3.out.on o4 (by omega)).drew)
              have N4 := hid ((N3.out.on o4 (by omega)).drew)
              have D4 := hid ((D3.out.trans o4).drew)
              clear o4 nS nL nW nC fS fW fC hf hw PD O3 N3 D3 FA
              go_wp2_with fail
              refine still_tail5 9 (by kernel_rfl) (by kernel_rfl) ?_
              simp only [List.take_succ_cons, List.take_zero, List.drop_succ_cons, List.drop_zero]
              repeat still_step
              refine wpStill_nil ?_
              go_wp2
              go_roundg (gk - 1)
              case measure => omega
              case rel => exact ⟨j + 1, _, _, _, _, rfl, rfl, rfl, rfl, by go_num, by omega, by omega, nS2, nW2, nC2, nL2, O4, N4, K4, D4⟩
        · by_cases h1 : o1 = 0
          · obtain rfl : p = ⟨o1, o2, o3, o4⟩ := by rw [wasE.out, if_neg hA]
            have z1 : (o1 == 0) = true := by simp [h1]
            have z2 : (b.tick == D + 8) = false := by simp; exact fun e => hA ⟨h1, e⟩
            subst h1
            clear wasE ol hA
            go_wp2_with fail
            try rw [hV]
            clear hV
            go_quiet (fail)
            have P2 := hid (QP.out.drewN (n := nq))
            have Q2 := hid (QQ.out.drewN (n := nq))
            have O2 := hid (OV.out.drewN (n := nq))
            have N2 := hid (NV.out.drewN (n := nq))
            have K2 := hid (show Bk (V.drewN nq) k (b.paidTo old now j) from Blk.drewN (n := nq) KV.out)
            have D2 := hid (show On k w (V.drewN nq) from ⟨DV.out.os, DV.out.tape, DV.out.output, DV.out.size, DV.out.block⟩)
            obtain ⟨vy0, vy1, vy2, vy3, vyf, vyl⟩ := QQ.out.four
            clear QP QQ OV NV KV DV ct cd x0 x1 x2 x3 y0 y1 y2 y3
            go_wp2_with fail
            clear vx0 vx1 vx2 vx3 vxf vxl vy0 vy1 vy2 vy3 vyf vyl
            have fS := hid (show b.shotN old now j = if q3 ≠ o3 then 1 else 0 from fS.out)
            have fW := hid (show b.woundN old now j = if q2 < o2 then 1 else 0 from fW.out)
            have fC := hid (show b.costN old now j = if q2 < o2 then o2 - q2 else 0 from fC.out)
            have PD := hid (show X ↔ ((0 : Int) = 1 ∧ q1 = 0) from by first | exact PD.out | (have h := PD.out; simpa using h))
            have GE := hid (show q2 ≤ o2 from GE.out)
            have Z0 := hid (show (0 : Int) = 0 → q3 = o3 from by first | exact Z0.out | (have h := Z0.out; simpa using h))
            have LV := hid (show (q1 = 1 ∧ 0 < q2) ∨ (q1 = 0 ∧ q2 = 0) from LV.out)
            have hf : ¬ q3 ≠ o3 := fun h => h (Z0.out rfl)
            refine (kshot_any ⟨0, o2, o3, o4⟩ ⟨q1, q2, q3, q4⟩ _ PB.out NB.out FB.out false (hid (by rw [decide_eq_true (show q3 = o3 from Z0.out rfl)]; rfl))).mono ?_
            rintro e w3 ⟨rfl, hb⟩
            have P3 := hid (P2.out.after hb)
            have Q3 := hid (Q2.out.after hb)
            have O3 := hid (O2.out.after hb)
            have N3 := hid (N2.out.after hb)
            have K3 := hid (show Bk w3 k (b.paidTo old now j) from Blk.after K2.out hb)
            have D3 := hid (D2.out.trans (On.below hb))
            have lk3 := Blk.lt K3.out
            have ct := K3.out.tick
            rw [show (b.paidTo old now j).tick = b.tick from rfl] at ct
            have cd := K3.out.died hlt8
            have cf := Blk.frozen K3.out
            clear hb P2 Q2 O2 N2 K2 D2
            obtain ⟨x0, x1, x2, x3, xf, xl⟩ := P3.out.four
            obtain ⟨y0, y1, y2, y3, yf, yl⟩ := Q3.out.four
            have nb := NB.out
            obtain ⟨nb1, nb2, nb3, nb4, _, _, _, _⟩ := nb
            have pb := PB.out
            obtain ⟨_, _, pb3, pb4, _, _, _, _⟩ := pb
            simp only at nb1 nb2 nb3 nb4 pb3 pb4
            have hge := GE.out
            have hl := LV.out
            clear GE LV FB PB NB P3 Q3
            clear Z0
            rcases hl with ⟨rfl, hl2⟩ | ⟨rfl, rfl⟩
            · by_cases hw : (q2 : Int) < o2
              · have nS2 := hid (show M.sumTo (b.shotN old now) (j + 1) = S from by rw [nS.out, fS.out, if_neg hf]; omega)
                have nL2 := hid (show b.lastN old now (j + 1) = L from by rw [nL.out, fS.out, if_neg hf, if_neg (by decide)])
                have nW2 := hid (show M.sumTo (b.woundN old now) (j + 1) = Wn + 1 from by rw [nW.out, fW.out, if_pos hw])
                have nC2 := hid (show M.sumTo (b.costN old now) (j + 1) = C + o2 - q2 from by rw [nC.out, fC.out, if_pos hw]; omega)
                have zw : (q2 : Int) < o2 := hw
                have zg : decide ((o2 : Int) < q2) = false := decide_eq_false (by omega)
                have K4 := hid (show Bk w3 k (b.paidTo old now (j + 1)) from by rw [M.paidTo_skip b old now j (fun h => by exact absurd (PD.out.1 (HX.out.2 h)).1 (by decide))]; exact K3.out)
                clear nS nL nW nC fS fW fC hf hw PD K3 FA
                go_wp2
                go_roundg (gk - 1)
                case measure => omega
                case rel => exact ⟨j + 1, _, _, _, _, rfl, rfl, rfl, rfl, by go_num, by omega, by omega, nS2, nW2, nC2, nL2, O3, N3, K4, D3⟩
              · have nS2 := hid (show M.sumTo (b.shotN old now) (j + 1) = S from by rw [nS.out, fS.out, if_neg hf]; omega)
                have nL2 := hid (show b.lastN old now (j + 1) = L from by rw [nL.out, fS.out, if_neg hf, if_neg (by decide)])
                have nW2 := hid (show M.sumTo (b.woundN old now) (j + 1) = Wn from by rw [nW.out, fW.out, if_neg hw]; omega)
                have nC2 := hid (show M.sumTo (b.costN old now) (j + 1) = C from by rw [nC.out, fC.out, if_neg hw]; omega)
                have zw : decide ((q2 : Int) < o2) = false := decide_eq_false hw
                have zg : decide ((o2 : Int) < q2) = false := decide_eq_false (by omega)
                have K4 := hid (show Bk w3 k (b.paidTo old now (j + 1)) from by rw [M.paidTo_skip b old now j (fun h => by exact absurd (PD.out.1 (HX.out.2 h)).1 (by decide))]; exact K3.out)
                clear nS nL nW nC fS fW fC hf hw PD K3 FA
                go_wp2
                go_roundg (gk - 1)
                case measure => omega
                case rel => exact ⟨j + 1, _, _, _, _, rfl, rfl, rfl, rfl, by go_num, by omega, by omega, nS2, nW2, nC2, nL2, O3, N3, K4, D3⟩
            · by_cases hw : (0 : Int) < o2
              · have nS2 := hid (show M.sumTo (b.shotN old now) (j + 1) = S from by rw [nS.out, fS.out, if_neg hf]; omega)
                have nL2 := hid (show b.lastN old now (j + 1) = L from by rw [nL.out, fS.out, if_neg hf, if_neg (by decide)])
                have nW2 := hid (show M.sumTo (b.woundN old now) (j + 1) = Wn + 1 from by rw [nW.out, fW.out, if_pos hw])
                have nC2 := hid (show M.sumTo (b.costN old now) (j + 1) = C + o2 from by rw [nC.out, fC.out, if_pos hw]; omega)
                have zw : (0 : Int) < o2 := hw
                have zg : decide ((o2 : Int) < 0) = false := decide_eq_false (by omega)
                have K4 := hid (show Bk w3 k (b.paidTo old now (j + 1)) from by rw [M.paidTo_skip b old now j (fun h => by exact absurd (PD.out.1 (HX.out.2 h)).1 (by decide))]; exact K3.out)
                clear nS nL nW nC fS fW fC hf hw PD K3 FA
                go_wp2
                go_roundg (gk - 1)
                case measure => omega
                case rel => exact ⟨j + 1, _, _, _, _, rfl, rfl, rfl, rfl, by go_num, by omega, by omega, nS2, nW2, nC2, nL2, O3, N3, K4, D3⟩
              · have nS2 := hid (show M.sumTo (b.shotN old now) (j + 1) = S from by rw [nS.out, fS.out, if_neg hf]; omega)
                have nL2 := hid (show b.lastN old now (j + 1) = L from by rw [nL.out, fS.out, if_neg hf, if_neg (by decide)])
                have nW2 := hid (show M.sumTo (b.woundN old now) (j + 1) = Wn from by rw [nW.out, fW.out, if_neg hw]; omega)
                have nC2 := hid (show M.sumTo (b.costN old now) (j + 1) = C from by rw [nC.out, fC.out, if_neg hw]; omega)
                have zw : decide ((0 : Int) < o2) = false := decide_eq_false hw
                have zg : decide ((o2 : Int) < 0) = false := decide_eq_false (by omega)
                have K4 := hid (show Bk w3 k (b.paidTo old now (j + 1)) from by rw [M.paidTo_skip b old now j (fun h => by exact absurd (PD.out.1 (HX.out.2 h)).1 (by decide))]; exact K3.out)
                clear nS nL nW nC fS fW fC hf hw PD K3 FA
                go_wp2
                go_roundg (gk - 1)
                case measure => omega
                case rel => exact ⟨j + 1, _, _, _, _, rfl, rfl, rfl, rfl, by go_num, by omega, by omega, nS2, nW2, nC2, nL2, O3, N3, K4, D3⟩
          · obtain rfl : p = ⟨o1, o2, o3, o4⟩ := by rw [wasE.out, if_neg hA]
            have z1 : (o1 == 0) = false := by simp [h1]
            obtain rfl : o1 = 1 := ol.resolve_left h1
            clear wasE ol hA h1
            go_wp2_with fail
            try rw [hV]
            clear hV
            go_quiet (fail)
            have P2 := hid (QP.out.drewN (n := nq))
            have Q2 := hid (QQ.out.drewN (n := nq))
            have O2 := hid (OV.out.drewN (n := nq))
            have N2 := hid (NV.out.drewN (n := nq))
            have K2 := hid (show Bk (V.drewN nq) k (b.paidTo old now j) from Blk.drewN (n := nq) KV.out)
            have D2 := hid (show On k w (V.drewN nq) from ⟨DV.out.os, DV.out.tape, DV.out.output, DV.out.size, DV.out.block⟩)
            obtain ⟨vy0, vy1, vy2, vy3, vyf, vyl⟩ := QQ.out.four
            clear QP QQ OV NV KV DV ct cd x0 x1 x2 x3 y0 y1 y2 y3
            go_wp2_with fail
            clear vx0 vx1 vx2 vx3 vxf vxl vy0 vy1 vy2 vy3 vyf vyl
            have fS := hid (show b.shotN old now j = if q3 ≠ o3 then 1 else 0 from fS.out)
            have fW := hid (show b.woundN old now j = if q2 < o2 then 1 else 0 from fW.out)
            have fC := hid (show b.costN old now j = if q2 < o2 then o2 - q2 else 0 from fC.out)
            have PD := hid (show X ↔ ((1 : Int) = 1 ∧ q1 = 0) from by first | exact PD.out | (have h := PD.out; simpa using h))
            have GE := hid (show q2 ≤ o2 from GE.out)
            have Z0 := hid (show (1 : Int) = 0 → q3 = o3 from by first | exact Z0.out | (have h := Z0.out; simpa using h))
            have LV := hid (show (q1 = 1 ∧ 0 < q2) ∨ (q1 = 0 ∧ q2 = 0) from LV.out)
            by_cases hf : q3 ≠ o3
            · refine (kshot_any ⟨1, o2, o3, o4⟩ ⟨q1, q2, q3, q4⟩ _ PB.out NB.out FB.out true (hid (by rw [decide_eq_false hf]; rfl))).mono ?_
              rintro e w3 ⟨rfl, hb⟩
              have P3 := hid (P2.out.after hb)
              have Q3 := hid (Q2.out.after hb)
              have O3 := hid (O2.out.after hb)
              have N3 := hid (N2.out.after hb)
              have K3 := hid (show Bk w3 k (b.paidTo old now j) from Blk.after K2.out hb)
              have D3 := hid (D2.out.trans (On.below hb))
              have lk3 := Blk.lt K3.out
              have ct := K3.out.tick
              rw [show (b.paidTo old now j).tick = b.tick from rfl] at ct
              have cd := K3.out.died hlt8
              have cf := Blk.frozen K3.out
              clear hb P2 Q2 O2 N2 K2 D2
              obtain ⟨x0, x1, x2, x3, xf, xl⟩ := P3.out.four
              obtain ⟨y0, y1, y2, y3, yf, yl⟩ := Q3.out.four
              have nb := NB.out
              obtain ⟨nb1, nb2, nb3, nb4, _, _, _, _⟩ := nb
              have pb := PB.out
              obtain ⟨_, _, pb3, pb4, _, _, _, _⟩ := pb
              simp only at nb1 nb2 nb3 nb4 pb3 pb4
              have hge := GE.out
              have hl := LV.out
              clear GE LV FB PB NB P3 Q3
              clear Z0
              rcases hl with ⟨rfl, hl2⟩ | ⟨rfl, rfl⟩
              · by_cases hw : (q2 : Int) < o2
                · have nS2 := hid (show M.sumTo (b.shotN old now) (j + 1) = S + 1 from by rw [nS.out, fS.out, if_pos hf])
                  have nL2 := hid (show b.lastN old now (j + 1) = (j : Int) from by rw [nL.out, fS.out, if_pos hf, if_pos rfl])
                  have nW2 := hid (show M.sumTo (b.woundN old now) (j + 1) = Wn + 1 from by rw [nW.out, fW.out, if_pos hw])
                  have nC2 := hid (show M.sumTo (b.costN old now) (j + 1) = C + o2 - q2 from by rw [nC.out, fC.out, if_pos hw]; omega)
                  have zw : (q2 : Int) < o2 := hw
                  have zg : decide ((o2 : Int) < q2) = false := decide_eq_false (by omega)
                  have K4 := hid (show Bk w3 k (b.paidTo old now (j + 1)) from by rw [M.paidTo_skip b old now j (fun h => by exact absurd (PD.out.1 (HX.out.2 h)).2 (by decide))]; exact K3.out)
                  clear nS nL nW nC fS fW fC hf hw PD K3 FA
                  go_wp2
                  go_roundg (gk - 1)
                  case measure => omega
                  case rel => exact ⟨j + 1, _, _, _, _, rfl, rfl, rfl, rfl, by go_num, by omega, by omega, nS2, nW2, nC2, nL2, O3, N3, K4, D3⟩
                · have nS2 := hid (show M.sumTo (b.shotN old now) (j + 1) = S + 1 from by rw [nS.out, fS.out, if_pos hf])
                  have nL2 := hid (show b.lastN old now (j + 1) = (j : Int) from by rw [nL.out, fS.out, if_pos hf, if_pos rfl])
                  have nW2 := hid (show M.sumTo (b.woundN old now) (j + 1) = Wn from by rw [nW.out, fW.out, if_neg hw]; omega)
                  have nC2 := hid (show M.sumTo (b.costN old now) (j + 1) = C from by rw [nC.out, fC.out, if_neg hw]; omega)
                  have zw : decide ((q2 : Int) < o2) = false := decide_eq_false hw
                  have zg : decide ((o2 : Int) < q2) = false := decide_eq_false (by omega)
                  have K4 := hid (show Bk w3 k (b.paidTo old now (j + 1)) from by rw [M.paidTo_skip b old now j (fun h => by exact absurd (PD.out.1 (HX.out.2 h)).2 (by decide))]; exact K3.out)
                  clear nS nL nW nC fS fW fC hf hw PD K3 FA
                  go_wp2
                  go_roundg (gk - 1)
                  case measure => omega
                  case rel => exact ⟨j + 1, _, _, _, _, rfl, rfl, rfl, rfl, by go_num, by omega, by omega, nS2, nW2, nC2, nL2, O3, N3, K4, D3⟩
              · by_cases hw : (0 : Int) < o2
                · have nS2 := hid (show M.sumTo (b.shotN old now) (j + 1) = S + 1 from by rw [nS.out, fS.out, if_pos hf])
                  have nL2 := hid (show b.lastN old now (j + 1) = (j : Int) from by rw [nL.out, fS.out, if_pos hf, if_pos rfl])
                  have nW2 := hid (show M.sumTo (b.woundN old now) (j + 1) = Wn + 1 from by rw [nW.out, fW.out, if_pos hw])
                  have nC2 := hid (show M.sumTo (b.costN old now) (j + 1) = C + o2 from by rw [nC.out, fC.out, if_pos hw]; omega)
                  have zw : (0 : Int) < o2 := hw
                  have zg : decide ((o2 : Int) < 0) = false := decide_eq_false (by omega)
                  have K4 := hid (show Bk (w3.setCell ⟨k, 9 + j, none⟩ (.int .i64 b.tick)).drew k (b.paidTo old now (j + 1)) from by rw [M.paidTo_died b old now j (HX.out.1 (PD.out.2 ⟨rfl, rfl⟩))]; exact Blk.drew (K3.out.die hlt8 b.tick))
                  have o4 := On.set k (9 + j) w3 (.int .i64 b.tick)
                  have O4 := hid ((O3.out.on o4 (by omega)).drew)
                  have N4 := hid ((N3.out.on o4 (by omega)).drew)
                  have D4 := hid ((D3.out.trans o4).drew)
                  clear o4 nS nL nW nC fS fW fC hf hw PD O3 N3 D3 FA
                  go_wp2_with fail
                  refine still_tail5 9 (by kernel_rfl) (by kernel_rfl) ?_
                  simp only [List.take_succ_cons, List.take_zero, List.drop_succ_cons, List.drop_zero]
                  repeat still_step
                  refine wpStill_nil ?_
                  go_wp2
                  go_roundg (gk - 1)
                  case measure => omega
                  case rel => exact ⟨j + 1, _, _, _, _, rfl, rfl, rfl, rfl, by go_num, by omega, by omega, nS2, nW2, nC2, nL2, O4, N4, K4, D4⟩
                · have nS2 := hid (show M.sumTo (b.shotN old now) (j + 1) = S + 1 from by rw [nS.out, fS.out, if_pos hf])
                  have nL2 := hid (show b.lastN old now (j + 1) = (j : Int) from by rw [nL.out, fS.out, if_pos hf, if_pos rfl])
                  have nW2 := hid (show M.sumTo (b.woundN old now) (j + 1) = Wn from by rw [nW.out, fW.out, if_neg hw]; omega)
                  have nC2 := hid (show M.sumTo (b.costN old now) (j + 1) = C from by rw [nC.out, fC.out, if_neg hw]; omega)
                  have zw : decide ((0 : Int) < o2) = false := decide_eq_false hw
                  have zg : decide ((o2 : Int) < 0) = false := decide_eq_false (by omega)
                  have K4 := hid (show Bk (w3.setCell ⟨k, 9 + j, none⟩ (.int .i64 b.tick)).drew k (b.paidTo old now (j + 1)) from by rw [M.paidTo_died b old now j (HX.out.1 (PD.out.2 ⟨rfl, rfl⟩))]; exact Blk.drew (K3.out.die hlt8 b.tick))
                  have o4 := On.set k (9 + j) w3 (.int .i64 b.tick)
                  have O4 := hid ((O3.out.on o4 (by omega)).drew)
                  have N4 := hid ((N3.out.on o4 (by omega)).drew)
                  have D4 := hid ((D3.out.trans o4).drew)
                  clear o4 nS nL nW nC fS fW fC hf hw PD O3 N3 D3 FA
                  go_wp2_with fail
                  refine still_tail5 9 (by kernel_rfl) (by kernel_rfl) ?_
                  simp only [List.take_succ_cons, List.take_zero, List.drop_succ_cons, List.drop_zero]
                  repeat still_step
                  refine wpStill_nil ?_
                  go_wp2
                  go_roundg (gk - 1)
                  case measure => omega
                  case rel => exact ⟨j + 1, _, _, _, _, rfl, rfl, rfl, rfl, by go_num, by omega, by omega, nS2, nW2, nC2, nL2, O4, N4, K4, D4⟩
            · refine (kshot_any ⟨1, o2, o3, o4⟩ ⟨q1, q2, q3, q4⟩ _ PB.out NB.out FB.out false (hid (by rw [decide_eq_true (show q3 = o3 from Decidable.not_not.1 hf)]; rfl))).mono ?_
              rintro e w3 ⟨rfl, hb⟩
              have P3 := hid (P2.out.after hb)
              have Q3 := hid (Q2.out.after hb)
              have O3 := hid (O2.out.after hb)
              have N3 := hid (N2.out.after hb)
              have K3 := hid (show Bk w3 k (b.paidTo old now j) from Blk.after K2.out hb)
              have D3 := hid (D2.out.trans (On.below hb))
              have lk3 := Blk.lt K3.out
              have ct := K3.out.tick
              rw [show (b.paidTo old now j).tick = b.tick from rfl] at ct
              have cd := K3.out.died hlt8
              have cf := Blk.frozen K3.out
              clear hb P2 Q2 O2 N2 K2 D2
              obtain ⟨x0, x1, x2, x3, xf, xl⟩ := P3.out.four
              obtain ⟨y0, y1, y2, y3, yf, yl⟩ := Q3.out.four
              have nb := NB.out
              obtain ⟨nb1, nb2, nb3, nb4, _, _, _, _⟩ := nb
              have pb := PB.out
              obtain ⟨_, _, pb3, pb4, _, _, _, _⟩ := pb
              simp only at nb1 nb2 nb3 nb4 pb3 pb4
              have hge := GE.out
              have hl := LV.out
              clear GE LV FB PB NB P3 Q3
              clear Z0
              rcases hl with ⟨rfl, hl2⟩ | ⟨rfl, rfl⟩
              · by_cases hw : (q2 : Int) < o2
                · have nS2 := hid (show M.sumTo (b.shotN old now) (j + 1) = S from by rw [nS.out, fS.out, if_neg hf]; omega)
                  have nL2 := hid (show b.lastN old now (j + 1) = L from by rw [nL.out, fS.out, if_neg hf, if_neg (by decide)])
                  have nW2 := hid (show M.sumTo (b.woundN old now) (j + 1) = Wn + 1 from by rw [nW.out, fW.out, if_pos hw])
                  have nC2 := hid (show M.sumTo (b.costN old now) (j + 1) = C + o2 - q2 from by rw [nC.out, fC.out, if_pos hw]; omega)
                  have zw : (q2 : Int) < o2 := hw
                  have zg : decide ((o2 : Int) < q2) = false := decide_eq_false (by omega)
                  have K4 := hid (show Bk w3 k (b.paidTo old now (j + 1)) from by rw [M.paidTo_skip b old now j (fun h => by exact absurd (PD.out.1 (HX.out.2 h)).2 (by decide))]; exact K3.out)
                  clear nS nL nW nC fS fW fC hf hw PD K3 FA
                  go_wp2
                  go_roundg (gk - 1)
                  case measure => omega
                  case rel => exact ⟨j + 1, _, _, _, _, rfl, rfl, rfl, rfl, by go_num, by omega, by omega, nS2, nW2, nC2, nL2, O3, N3, K4, D3⟩
                · have nS2 := hid (show M.sumTo (b.shotN old now) (j + 1) = S from by rw [nS.out, fS.out, if_neg hf]; omega)
                  have nL2 := hid (show b.lastN old now (j + 1) = L from by rw [nL.out, fS.out, if_neg hf, if_neg (by decide)])
                  have nW2 := hid (show M.sumTo (b.woundN old now) (j + 1) = Wn from by rw [nW.out, fW.out, if_neg hw]; omega)
                  have nC2 := hid (show M.sumTo (b.costN old now) (j + 1) = C from by rw [nC.out, fC.out, if_neg hw]; omega)
                  have zw : decide ((q2 : Int) < o2) = false := decide_eq_false hw
                  have zg : decide ((o2 : Int) < q2) = false := decide_eq_false (by omega)
                  have K4 := hid (show Bk w3 k (b.paidTo old now (j + 1)) from by rw [M.paidTo_skip b old now j (fun h => by exact absurd (PD.out.1 (HX.out.2 h)).2 (by decide))]; exact K3.out)
                  clear nS nL nW nC fS fW fC hf hw PD K3 FA
                  go_wp2
                  go_roundg (gk - 1)
                  case measure => omega
                  case rel => exact ⟨j + 1, _, _, _, _, rfl, rfl, rfl, rfl, by go_num, by omega, by omega, nS2, nW2, nC2, nL2, O3, N3, K4, D3⟩
              · by_cases hw : (0 : Int) < o2
                · have nS2 := hid (show M.sumTo (b.shotN old now) (j + 1) = S from by rw [nS.out, fS.out, if_neg hf]; omega)
                  have nL2 := hid (show b.lastN old now (j + 1) = L from by rw [nL.out, fS.out, if_neg hf, if_neg (by decide)])
                  have nW2 := hid (show M.sumTo (b.woundN old now) (j + 1) = Wn + 1 from by rw [nW.out, fW.out, if_pos hw])
                  have nC2 := hid (show M.sumTo (b.costN old now) (j + 1) = C + o2 from by rw [nC.out, fC.out, if_pos hw]; omega)
                  have zw : (0 : Int) < o2 := hw
                  have zg : decide ((o2 : Int) < 0) = false := decide_eq_false (by omega)
                  have K4 := hid (show Bk (w3.setCell ⟨k, 9 + j, none⟩ (.int .i64 b.tick)).drew k (b.paidTo old now (j + 1)) from by rw [M.paidTo_died b old now j (HX.out.1 (PD.out.2 ⟨rfl, rfl⟩))]; exact Blk.drew (K3.out.die hlt8 b.tick))
                  have o4 := On.set k (9 + j) w3 (.int .i64 b.tick)
                  have O4 := hid ((O3.out.on o4 (by omega)).drew)
                  have N4 := hid ((N3.out.on o4 (by omega)).drew)
                  have D4 := hid ((D3.out.trans o4).drew)
                  clear o4 nS nL nW nC fS fW fC hf hw PD O3 N3 D3 FA
                  go_wp2_with fail
                  refine still_tail5 9 (by kernel_rfl) (by kernel_rfl) ?_
                  simp only [List.take_succ_cons, List.take_zero, List.drop_succ_cons, List.drop_zero]
                  repeat still_step
                  refine wpStill_nil ?_
                  go_wp2
                  go_roundg (gk - 1)
                  case measure => omega
                  case rel => exact ⟨j + 1, _, _, _, _, rfl, rfl, rfl, rfl, by go_num, by omega, by omega, nS2, nW2, nC2, nL2, O4, N4, K4, D4⟩
                · have nS2 := hid (show M.sumTo (b.shotN old now) (j + 1) = S from by rw [nS.out, fS.out, if_neg hf]; omega)
                  have nL2 := hid (show b.lastN old now (j + 1) = L from by rw [nL.out, fS.out, if_neg hf, if_neg (by decide)])
                  have nW2 := hid (show M.sumTo (b.woundN old now) (j + 1) = Wn from by rw [nW.out, fW.out, if_neg hw]; omega)
                  have nC2 := hid (show M.sumTo (b.costN old now) (j + 1) = C from by rw [nC.out, fC.out, if_neg hw]; omega)
                  have zw : decide ((0 : Int) < o2) = false := decide_eq_false hw
                  have zg : decide ((o2 : Int) < 0) = false := decide_eq_false (by omega)
                  have K4 := hid (show Bk (w3.setCell ⟨k, 9 + j, none⟩ (.int .i64 b.tick)).drew k (b.paidTo old now (j + 1)) from by rw [M.paidTo_died b old now j (HX.out.1 (PD.out.2 ⟨rfl, rfl⟩))]; exact Blk.drew (K3.out.die hlt8 b.tick))
                  have o4 := On.set k (9 + j) w3 (.int .i64 b.tick)
                  have O4 := hid ((O3.out.on o4 (by omega)).drew)
                  have N4 := hid ((N3.out.on o4 (by omega)).drew)
                  have D4 := hid ((D3.out.trans o4).drew)
                  clear o4 nS nL nW nC fS fW fC hf hw PD O3 N3 D3 FA
                  go_wp2_with fail
                  refine still_tail5 9 (by kernel_rfl) (by kernel_rfl) ?_
                  simp only [List.take_succ_cons, List.take_zero, List.drop_succ_cons, List.drop_zero]
                  repeat still_step
                  refine wpStill_nil ?_
                  go_wp2
                  go_roundg (gk - 1)
                  case measure => omega
                  case rel => exact ⟨j + 1, _, _, _, _, rfl, rfl, rfl, rfl, by go_num, by omega, by omega, nS2, nW2, nC2, nL2, O4, N4, K4, D4⟩
    · have j1 : ¬ (j : Int) < 8 := by omega
      obtain rfl : j = 8 := by omega
      have fw := FA.out.w
      rw [EW.out, ES.out] at fw
      have fc := FA.out.c
      rw [EC.out, ES.out] at fc
      have z1 : decide (S < Wn) = false := decide_eq_false (by omega)
      have z2 : decide (60 * S < C) = false := decide_eq_false (by omega)
      by_cases hS1 : S = 1
      · obtain ⟨i, hi, hL, hsh⟩ := M.last_is b old now 8 (by rw [ES.out]; omega)
        obtain rfl : (i : Int) = L := by rw [← hL]; exact EL.out
        have one := FA.out.one (by rw [ES.out]; exact hS1) i hi hsh
        subst hS1
        rw [Int.mul_one] at z2
        obtain ⟨x0, x1, x2, x3⟩ := OJ.out.span4 hi
        obtain ⟨y0, y1, y2, y3⟩ := NJ.out.span4 hi
        have i0 : (0 : Int) ≤ (i : Int) := by omega
        have i1 : (i : Int) < 8 := by omega
        have wz : IntKind.i64.wrap (i : Int) = (i : Int) := IntWalk.i64_in _ ⟨by omega, by omega⟩
        by_cases he : (now i).health = (old i).health
        · have ze : ((now i).health == (old i).health) = true := by simp [he]
          clear one he ES EW EC EL hL hsh fw fc FA
          go_wp2_with fail
          go_quiet (fail)
          go_wp2
          go_ret
          exact ⟨rfl, Blk.drewN KJ.out, ⟨DJ.out.os, DJ.out.tape, DJ.out.output, DJ.out.size, DJ.out.block⟩⟩
        · have ze : ((now i).health == (old i).health) = false := by simp [he]
          have zo : (old i).live = 0 := one.resolve_left he
          rw [zo] at x0
          clear one he zo ES EW EC EL hL hsh fw fc FA
          go_wp2_with fail
          go_quiet (fail)
          go_wp2
          go_ret
          exact ⟨rfl, Blk.drewN KJ.out, ⟨DJ.out.os, DJ.out.tape, DJ.out.output, DJ.out.size, DJ.out.block⟩⟩
      · have zs : (S == 1) = false := by simp [hS1]
        have zs2 : (S != 1) = true := by simp [hS1]
        clear hS1 ES EW EC EL fw fc FA
        go_wp2_with fail
        go_quiet (fail)
        go_wp2
        go_ret
        exact ⟨rfl, Blk.drewN KJ.out, ⟨DJ.out.os, DJ.out.tape, DJ.out.output, DJ.out.size, DJ.out.block⟩⟩

end Go.Proofs.Ytonmihojfcjmjab
