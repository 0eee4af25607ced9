import Derived.Test.YtonmihojfcjmjabOkM
import Derived.Test.YtonmihojfcjmjabSh8
/- Contracts of the program's game: Tick. -/
namespace Go.Proofs.Ytonmihojfcjmjab
open Go.RowKit
set_option linter.unusedVariables false
attribute [local go_sem] cell_set_off cell_set_blk
attribute [local go_sem ↓] big65 big65'

theorem Pg.tick {W : World} {b : Nat} {mv : Value} {ps : Nat → Bool} {g : M.PGame} (h : Pg W b mv ps g) (t : Int) : Pg (W.setCell ⟨b, 65, none⟩ (.int .i64 t)) b mv ps { g with tick := t } := by
  refine ⟨fun j hj => ?_, World.cell?_setCell_same _ _ _ h.ct, fun i k hi hk => ?_, fun o => by rw [World.frozen?_setCell]; exact h.free o, by simpa using h.lt⟩
  · rw [cell_set_off _ _ _ _ _ (by omega)]; exact h.cm j hj
  · rw [cell_set_off _ _ _ _ _ (by omega)]; exact h.cs i k hi hk

/-- The cells of eight commands. -/
def cmdsC (cm : Nat → M.Cmd) (k : Nat) : Value := cmdC (cm (k / 9)) (k % 9)
theorem zeroCmds : Try.zeroCells113 = cellsOf 72 (cmdsC (fun _ => M.Cmd.nought)) := by kernel_rfl
theorem cmdsC_set (cm : Nat → M.Cmd) (j : Nat) (c : M.Cmd) (k : Nat) : (if j * 9 ≤ k ∧ k < j * 9 + 9 then cmdC c (k - j * 9) else cmdsC cm k) = cmdsC (fun i => if i = j then c else cm i) k := by
  show _ = cmdC (if k / 9 = j then c else cm (k / 9)) (k % 9)
  by_cases h : j * 9 ≤ k ∧ k < j * 9 + 9
  · rw [if_pos h, if_pos (show k / 9 = j by omega), show k % 9 = k - j * 9 by omega]
  · rw [if_neg h, if_neg (show ¬ k / 9 = j by omega)]; rfl
/-- Some rows of a game's slots, at their own places. -/
def tmpOrders (g : M.PGame) (j k : Nat) : M.Cmd := if k < j then (g.seat k).order else M.Cmd.nought
theorem orders_next (g : M.PGame) (j : Nat) : (fun i => if i = j then (g.seat j).order else tmpOrders g j i) = tmpOrders g (j + 1) := by
  funext i
  unfold tmpOrders
  by_cases e : i = j
  · subst e; rw [if_pos rfl, if_pos (by omega)]
  · rw [if_neg e]
    by_cases h : i < j
    · rw [if_pos h, if_pos (by omega)]
    · rw [if_neg h, if_neg (by omega)]

set_option maxRecDepth 100000 in
set_option maxHeartbeats 2000000 in
theorem pTick_any (b : Nat) (x : Option Addr) (n cap : Nat) (ps : Nat → Bool) (ls : List M.Lf) (g : M.PGame) (w : World) (h : Pg w b (.slice x n cap) ps g) (hown : w.ownsRow 0 154 7 (.slice x n cap) ls.length (flat ls)) (hne : ∀ k, (Value.slice x n cap).ownBlock = some k → k ≠ b) (hl : ls.length ≤ 512) (hc : ∀ l ∈ ls, l.lo.Cub ∧ l.hi.Cub) (hk : g.Ok) (F : Int × M.PGame) (hF : Hid (g.step ls = F)) :
    Calls Try.prog 36 #[.pointer (some ⟨b, 0, none⟩)] w (ErrPost b (.slice x n cap) ps w F) := by
  have HP := hid h
  have HO := hid hown
  have HC := hid hc
  have HK := hid hk
  have HN := hid hne
  have hlt := h.lt
  have c65 := h.ct
  have fr := h.free 65
  have t0 := hk.t0
  have t1 := hk.t1
  clear h hown hc hk hne
  by_cases h3 : 3000 ≤ g.tick
  · obtain rfl : (11, g) = F := by rw [← hF.out]; unfold M.PGame.step; rw [if_pos h3]
    clear hF
    go_enter Try.func36, Try.ntmps36
    go_wp2
    go_ret
    exact ⟨rfl, HP.out, On.refl _ _⟩
  · have HF : Hid ((0, g.walk ls) = F) := by unfold Hid; rw [← hF.out]; unfold M.PGame.step; rw [if_neg h3]
    have KB := hid (HK.out.backs h3)
    have KW := hid (HK.out.walks h3 ls)
    have KN := hid (HK.out.notes h3 ls)
    have KS := hid (HK.out.allShown h3 ls)
    have KO := hid (HK.out.order h3)
    clear hF
    go_enter Try.func36, Try.ntmps36
    have P1 := hid (HP.out.tick (g.tick + 1))
    have O1 := hid (On.set b 65 w (.int .i64 (g.tick + 1)))
    clear HP
    go_wp2_with fail
    generalize w.setCell ⟨b, 65, none⟩ (.int .i64 (g.tick + 1)) = W1 at *
    go_loopg [3, 20] 9 (fun k u3 u20 wr => ∃ j : Nat, u20 = .int .i64 j ∧ j ≤ 8 ∧ k + j = 9 ∧ Hid (Pg wr b (.slice x n cap) ps (g.up1.mapTo (fun s => s.revived (g.tick + 1)) j)) ∧ Hid (On b w wr))
    case atStart => exact ⟨0, rfl, by omega, rfl, by unfold Hid; rw [M.PGame.map_0]; exact P1.out, O1⟩
    case round =>
      obtain ⟨j, rfl, hj, hk, PJ, OJ⟩ := hrel
      have j0 : (0 : Int) ≤ (j : Int) := by omega
      by_cases hlt8 : j < 8
      · have j1 : (j : Int) < 8 := by omega
        have K := hid (pBring_any b (.slice x n cap) ps (g.up1.mapTo (fun s => s.revived (g.tick + 1)) j) j wr PJ.out hlt8 (by rw [M.PGame.map_at]; exact (HK.out.s j).g0) (by rw [M.PGame.map_at]; exact (HK.out.s j).g1))
        rw [M.PGame.map_at, show (g.up1.mapTo (fun s => s.revived (g.tick + 1)) j).tick = g.tick + 1 from rfl, M.PGame.map_next g.up1 (fun s => s.revived (g.tick + 1)) j] at K
        go_wp2_with fail
        refine K.out.mono ?_
        rintro e u2 ⟨rfl, hp2, ho2⟩
        have P2 := hid hp2
        have O2 := hid (OJ.out.trans ho2)
        clear hp2 ho2 PJ OJ K
        go_wp2
        go_roundg (gk - 1)
        case measure => omega
        case rel => exact ⟨j + 1, by go_num, by omega, by omega, P2, O2⟩
      · have j1 : ¬ (j : Int) < 8 := by omega
        obtain rfl : j = 8 := by omega
        clear P1 O1
        have PB : Hid (Pg wr b (.slice x n cap) ps g.backs) := PJ
        clear PJ
        have hst := store_same (P := Try.prog) (show Blk (wr.alloc (.cells Try.zeroCells113 113)) wr.heap.size Try.zeroCells113 113 from Blk.new rfl) (by rw [zeroCmds]; exact cellsOf_one (fun k _ => cmdC_one _ _))
        obtain ⟨V0, hV0⟩ : ∃ V0, wr.alloc (.cells Try.zeroCells113 113) = V0 := ⟨_, rfl⟩
        have A0 := hid (show Range V0 wr.heap.size 0 72 (cmdsC (tmpOrders g.backs 0)) from fun k hk => by
          have q : Blk V0 wr.heap.size (cellsOf 72 (cmdsC (fun _ => M.Cmd.nought))) 113 := by rw [← zeroCmds, ← hV0]; exact Blk.new rfl
          rw [Nat.zero_add]; exact q.cellC k hk)
        have Z0 := hid (show ∀ m, V0.frozen? ⟨wr.heap.size, m, none⟩ = false from fun m => by rw [← hV0]; exact (show Blk (wr.alloc (.cells Try.zeroCells113 113)) wr.heap.size Try.zeroCells113 113 from Blk.new rfl).frozen m)
        have B0 : Below wr.heap.size wr V0 := by rw [← hV0]; go_grown
        have L0 : wr.heap.size < V0.heap.size := by rw [← hV0]; simp
        have P0 := hid (PB.out.after B0)
        have O0 := hid (OJ.out.trans (On.below B0))
        have lw := OJ.out.size
        have lb := PB.out.lt
        rw [hV0] at hst
        go_wp2_with fail
        try rw [hV0]
        clear hst hV0 B0 PB OJ
        generalize wr.heap.size = oB at *
        go_loopg [5, 32] 9 (fun k u5 u32 wq => ∃ j : Nat, u32 = .int .i64 j ∧ j ≤ 8 ∧ k + j = 9 ∧ Hid (Pg wq b (.slice x n cap) ps (g.backs.mapTo (fun s => s.obeyed ls) j)) ∧ Hid (On b w wq) ∧ Hid (Range wq oB 0 72 (cmdsC (tmpOrders g.backs j))) ∧ Hid (∀ m, wq.frozen? ⟨oB, m, none⟩ = false) ∧ oB < wq.heap.size)
        case atStart => exact ⟨0, rfl, by omega, rfl, by unfold Hid; rw [M.PGame.map_0]; exact P0.out, O0, A0, Z0, L0⟩
        case round =>
          clear P0 O0 A0 Z0 L0
          obtain ⟨j, rfl, hj, hk, PJ, OJ, AJ, ZJ, LJ⟩ := hrel
          have j0 : (0 : Int) ≤ (j : Int) := by omega
          by_cases hlt8 : j < 8
          · have j1 : (j : Int) < 8 := by omega
            have K := hid (pObey_any b x n cap ps ls (g.backs.mapTo (fun s => s.obeyed ls) j) j wr PJ.out (own_of HO.out (fun k hk => OJ.out.block k (own_lt HO.out hk) (HN.out k hk))) HN.out hl HC.out hlt8 (by rw [M.PGame.map_at]; exact (KB.out.s j).place) (by rw [M.PGame.map_at]; exact (KB.out.s j).w0) (by rw [M.PGame.map_at]; exact (KB.out.s j).w1))
            rw [M.PGame.map_at, M.PGame.map_next g.backs (fun s => s.obeyed ls) j] at K
            obtain ⟨c, hcc⟩ : ∃ c, (g.backs.seat j).order = c := ⟨_, rfl⟩
            rw [hcc] at K
            have HCC := hid hcc
            clear hcc
            go_wp2_with fail
            refine K.out.mono ?_
            rintro e u2 ⟨rfl, hp2, ho2⟩
            have P2 := hid hp2
            have O2 := hid (OJ.out.trans ho2)
            have eB := ho2.block oB LJ (by omega)
            have A2 := hid (AJ.out.block eB)
            have Z2 := hid (fun m => (World.frozen?_of_block (a := ⟨oB, m, none⟩) eB).trans (ZJ.out m))
            have L2 : oB < u2.heap.size := by have := ho2.size; omega
            have hs9 : (cellsOf 9 (cmdC c)).size = 9 := cellsOf_size _ _
            have wz : IntKind.i64.wrap (j : Int) = (j : Int) := IntWalk.i64_in _ ⟨by omega, by omega⟩
            have hst := store_range (P := Try.prog) (W := u2) (b := oB) (o := j * 9) (cellsOf 9 (cmdC c)).toList (fun k hk => by
              have h9 : k < 9 := by simpa [cellsOf] using hk
              have := A2.out (j * 9 + k) (by omega)
              rw [Nat.zero_add] at this
              rw [this]; rfl) Z2.out (cellsOf_one (fun i _ => cmdC_one _ _))
            have A3 := hid ((A2.out.setNa (j * 9) (j * 9) 9 (by omega) (by omega) (cmdC c)).congr (c' := cmdsC (tmpOrders g.backs (j + 1))) (fun k hk => by rw [← orders_next, HCC.out]; exact cmdsC_set _ j c k))
            have O3 := hid (OnR.setNa (b := oB) (o := 0) (n := 72) u2 (j * 9) (j * 9) (by omega) (cellsOf 9 (cmdC c)).toList (by simp [cellsOf]; omega))
            have P3 := hid (P2.out.on O3.out.on (by omega))
            have O4 := hid (O2.out.far O3.out.on (by omega))
            have Z3 := hid (fun m => (O3.out.fz m).trans (Z2.out m))
            have L3 : oB < (u2.setCells oB (j * 9) (cellsOf 9 (cmdC c)).toList).heap.size := by have := O3.out.on.size; omega
            clear hp2 ho2 PJ OJ AJ ZJ LJ K eB A2 Z2 P2 O2
            go_wp2
            go_roundg (gk - 1)
            case measure => omega
            case rel => exact ⟨j + 1, by go_num, by omega, by omega, P3, O4, A3, Z3, L3⟩
          · have j1 : ¬ (j : Int) < 8 := by omega
            obtain rfl : j = 8 := by omega
            have PB : Hid (Pg wr b (.slice x n cap) ps (g.walks ls)) := PJ
            clear PJ
            go_wp2_with fail
            go_loopg [6, 45] 9 (fun k u6 u45 wq => ∃ j : Nat, u45 = .int .i64 j ∧ j ≤ 8 ∧ k + j = 9 ∧ Hid (Pg wq b (.slice x n cap) ps ((g.walks ls).mapTo (fun s => s.note (g.tick + 1)) j)) ∧ Hid (On b w wq) ∧ Hid (Range wq oB 0 72 (cmdsC (tmpOrders g.backs 8))) ∧ oB < wq.heap.size)
            case atStart => exact ⟨0, rfl, by omega, rfl, by unfold Hid; rw [M.PGame.map_0]; exact PB.out, OJ, AJ, LJ⟩
            case round =>
              clear PB OJ AJ ZJ LJ
              obtain ⟨j, rfl, hj, hk, PJ, OJ, AJ, LJ⟩ := hrel
              have j0 : (0 : Int) ≤ (j : Int) := by omega
              by_cases hlt8 : j < 8
              · have j1 : (j : Int) < 8 := by omega
                have K := hid (pRecord_any b (.slice x n cap) ps ((g.walks ls).mapTo (fun s => s.note (g.tick + 1)) j) j wr PJ.out hlt8 (by rw [M.PGame.map_at]; exact (KW.out.s j).n0) (by rw [M.PGame.map_at]; exact (KW.out.s j).n1))
                rw [M.PGame.map_at, show ((g.walks ls).mapTo (fun s => s.note (g.tick + 1)) j).tick = g.tick + 1 from rfl, M.PGame.map_next (g.walks ls) (fun s => s.note (g.tick + 1)) j] at K
                go_wp2_with fail
                refine K.out.mono ?_
                rintro e u2 ⟨rfl, hp2, ho2⟩
                have P2 := hid hp2
                have O2 := hid (OJ.out.trans ho2)
                have A2 := hid (AJ.out.block (ho2.block oB LJ (by omega)))
                have L2 : oB < u2.heap.size := by have := ho2.size; omega
                clear hp2 ho2 PJ OJ AJ LJ K
                go_wp2
                go_roundg (gk - 1)
                case measure => omega
                case rel => exact ⟨j + 1, by go_num, by omega, by omega, P2, O2, A2, L2⟩
              · have j1 : ¬ (j : Int) < 8 := by omega
                obtain rfl : j = 8 := by omega
                have PB : Hid (Pg wr b (.slice x n cap) ps (g.notes ls)) := PJ
                clear PJ
                go_wp2_with fail
                go_loopg [7, 57] 9 (fun k u7 u57 wq => ∃ j : Nat, u57 = .int .i64 j ∧ j ≤ 8 ∧ k + j = 9 ∧ Hid (Pg wq b (.slice x n cap) ps ((g.notes ls).shootTo ls g.orders j)) ∧ Hid (On b w wq) ∧ Hid (Range wq oB 0 72 (cmdsC (tmpOrders g.backs 8))) ∧ oB < wq.heap.size)
                case atStart => exact ⟨0, rfl, by omega, rfl, PB, OJ, AJ, LJ⟩
                case round =>
                  clear PB OJ AJ LJ
                  obtain ⟨j, rfl, hj, hk, PJ, OJ, AJ, LJ⟩ := hrel
                  have j0 : (0 : Int) ≤ (j : Int) := by omega
                  by_cases hlt8 : j < 8
                  · have j1 : (j : Int) < 8 := by omega
                    obtain ⟨c, hcc⟩ : ∃ c, g.orders j = c := ⟨_, rfl⟩
                    have ec : tmpOrders g.backs 8 j = c := by unfold tmpOrders; rw [if_pos hlt8]; exact hcc
                    have RJ := hid (show Range wr oB (j * 9) 9 (cmdC c) from fun k hk => by
                      have := AJ.out (j * 9 + k) (by omega)
                      rw [Nat.zero_add] at this
                      rw [this]; unfold cmdsC; rw [show (j * 9 + k) / 9 = j by omega, show (j * 9 + k) % 9 = k by omega, ec])
                    have c1 : wr.cell? ⟨oB, j * 9 + 1, none⟩ = some (.bool c.fire) := RJ.out 1 (by omega)
                    have wz : IntKind.i64.wrap (j : Int) = (j : Int) := IntWalk.i64_in _ ⟨by omega, by omega⟩
                    cases hfr : c.fire
                    · have EN : Hid ((g.notes ls).shootTo ls g.orders (j + 1) = (g.notes ls).shootTo ls g.orders j) := by unfold Hid; show (if (g.orders j).fire = true then _ else _) = _; rw [hcc, if_neg (by simp [hfr])]
                      rw [hfr] at c1
                      clear hfr hcc ec RJ
                      go_wp2
                      go_roundg (gk - 1)
                      case measure => omega
                      case rel => exact ⟨j + 1, by go_num, by omega, by omega, by unfold Hid; rw [EN.out]; exact PJ.out, OJ, AJ, LJ⟩
                    · have EN : Hid ((g.notes ls).shootTo ls g.orders (j + 1) = ((g.notes ls).shootTo ls g.orders j).shoot ls j c) := by unfold Hid; show (if (g.orders j).fire = true then _ else _) = _; rw [hcc, if_pos hfr]
                      have K := hid (pShoot_any b x n cap ps ls ((g.notes ls).shootTo ls g.orders j) j c wr PJ.out (own_of HO.out (fun k hk => OJ.out.block k (own_lt HO.out hk) (HN.out k hk))) HN.out hl HC.out hlt8 (KN.out.shootTo ls g.orders j) (KS.out.shootTo ls g.orders j (by omega)) (hcc ▸ KO.out j))
                      rw [← EN.out] at K
                      rw [hfr] at c1
                      have l0 : wr.cell? ⟨oB, j * 9, none⟩ = some (.int .i64 c.seq) := RJ.out 0 (by omega)
                      have l1 : wr.cell? ⟨oB, j * 9 + 1, none⟩ = some (.bool c.fire) := RJ.out 1 (by omega)
                      have l2 : wr.cell? ⟨oB, j * 9 + 2, none⟩ = some (.int .i64 c.mv.x) := RJ.out 2 (by omega)
                      have l3 : wr.cell? ⟨oB, j * 9 + 3, none⟩ = some (.int .i64 c.mv.y) := RJ.out 3 (by omega)
                      have l4 : wr.cell? ⟨oB, j * 9 + 4, none⟩ = some (.int .i64 c.mv.z) := RJ.out 4 (by omega)
                      have l5 : wr.cell? ⟨oB, j * 9 + 5, none⟩ = some (.int .i64 c.aim.x) := RJ.out 5 (by omega)
                      have l6 : wr.cell? ⟨oB, j * 9 + 6, none⟩ = some (.int .i64 c.aim.y) := RJ.out 6 (by omega)
                      have l7 : wr.cell? ⟨oB, j * 9 + 7, none⟩ = some (.int .i64 c.aim.z) := RJ.out 7 (by omega)
                      have l8 : wr.cell? ⟨oB, j * 9 + 8, none⟩ = some (.int .i64 c.time) := RJ.out 8 (by omega)
                      rw [hfr] at l1 K
                      clear hfr hcc ec RJ EN
                      go_wp2_with fail
                      refine K.out.mono ?_
                      rintro e u2 ⟨rfl, hp2, ho2⟩
                      have P2 := hid hp2
                      have O2 := hid (OJ.out.trans ho2)
                      have A2 := hid (AJ.out.block (ho2.block oB LJ (by omega)))
                      have L2 : oB < u2.heap.size := by have := ho2.size; omega
                      clear hp2 ho2 PJ OJ AJ LJ K l0 l1 l2 l3 l4 l5 l6 l7 l8 c1
                      go_wp2
                      go_roundg (gk - 1)
                      case measure => omega
                      case rel => exact ⟨j + 1, by go_num, by omega, by omega, P2, O2, A2, L2⟩
                  · have j1 : ¬ (j : Int) < 8 := by omega
                    obtain rfl : j = 8 := by omega
                    obtain rfl := HF.out
                    go_wp2
                    go_ret
                    exact ⟨rfl, PJ.out, OJ.out⟩

end Go.Proofs.Ytonmihojfcjmjab
