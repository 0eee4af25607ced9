import Derived.Test.YtonmihojfcjmjabPa4
import Derived.Test.YtonmihojfcjmjabDf
/- Paid. -/
namespace Go.Proofs.Ytonmihojfcjmjab
open Go.RowKit
set_option linter.unusedVariables false
attribute [local go_sem] cell_set_off cell_set_blk

theorem M.Book.Of.paid {b : M.Book} {g : M.PGame} (h : b.Of g) (old now : Nat → M.Span) (n : Nat) : (b.paidTo old now n).Of g := ⟨h.t, h.h⟩
theorem M.join_tick (b : M.Book) (g : M.PGame) (c : Bool) : (b.join g c).tick = b.tick := by
  unfold M.Book.join
  split
  · split <;> rfl
  · rfl
theorem M.leave_tick (b : M.Book) (g : M.PGame) (s : Int) : (b.leave g s).tick = b.tick := by
  unfold M.Book.leave
  split <;> rfl
theorem M.paid_play {b : M.Book} {g : M.PGame} (hO : b.Of g) (hk : g.Ok) (hd : M.Dead b g) (o : M.KOp) :
    (¬ b.tick < (M.playB b g o).tick ∧ M.Dead (M.playB b g o) (M.playG g o)) ∨
    (b.tick < (M.playB b g o).tick ∧ M.Fair (M.playB b g o) (M.livesA b g) (M.livesA (M.playB b g o) (M.playG g o)) ∧ M.Dead ((M.playB b g o).paidTo (M.livesA b g) (M.livesA (M.playB b g o) (M.playG g o)) 8) (M.playG g o)) := by
  have hP := M.play_of hO o
  by_cases e : (M.playB b g o).tick = b.tick
  · exact .inl ⟨by omega, hd.play o (by rw [← hP.t, ← hO.t]; exact e)⟩
  · refine .inr ?_
    have k1 : ¬ o.kind = 1 := fun h => e (by unfold M.playB; rw [if_pos h]; exact M.join_tick _ _ _)
    have k2 : ¬ o.kind = 2 := fun h => e (by unfold M.playB; rw [if_neg k1, if_pos h]; exact M.leave_tick _ _ _)
    have k3 : ¬ o.kind = 3 := fun h => e (by unfold M.playB; rw [if_neg k1, if_neg k2, if_pos h])
    have eB : M.playB b g o = b.up := by unfold M.playB; rw [if_neg k1, if_neg k2, if_neg k3]
    have lt : b.tick < 3000 := by
      by_cases l : b.tick < 3000
      · exact l
      · exact absurd (by rw [eB]; unfold M.Book.up; rw [if_neg l]) e
    have eB2 : M.playB b g o = { b with tick := b.tick + 1 } := by rw [eB]; unfold M.Book.up; rw [if_pos lt]
    have lg : ¬ 3000 ≤ g.tick := by rw [← hO.t]; omega
    have eG : M.playG g o = g.walk M.z0L := by unfold M.playG; rw [if_neg k1, if_neg k2, if_neg k3]; unfold M.PGame.step; rw [if_neg lg]
    rw [eB2, eG]
    exact ⟨by show b.tick < b.tick + 1; omega, M.fair_step hO hk hd lg M.z0L⟩

attribute [local go_sem ↓] big6 big6' big32 big32' in
set_option maxRecDepth 100000 in
set_option maxHeartbeats 4000000 in
theorem paid_some (a : Addr) (n cap : Nat) (os : Nat → M.KOp) (w : World) (hR : KRow w a n os) (hn : n ≤ 9223372036854775806) (hs : ∀ i, i < n → (os i).s.size ≤ 140737488355328) :
    Calls Try.prog 7 #[.slice (some a) n cap] w fun e w' => e = .returned (.bool true) ∧ Below w.heap.size w w' := by
  have HR := hid hR
  have HSz := hid hs
  have H0 := hid (fun W => sv_new M.z0S W (by decide) M.z0_err M.z0L M.z0_top (by decide) M.z0_cub)
  clear hR hs
  go_enter Try.func7, Try.ntmps7
  go_wp2_with fail
  refine (H0.out _).mono ?_
  rintro e w1 ⟨hb1, x, vx, rfl, hx, hsx, hvx⟩
  have B1 := hid hb1
  have X1 := hid hsx
  have HVX := hid hvx
  have lx := hsx.pg.lt
  have lrx := hid (fun k (hk : vx.ownBlock = some k) => own_lt hsx.own hk)
  have s1 := hb1.size
  clear hb1 hsx hvx H0
  go_wp2_with fail
  go_loopg [6, 7, 8, 9, 10, 11] (n + 1) (fun m u6 u7 u8 u9 u10 u11 wr => ∃ (j : Nat) (g : M.PGame) (bk : M.Book), u6 = .int .i64 j ∧ j ≤ n ∧ m + j = n + 1 ∧ Hid (Sv wr x vx M.z0L (M.prs M.z0S) g) ∧ Hid (Bk wr w1.heap.size bk) ∧ Hid (bk.Of g) ∧ Hid (M.Dead bk g) ∧ Hid (Below w.heap.size w wr) ∧ w1.heap.size + 1 ≤ wr.heap.size)
  case atStart =>
    refine ⟨0, M.PGame.fresh, M.Book.none, rfl, by omega, by omega, hid (X1.out.after (by go_grown)), hid (show Bk _ _ _ from Blk.new rfl), hid ⟨rfl, fun i _ => rfl⟩, hid M.Dead.none, hid (by have := B1.out; go_grown), by simp⟩
  case round =>
    clear X1 B1
    obtain ⟨j, g, bk, rfl, hj, hm, XJ, KB, OF, DD, BW, lw⟩ := hrel
    have nkx : w1.heap.size ≠ x := by omega
    have rx : Hid (∀ k, vx.ownBlock = some k → k ≠ w1.heap.size) := fun k hk => by have := lrx.out k hk; omega
    by_cases hlt : j < n
    · have j0 : (0 : Int) ≤ (j : Int) := by omega
      have j1 : (j : Int) < (n : Int) := by omega
      have sz := HSz.out j hlt
      obtain ⟨o, ho⟩ : ∃ o, os j = o := ⟨_, rfl⟩
      have HOJ := hid ho
      rw [ho] at sz
      have sz2 : o.s.size ≤ maxLen := by unfold maxLen; omega
      have pp := hid (M.paid_play OF.out XJ.out.ok DD.out o)
      have OF2 := hid (M.play_of OF.out o)
      clear ho
      go_wp2_with fail
      refine (bLives_any w1.heap.size x vx M.z0L (M.prs M.z0S) g bk wr XJ.out KB.out OF.out).mono ?_
      rintro e w2 ⟨rfl, hb2⟩
      have q2 : Blk (w2.alloc (.cells #[.int .i64 0, .int .i64 0, .int .i64 0, .int .i64 0, .int .i64 0, .int .i64 0, .int .i64 0, .int .i64 0, .int .i64 0, .int .i64 0, .int .i64 0, .int .i64 0, .int .i64 0, .int .i64 0, .int .i64 0, .int .i64 0, .int .i64 0, .int .i64 0, .int .i64 0, .int .i64 0, .int .i64 0, .int .i64 0, .int .i64 0, .int .i64 0, .int .i64 0, .int .i64 0, .int .i64 0, .int .i64 0, .int .i64 0, .int .i64 0, .int .i64 0, .int .i64 0] 63)) w2.heap.size #[.int .i64 0, .int .i64 0, .int .i64 0, .int .i64 0, .int .i64 0, .int .i64 0, .int .i64 0, .int .i64 0, .int .i64 0, .int .i64 0, .int .i64 0, .int .i64 0, .int .i64 0, .int .i64 0, .int .i64 0, .int .i64 0, .int .i64 0, .int .i64 0, .int .i64 0, .int .i64 0, .int .i64 0, .int .i64 0, .int .i64 0, .int .i64 0, .int .i64 0, .int .i64 0, .int .i64 0, .int .i64 0, .int .i64 0, .int .i64 0, .int .i64 0, .int .i64 0] 63 := Blk.new rfl
      obtain ⟨V2, st2, qV2, oV2⟩ := store_new (P := Try.prog) q2 (cellsOf 32 (spansC (M.livesA bk g))).toList (by simp [cellsOf_size]) (cellsOf_one (fun i _ => spansC_one _ i))
      have bV2 : Below wr.heap.size wr V2 := On.toBelow (by have := hb2; have := hb2.size; go_grown) (by have := hb2.size; simp; omega) oV2 (by have := hb2.size; omega)
      have QA := hid (show Blk V2 w2.heap.size (cellsOf 32 (spansC (M.livesA bk g))) 63 from by simpa using qV2)
      have X2 := hid (XJ.out.after bV2)
      have K2 := hid (show Bk V2 w1.heap.size bk from Blk.after KB.out bV2)
      have B2 := hid (bl BW.out bV2)
      have l2 := bV2.size
      have z2 : wr.heap.size ≤ w2.heap.size := hb2.size
      have ct := K2.out.tick
      have ld := (HR.out.below B2.out).load hlt
      rw [HOJ.out] at ld
      unfold opL at ld
      have kl := Blk.lt K2.out
      clear hb2 q2 qV2 oV2 bV2 XJ KB BW DD
      go_wp2_with fail
      clear st2 ld
      refine (bPlayed_any w1.heap.size x vx (M.prs M.z0S) g bk o V2 X2.out K2.out OF.out nkx rx.out sz2).mono ?_
      rintro e w3 ⟨rfl, hs3, hk3, ho3⟩
      have X3 := hid hs3
      have K3 := hid hk3
      have QA3 := hid (QA.out.onS ho3 (fun e => e.elim (by omega) (by omega)))
      have B3 := hid (OnS.toBelow B2.out (by omega) ho3 (fun k e => by rcases e with rfl | rfl <;> omega))
      have l3 := ho3.size
      clear hs3 hk3 ho3 X2 K2 QA B2 ct kl
      go_wp2_with fail
      refine (bLives_any w1.heap.size x vx M.z0L (M.prs M.z0S) (M.playG g o) (M.playB bk g o) w3 X3.out K3.out OF2.out).mono ?_
      rintro e w4 ⟨rfl, hb4⟩
      have q4 : Blk (w4.alloc (.cells #[.int .i64 0, .int .i64 0, .int .i64 0, .int .i64 0, .int .i64 0, .int .i64 0, .int .i64 0, .int .i64 0, .int .i64 0, .int .i64 0, .int .i64 0, .int .i64 0, .int .i64 0, .int .i64 0, .int .i64 0, .int .i64 0, .int .i64 0, .int .i64 0, .int .i64 0, .int .i64 0, .int .i64 0, .int .i64 0, .int .i64 0, .int .i64 0, .int .i64 0, .int .i64 0, .int .i64 0, .int .i64 0, .int .i64 0, .int .i64 0, .int .i64 0, .int .i64 0] 63)) w4.heap.size #[.int .i64 0, .int .i64 0, .int .i64 0, .int .i64 0, .int .i64 0, .int .i64 0, .int .i64 0, .int .i64 0, .int .i64 0, .int .i64 0, .int .i64 0, .int .i64 0, .int .i64 0, .int .i64 0, .int .i64 0, .int .i64 0, .int .i64 0, .int .i64 0, .int .i64 0, .int .i64 0, .int .i64 0, .int .i64 0, .int .i64 0, .int .i64 0, .int .i64 0, .int .i64 0, .int .i64 0, .int .i64 0, .int .i64 0, .int .i64 0, .int .i64 0, .int .i64 0] 63 := Blk.new rfl
      obtain ⟨V4, st4, qV4, oV4⟩ := store_new (P := Try.prog) q4 (cellsOf 32 (spansC (M.livesA (M.playB bk g o) (M.playG g o)))).toList (by simp [cellsOf_size]) (cellsOf_one (fun i _ => spansC_one _ i))
      have bV4 : Below w3.heap.size w3 V4 := On.toBelow (by have := hb4; have := hb4.size; go_grown) (by have := hb4.size; simp; omega) oV4 (by have := hb4.size; omega)
      have QB := hid (show Blk V4 w4.heap.size (cellsOf 32 (spansC (M.livesA (M.playB bk g o) (M.playG g o)))) 63 from by simpa using qV4)
      have QA4 := hid (QA3.out.after bV4)
      have X4 := hid (X3.out.after bV4)
      have K4 := hid (show Bk V4 w1.heap.size (M.playB bk g o) from Blk.after K3.out bV4)
      have B4 := hid (bl B3.out bV4)
      have l4 := bV4.size
      have ct := K4.out.tick
      have kl := Blk.lt K4.out
      clear hb4 q4 qV4 oV4 bV4 X3 K3 B3 QA3
      rcases pp.out with ⟨p1, p2⟩ | ⟨p1, p2, p3⟩
      · have D2 := hid p2
        clear p2 pp
        go_wp2_with fail
        clear st4
        go_wp2
        go_roundg (gk - 1)
        case measure => omega
        case rel => exact ⟨j + 1, M.playG g o, M.playB bk g o, by go_num, by omega, by omega, X4, K4, OF2, D2, B4, by omega⟩
      · have F2 := hid p2
        have D2 := hid p3
        have ldA := big_blk (P := Try.prog) (n := 32) QA4.out (cellsOf_size _ _)
        have ldB := big_blk (P := Try.prog) (n := 32) QB.out (cellsOf_size _ _)
        clear p2 p3 pp
        go_wp2_with fail
        clear st4 ldA ldB
        refine (bPaid_any w1.heap.size (M.playB bk g o) (M.livesA bk g) (M.livesA (M.playB bk g o) (M.playG g o)) V4 K4.out F2.out).mono ?_
        rintro e w5 ⟨rfl, hk5, ho5⟩
        have K5 := hid hk5
        have X5 := hid (X4.out.on ho5 (fun e => nkx e.symm) (fun k hk => rx.out k hk))
        have B5 := hid (On.toBelow B4.out (by omega) ho5 (by omega))
        have OF3 := hid (OF2.out.paid (M.livesA bk g) (M.livesA (M.playB bk g o) (M.playG g o)) 8)
        have l5 := ho5.size
        clear hk5 ho5 X4 K4 B4 QA4 QB F2 OF2 ct kl
        go_wp2
        go_roundg (gk - 1)
        case measure => omega
        case rel => exact ⟨j + 1, M.playG g o, _, by go_num, by omega, by omega, X5, K5, OF3, D2, B5, by omega⟩
    · have j1 : ¬ (j : Int) < (n : Int) := by omega
      go_wp2
      go_ret
      exact ⟨rfl, BW.out⟩

set_option maxRecDepth 100000 in
set_option maxHeartbeats 2000000 in
theorem paid_nil (w : World) : Calls Try.prog 7 #[.slice none 0 0] w fun e w' => e = .returned (.bool true) ∧ Below w.heap.size w w' := by
  have H0 := hid (fun W => sv_new M.z0S W (by decide) M.z0_err M.z0L M.z0_top (by decide) M.z0_cub)
  go_enter Try.func7, Try.ntmps7
  go_wp2_with fail
  refine (H0.out _).mono ?_
  rintro e w1 ⟨hb1, x, vx, rfl, hx, hsx, hvx⟩
  have B1 := hid hb1
  clear hb1 hsx hvx H0
  go_wp2_with fail
  refine wp_loop_rounds 1 ?_
  rw [rounds_succ]
  go_wp2
  go_ret
  exact ⟨rfl, by have := B1.out; have := B1.out.size; go_grown⟩

end Go.Proofs.Ytonmihojfcjmjab
