import Derived.Test.YtonmihojfcjmjabUh
import Derived.Test.YtonmihojfcjmjabBBk
import Derived.Deep.DeepCutAuto
import Derived.Deep.RegionHeld3
import Derived.OpenShut
/- Unseen. -/
namespace Go.Proofs.Ytonmihojfcjmjab
open Go.RowKit
set_option linter.unusedVariables false
attribute [local go_sem] cell_set_off cell_set_blk

theorem M.Un.start {a b : M.V3} (ha : M.InB M.cubeLo M.cubeHi a) (hb : M.InB M.cubeLo M.cubeHi b) (hx : 3596 ≤ b.x) : M.Un 0 ((M.PSeat.empty 0).give a) (M.duel a b) := by
  refine ⟨rfl, rfl, ⟨fun j => rfl, fun _ => ?_, fun _ => ?_, fun k => by cases k⟩, fun k hk => ?_, ?_⟩
  · show 3596 - 32 * ((0 : Nat) : Int) ≤ b.x; omega
  · show 3596 ≤ b.x; exact hx
  · unfold M.duel; rw [M.PGame.put_ne _ _ (by omega), M.PGame.put_ne _ _ (by omega)]; rfl
  · exact hb
theorem M.Un.alone {a : M.V3} (ha : M.InB M.cubeLo M.cubeHi a) : M.Un 0 ((M.PSeat.empty 0).give a) (M.PGame.fresh.put 0 ((M.PSeat.empty 0).give a)) := by
  refine ⟨rfl, by rw [M.PGame.put_at], ?_, fun k hk => by rw [M.PGame.put_ne _ _ (by omega)]; rfl, ?_⟩
  · rw [M.PGame.put_ne _ _ (by decide)]
    exact ⟨fun j => rfl, fun k => (by cases k), fun k => (by cases k), fun _ => rfl⟩
  · rw [M.PGame.put_ne _ _ (by decide)]
    exact ⟨by decide, by decide, by decide, by decide, by decide, by decide⟩
theorem M.Own.start {a : M.V3} (ha : M.InB M.cubeLo M.cubeHi a) (hx : a.x ≤ 500) : M.Own 0 ((M.PSeat.empty 0).give a) := ⟨rfl, rfl, by show a.x ≤ 500 + 32 * ((0 : Nat) : Int); omega, ha⟩

section
variable {b : Nat} {v : Value} {ls : List M.Lf} {ps : Nat → Bool} {g : M.PGame} {w : World} {i : Nat} {s : M.PSeat}
theorem un_packet0 (h : Sv w b v ls ps g) (hu : M.Un i s g) (ho : M.Own i s) (p : ByteArray) (hs : p.size ≤ maxLen) (r : Int) (s2 : M.PSeat) (hP : Hid (M.packS s (M.decR p) (M.decE p) = (r, s2))) :
    Calls Try.prog 16 #[.pointer (some ⟨b, 0, none⟩), .int .i64 0, .string p] w fun e w' => e = .returned (.int .i64 r) ∧ (∃ g2, Sv w' b v ls ps g2 ∧ M.Un i s2 g2) ∧ On b w w' := by
  have k := hu.packet0 ho (M.decR p) (M.decE p)
  rw [hP.out] at k
  refine (sv_packet h 0 p hs (r, (g.packet 0 (M.decR p) (M.decE p)).2) (hid (Prod.ext k.1 rfl))).mono ?_
  rintro e w' ⟨rfl, h1, h2⟩
  exact ⟨rfl, ⟨_, h1, k.2⟩, h2⟩
theorem un_packet1 (h : Sv w b v ls ps g) (hu : M.Un i s g) (p : ByteArray) (hs : p.size ≤ maxLen) (hf : (M.decR p).fire = false) :
    Calls Try.prog 16 #[.pointer (some ⟨b, 0, none⟩), .int .i64 1, .string p] w fun e w' => (∃ r : Int, e = .returned (.int .i64 r)) ∧ (∃ g2, Sv w' b v ls ps g2 ∧ M.Un i s g2) ∧ On b w w' := by
  refine (sv_packet h 1 p hs _ rfl).mono ?_
  rintro e w' ⟨rfl, h1, h2⟩
  exact ⟨⟨_, rfl⟩, ⟨_, h1, hu.packet1 _ _ hf⟩, h2⟩
theorem un_tick (h : Sv w b v ls ps g) (hu : M.Un i s g) (ho : M.Own i s) (hi : i < 30) (s2 : M.PSeat) (hs : Hid (M.nextS ls i s = s2)) :
    Calls Try.prog 18 #[.pointer (some ⟨b, 0, none⟩)] w fun e w' => e = .returned (.int .i64 0) ∧ (∃ g2, Sv w' b v ls ps g2 ∧ M.Un (i + 1) s2 g2) ∧ On b w w' := by
  have k := hu.step ho h.ok hi ls
  rw [hs.out] at k
  refine (sv_tick h (0, (g.step ls).2) (hid (Prod.ext k.1 rfl))).mono ?_
  rintro e w' ⟨rfl, h1, h2⟩
  exact ⟨rfl, ⟨_, h1, k.2⟩, h2⟩
end

set_option maxRecDepth 100000 in
set_option maxHeartbeats 8000000 in
theorem unseen_any (p q : M.V3) (o : Option Addr) (n cap : Nat) (ss : Nat → ByteArray) (o2 : Option Addr) (n2 cap2 : Nat) (ss2 : Nat → ByteArray) (w : World) (hM : SRow w o n ss) (hT : SRow w o2 n2 ss2) (hn : n ≤ maxLen) (hn2 : n2 ≤ maxLen) (hp : M.Fit p) (hq : M.Fit q) :
    Calls Try.prog 4 #[.agg #[.int .i64 p.x, .int .i64 p.y, .int .i64 p.z], .agg #[.int .i64 q.x, .int .i64 q.y, .int .i64 q.z], .slice o n cap, .slice o2 n2 cap2] w fun e w' => e = .returned (.bool true) ∧ Below w.heap.size w w' := by
  have FP := hid hp
  have FQ := hid hq
  have SM := hid hM
  have ST := hid hT
  have N2 := hid hn2
  unfold maxLen at hn
  clear hp hq hM hT hn2
  have H2 := hid (fun A B (ia : M.InB M.cubeLo M.cubeHi A) (ib : M.InB M.cubeLo M.cubeHi B) W => pairOf_sv M.z0S A B W (by decide) M.z0_err M.z0L M.z0_top (by decide) M.z0_cub (M.z0_can ia) (M.z0_can ib))
  have H0 := hid (fun W => sv_new M.z0S W (by decide) M.z0_err M.z0L M.z0_top (by decide) M.z0_cub)
  have bp1 := hid (M.pickN_bd p.x 501 (by omega))
  have bp2 := hid (M.pickN_bd p.y 4097 (by omega))
  have bp3 := hid (M.pickN_bd p.z 4097 (by omega))
  have bq1 := hid (M.pickN_bd q.x 501 (by omega))
  have bq2 := hid (M.pickN_bd q.y 4097 (by omega))
  have bq3 := hid (M.pickN_bd q.z 4097 (by omega))
  obtain ⟨W1, hW1⟩ : ∃ W, (w.alloc (.cells #[.int .i64 p.x, .int .i64 p.y, .int .i64 p.z] 33)).alloc (.cells #[.int .i64 q.x, .int .i64 q.y, .int .i64 q.z] 33) = W := ⟨_, rfl⟩
  have Q0 := hid (show Blk W1 w.heap.size #[.int .i64 p.x, .int .i64 p.y, .int .i64 p.z] 33 from hW1 ▸ (Blk.new rfl).alloc)
  have Q1 := hid (show Blk W1 (w.heap.size + 1) #[.int .i64 q.x, .int .i64 q.y, .int .i64 q.z] 33 from hW1 ▸ Blk.new (by simp))
  have BW1 := hid (show Below w.heap.size w W1 from hW1 ▸ (by go_grown))
  have lw1 : w.heap.size + 2 ≤ W1.heap.size := by rw [← hW1]; simp
  obtain ⟨a0, a1, a2, af, al⟩ := Q0.out.three
  obtain ⟨c0, c1, c2, cf, cl⟩ := Q1.out.three
  go_enter Try.func4, Try.ntmps4
  go_upto_region 1 with fail
  try rw [hW1]
  clear hW1
  go_cut [9] (fun c wx => c = .pointer (some ⟨W1.heap.size, 0, none⟩) ∧ wx = (W1.alloc (.cells #[.int .i64 (M.pickN p.x 501), .int .i64 (M.pickN p.y 4097), .int .i64 (M.pickN p.z 4097)] 33)).drew)
  case first =>
    go_region_held3 (fun w' => w'.cell? ⟨w.heap.size, 0, none⟩ = some (.int .i64 p.x) ∧ w'.cell? ⟨w.heap.size, 1, none⟩ = some (.int .i64 p.y) ∧ w'.cell? ⟨w.heap.size, 2, none⟩ = some (.int .i64 p.z)) (go_keep)
      ((go_at_call 13; refine (kpick_v _ _ _ (by first | exact ⟨FP.out.x1, FP.out.x2⟩ | exact ⟨FP.out.y1, FP.out.y2⟩ | exact ⟨FP.out.z1, FP.out.z2⟩) ⟨by omega, by omega⟩).mono ?_; rintro e wz ⟨rfl, rfl⟩))
    all_goals (go_wp2_with fail; go_meet; exact ⟨rfl, rfl⟩)
  case rest =>
    obtain ⟨rfl, rfl⟩ := hcut
    obtain ⟨A, hA⟩ : ∃ A : M.V3, A = ⟨M.pickN p.x 501, M.pickN p.y 4097, M.pickN p.z 4097⟩ := ⟨_, rfl⟩
    have IA := hid (show M.InB M.cubeLo M.cubeHi A from by rw [hA]; exact ⟨bp1.out.1, by show M.pickN p.x 501 ≤ 4096; have := bp1.out.2; omega, bp2.out.1, by show M.pickN p.y 4097 ≤ 4096; have := bp2.out.2; omega, bp3.out.1, by show M.pickN p.z 4097 ≤ 4096; have := bp3.out.2; omega⟩)
    have AX := hid (show A.x ≤ 500 from by rw [hA]; show M.pickN p.x 501 ≤ 500; have := bp1.out.2; omega)
    rw [show M.pickN p.x 501 = A.x from by rw [hA], show M.pickN p.y 4097 = A.y from by rw [hA], show M.pickN p.z 4097 = A.z from by rw [hA]]
    clear hA bp1 bp2 bp3 FP
    obtain ⟨V1, hV1⟩ : ∃ V, (W1.alloc (.cells #[.int .i64 A.x, .int .i64 A.y, .int .i64 A.z] 33)).drew = V := ⟨_, rfl⟩
    have QA := hid (show Blk V1 W1.heap.size #[.int .i64 A.x, .int .i64 A.y, .int .i64 A.z] 33 from by rw [← hV1]; exact (Blk.new rfl).drew)
    have QQ := hid (show Blk V1 (w.heap.size + 1) #[.int .i64 q.x, .int .i64 q.y, .int .i64 q.z] 33 from by rw [← hV1]; exact (Q1.out.alloc).drew)
    have BV1 := hid (show Below w.heap.size w V1 from by rw [← hV1]; exact ((BW1.out).alloc (by have := BW1.out.size; omega) _).drew)
    have lv1 : W1.heap.size < V1.heap.size := QA.out.lt
    rw [hV1]
    clear hV1 a0 a1 a2 af al c0 c1 c2 cf cl Q0 Q1 BW1
    obtain ⟨c0, c1, c2, cf, cl⟩ := QQ.out.three
    go_upto_region 2 with fail
    go_cut [10] (fun c wx => c = .pointer (some ⟨V1.heap.size, 0, none⟩) ∧ wx = (V1.alloc (.cells #[.int .i64 (4096 - M.pickN q.x 501), .int .i64 (M.pickN q.y 4097), .int .i64 (M.pickN q.z 4097)] 33)).drew)
    case first =>
      have bq10 := bq1.out.1
      have bq11 := bq1.out.2
      have WR := hid (show IntKind.i64.wrap (4096 - M.pickN q.x 501) = 4096 - M.pickN q.x 501 from IntWalk.i64_in _ ⟨by omega, by omega⟩)
      go_region_held3 (fun w' => w'.cell? ⟨w.heap.size + 1, 0, none⟩ = some (.int .i64 q.x) ∧ w'.cell? ⟨w.heap.size + 1, 1, none⟩ = some (.int .i64 q.y) ∧ w'.cell? ⟨w.heap.size + 1, 2, none⟩ = some (.int .i64 q.z)) (go_keep)
        ((go_at_call 13; refine (kpick_v _ _ _ (by first | exact ⟨FQ.out.x1, FQ.out.x2⟩ | exact ⟨FQ.out.y1, FQ.out.y2⟩ | exact ⟨FQ.out.z1, FQ.out.z2⟩) ⟨by omega, by omega⟩).mono ?_; rintro e wz ⟨rfl, rfl⟩))
      all_goals (go_wp2_with fail; go_meet; exact ⟨rfl, by rw [WR.out]⟩)
    case rest =>
      obtain ⟨rfl, rfl⟩ := hcut
      obtain ⟨B, hB⟩ : ∃ B : M.V3, B = ⟨4096 - M.pickN q.x 501, M.pickN q.y 4097, M.pickN q.z 4097⟩ := ⟨_, rfl⟩
      have IB := hid (show M.InB M.cubeLo M.cubeHi B from by rw [hB]; exact ⟨by show 0 ≤ 4096 - M.pickN q.x 501; have := bq1.out.2; omega, by show 4096 - M.pickN q.x 501 ≤ 4096; have := bq1.out.1; omega, bq2.out.1, by show M.pickN q.y 4097 ≤ 4096; have := bq2.out.2; omega, bq3.out.1, by show M.pickN q.z 4097 ≤ 4096; have := bq3.out.2; omega⟩)
      have BX := hid (show 3596 ≤ B.x from by rw [hB]; show 3596 ≤ 4096 - M.pickN q.x 501; have := bq1.out.2; omega)
      rw [show 4096 - M.pickN q.x 501 = B.x from by rw [hB], show M.pickN q.y 4097 = B.y from by rw [hB], show M.pickN q.z 4097 = B.z from by rw [hB]]
      clear hB bq1 bq2 bq3 FQ
      obtain ⟨V2, hV2⟩ : ∃ V, (V1.alloc (.cells #[.int .i64 B.x, .int .i64 B.y, .int .i64 B.z] 33)).drew = V := ⟨_, rfl⟩
      have QB := hid (show Blk V2 V1.heap.size #[.int .i64 B.x, .int .i64 B.y, .int .i64 B.z] 33 from by rw [← hV2]; exact (Blk.new rfl).drew)
      have QA2 := hid (show Blk V2 W1.heap.size #[.int .i64 A.x, .int .i64 A.y, .int .i64 A.z] 33 from by rw [← hV2]; exact (QA.out.alloc).drew)
      have BV2 := hid (show Below w.heap.size w V2 from by rw [← hV2]; exact ((BV1.out).alloc (by have := BV1.out.size; omega) _).drew)
      have lv2 : V1.heap.size < V2.heap.size := QB.out.lt
      rw [hV2]
      clear hV2 c0 c1 c2 cf cl QQ QA BV1
      obtain ⟨a0, a1, a2, af, al⟩ := QA2.out.three
      obtain ⟨c0, c1, c2, cf, cl⟩ := QB.out.three
      go_wp2_with fail
      refine (H2.out A B IA.out IB.out _).mono ?_
      rintro e w1 ⟨hb1, x, vx, rfl, hx, hsx, hvx⟩
      have B1 := hid (bl BV2.out hb1)
      have X1 := hid hsx
      have HVX := hid hvx
      have lx := hsx.pg.lt
      have lrx := hid (fun k (hk : vx.ownBlock = some k) => own_lt hsx.own hk)
      have s1 := hb1.size
      have QA3 := hid (QA2.out.after hb1)
      have QB3 := hid (QB.out.after hb1)
      clear hb1 hsx hvx BV2 a0 a1 a2 af al c0 c1 c2 cf cl QA2 QB
      obtain ⟨a0, a1, a2, af, al⟩ := QA3.out.three
      obtain ⟨c0, c1, c2, cf, cl⟩ := QB3.out.three
      go_wp2_with fail
      refine (H2.out A B IA.out IB.out _).mono ?_
      rintro e w2 ⟨hb2, y, vy, rfl, hy, hsy, hvy⟩
      have B2 := hid (bl B1.out hb2)
      have X2 := hid (X1.out.after hb2)
      have Y2 := hid hsy
      have HVY := hid hvy
      have ly := hsy.pg.lt
      have lry := hid (fun k (hk : vy.ownBlock = some k) => own_lt hsy.own hk)
      have s2 := hb2.size
      have QA4 := hid (QA3.out.after hb2)
      clear hb2 hsy hvy B1 X1 a0 a1 a2 af al c0 c1 c2 cf cl QA3 QB3
      obtain ⟨a0, a1, a2, af, al⟩ := QA4.out.three
      go_wp2_with fail
      refine (H0.out _).mono ?_
      rintro e w3 ⟨hb3, z, vz, rfl, hz, hsz, hvz⟩
      have B3 := hid (bl B2.out hb3)
      have X3 := hid (X2.out.after hb3)
      have Y3 := hid (Y2.out.after hb3)
      have Z3 := hid hsz
      have HVZ := hid hvz
      have lz := hsz.pg.lt
      have lrz := hid (fun k (hk : vz.ownBlock = some k) => own_lt hsz.own hk)
      have s3 := hb3.size
      have QA5 := hid (QA4.out.after hb3)
      clear hb3 hsz hvz B2 X2 Y2 a0 a1 a2 af al QA4 H0 H2
      obtain ⟨a0, a1, a2, af, al⟩ := QA5.out.three
      have sx := s1
      go_wp2_with fail
      refine (sv_connect Z3.out A (0, 0, M.PGame.fresh.put 0 ((M.PSeat.empty 0).give A)) (hid (by rw [M.z0_can IA.out]; rfl))).mono ?_
      rintro e w4 ⟨rfl, hs4, ho4⟩
      have X4 := hid (X3.out.on ho4 (by omega) (fun k hk => by have := lrx.out k hk; omega))
      have Y4 := hid (Y3.out.on ho4 (by omega) (fun k hk => by have := lry.out k hk; omega))
      have Z4 := hid hs4
      have B4 := hid (On.toBelow B3.out (by omega) ho4 (by omega))
      have s4 := ho4.size
      clear hs4 ho4 X3 Y3 Z3 B3 a0 a1 a2 af al QA5
      go_wp2_with fail
      go_loopg [17, 18, 19, 20, 21, 22, 23, 24, 25, 26] 31 (fun m u17 u18 u19 u20 u21 u22 u23 u24 u25 u26 wr => ∃ (j : Nat) (s : M.PSeat) (gx gy gz : M.PGame), u17 = .int .i64 j ∧ j ≤ n ∧ j ≤ 30 ∧ m + j = 31 ∧ Hid (Sv wr x vx M.z0L (M.prs M.z0S) gx) ∧ Hid (Sv wr y vy M.z0L (M.prs M.z0S) gy) ∧ Hid (Sv wr z vz M.z0L (M.prs M.z0S) gz) ∧ Hid (M.Un j s gx) ∧ Hid (M.Un j s gy) ∧ Hid (M.Un j s gz) ∧ Hid (M.Own j s) ∧ Hid (Below w.heap.size w wr) ∧ w4.heap.size ≤ wr.heap.size)
      case atStart =>
        exact ⟨0, _, _, _, _, rfl, by omega, by omega, by omega, X4, Y4, Z4, hid (M.Un.start IA.out IB.out BX.out), hid (M.Un.start IA.out IB.out BX.out), hid (M.Un.alone IA.out), hid (M.Own.start IA.out AX.out), B4, by omega⟩
      case round =>
        clear X4 Y4 Z4 B4 IA IB AX BX
        obtain ⟨j, s, gx, gy, gz, rfl, hj, hj30, hm, XJ, YJ, ZJ, UX, UY, UZ, OW, BW, lw⟩ := hrel
        have nxy : x ≠ y := by omega
        have nxz : x ≠ z := by omega
        have nyz : y ≠ z := by omega
        have rx : Hid (∀ k, vx.ownBlock = some k → k ≠ y ∧ k ≠ z) := fun k hk => by have := lrx.out k hk; exact ⟨by omega, by omega⟩
        have ry : Hid (∀ k, vy.ownBlock = some k → k ≠ x ∧ k ≠ z) := fun k hk => by have := lry.out k hk; have := HVY.out k hk; exact ⟨by omega, by omega⟩
        have rz : Hid (∀ k, vz.ownBlock = some k → k ≠ x ∧ k ≠ y) := fun k hk => by have := lrz.out k hk; have := HVZ.out k hk; exact ⟨by omega, by omega⟩
        by_cases hlt : j < n
        · have j1 : (j : Int) < (n : Int) := by omega
          by_cases h30 : j < 30
          · obtain ⟨a, ho, hc⟩ : ∃ a, o = some a ∧ ∀ i, i < n → w.cell? (a.add i) = some (.string (ss i)) ∧ (ss i).size ≤ maxLen := by
              rcases SM.out with h | h
              · omega
              · exact h
            subst ho
            have j2 : (j : Int) < 30 := by omega
            have j0 : 0 ≤ (j : Int) := by omega
            obtain ⟨cj, sz⟩ := hc j hlt
            have CJ := hid cj
            have SZ := hid sz
            have ab := hid (World.block_lt_of_cell? w _ cj)
            have CW : Hid (∀ W, Below w.heap.size w W → W.cell? (a.add j) = some (.string (ss j))) := fun W hb => by
              rw [← CJ.out]; exact World.cell?_of_block (hb.block _ ab.out)
            clear hc cj sz SM
            obtain ⟨P, hP⟩ : ∃ P, M.packS s (M.decR (ss j)) (M.decE (ss j)) = P := ⟨_, rfl⟩
            obtain ⟨r, s2⟩ := P
            have HP := hid hP
            have OW2 := hid (show M.Own j s2 from by have := OW.out.pack (M.decR (ss j)) (M.decE (ss j)); rw [hP] at this; exact this)
            obtain ⟨s3, hs3⟩ : ∃ s3, M.nextS M.z0L j s2 = s3 := ⟨_, rfl⟩
            have HS3 := hid hs3
            have OW3 := hid (show M.Own (j + 1) s3 from hs3 ▸ OW2.out.next M.z0L)
            clear hP hs3
            have c := CW.out _ BW.out
            go_wp2_with fail
            refine (un_packet0 XJ.out UX.out OW.out (ss j) SZ.out r s2 HP).mono ?_
            rintro e v1 ⟨rfl, ⟨gx1, hs1, hu1⟩, ho1⟩
            have X1 := hid hs1
            have UX1 := hid hu1
            have Y1 := hid (YJ.out.on ho1 (fun e => nxy e.symm) (fun k hk => (ry.out k hk).1))
            have Z1 := hid (ZJ.out.on ho1 (fun e => nxz e.symm) (fun k hk => (rz.out k hk).1))
            have B1 := hid (On.toBelow BW.out (by omega) ho1 (by omega))
            have l1 := ho1.size
            clear hs1 hu1 ho1 XJ YJ ZJ UX BW c
            have c := CW.out _ B1.out
            go_wp2_with fail
            refine (un_packet0 Y1.out UY.out OW.out (ss j) SZ.out r s2 HP).mono ?_
            rintro e v2 ⟨rfl, ⟨gy1, hs1, hu1⟩, ho1⟩
            have Y2 := hid hs1
            have UY2 := hid hu1
            have X2 := hid (X1.out.on ho1 nxy (fun k hk => (rx.out k hk).1))
            have Z2 := hid (Z1.out.on ho1 (fun e => nyz e.symm) (fun k hk => (rz.out k hk).2))
            have B2 := hid (On.toBelow B1.out (by omega) ho1 (by omega))
            have l2 := ho1.size
            clear hs1 hu1 ho1 X1 Y1 Z1 UY B1 c
            have c := CW.out _ B2.out
            go_wp2_with fail
            refine (un_packet0 Z2.out UZ.out OW.out (ss j) SZ.out r s2 HP).mono ?_
            rintro e v3 ⟨rfl, ⟨gz1, hs1, hu1⟩, ho1⟩
            have Z3 := hid hs1
            have UZ3 := hid hu1
            have X3 := hid (X2.out.on ho1 nxz (fun k hk => (rx.out k hk).2))
            have Y3 := hid (Y2.out.on ho1 nyz (fun k hk => (ry.out k hk).2))
            have B3 := hid (On.toBelow B2.out (by omega) ho1 (by omega))
            have l3 := ho1.size
            clear hs1 hu1 ho1 X2 Y2 Z2 UZ B2 c HP
            go_wp2_with fail
            refine (theirsAt_any o2 n2 cap2 ss2 j _ (ST.out.below B3.out (Nat.le_refl _)) N2.out (by omega)).mono ?_
            rintro e v4 ⟨⟨t, rfl, ht1, ht2⟩, hb⟩
            have T1 := hid ht1
            have T2 := hid ht2
            have X4 := hid (X3.out.after hb)
            have Y4 := hid (Y3.out.after hb)
            have Z4 := hid (Z3.out.after hb)
            have B4 := hid (bl B3.out hb)
            have l4 := hb.size
            clear hb ht1 ht2 X3 Y3 Z3 B3
            go_wp2_with fail
            refine (un_packet1 X4.out UX1.out t T1.out T2.out).mono ?_
            rintro e v5 ⟨⟨r1, rfl⟩, ⟨gx2, hs1, hu1⟩, ho1⟩
            have X5 := hid hs1
            have UX5 := hid hu1
            have Y5 := hid (Y4.out.on ho1 (fun e => nxy e.symm) (fun k hk => (ry.out k hk).1))
            have Z5 := hid (Z4.out.on ho1 (fun e => nxz e.symm) (fun k hk => (rz.out k hk).1))
            have B5 := hid (On.toBelow B4.out (by omega) ho1 (by omega))
            have l5 := ho1.size
            clear hs1 hu1 ho1 X4 Y4 Z4 UX1 B4 T1 T2
            go_wp2_with fail
            refine (un_tick X5.out UX5.out OW2.out h30 s3 HS3).mono ?_
            rintro e v6 ⟨rfl, ⟨gx3, hs1, hu1⟩, ho1⟩
            have X6 := hid hs1
            have UX6 := hid hu1
            have Y6 := hid (Y5.out.on ho1 (fun e => nxy e.symm) (fun k hk => (ry.out k hk).1))
            have Z6 := hid (Z5.out.on ho1 (fun e => nxz e.symm) (fun k hk => (rz.out k hk).1))
            have B6 := hid (On.toBelow B5.out (by omega) ho1 (by omega))
            have l6 := ho1.size
            clear hs1 hu1 ho1 X5 Y5 Z5 UX5 B5
            go_wp2_with fail
            refine (un_tick Y6.out UY2.out OW2.out h30 s3 HS3).mono ?_
            rintro e v7 ⟨rfl, ⟨gy3, hs1, hu1⟩, ho1⟩
            have Y7 := hid hs1
            have UY7 := hid hu1
            have X7 := hid (X6.out.on ho1 nxy (fun k hk => (rx.out k hk).1))
            have Z7 := hid (Z6.out.on ho1 (fun e => nyz e.symm) (fun k hk => (rz.out k hk).2))
            have B7 := hid (On.toBelow B6.out (by omega) ho1 (by omega))
            have l7 := ho1.size
            clear hs1 hu1 ho1 X6 Y6 Z6 UY2 B6
            go_wp2_with fail
            refine (un_tick Z7.out UZ3.out OW2.out h30 s3 HS3).mono ?_
            rintro e v8 ⟨rfl, ⟨gz3, hs1, hu1⟩, ho1⟩
            have Z8 := hid hs1
            have UZ8 := hid hu1
            have X8 := hid (X7.out.on ho1 nxz (fun k hk => (rx.out k hk).2))
            have Y8 := hid (Y7.out.on ho1 nyz (fun k hk => (ry.out k hk).2))
            have B8 := hid (On.toBelow B7.out (by omega) ho1 (by omega))
            have l8 := ho1.size
            clear hs1 hu1 ho1 X7 Y7 Z7 UZ3 B7
            have KS : Hid (∀ (b : Nat) (v : Value) (g : M.PGame) (W : World), Sv W b v M.z0L (M.prs M.z0S) g → M.Un (j + 1) s3 g → Calls Try.prog 19 #[.pointer (some ⟨b, 0, none⟩), .int .i64 ((j : Int) + 1)] W fun e w' => e = .returned (.tuple #[.string ⟨(M.snap0 (j + 1) s3).toArray⟩, .bool true]) ∧ Below W.heap.size W w') := fun b v g W h1 h2 => ksees_any b v M.z0L (M.prs M.z0S) g (j + 1) s3 W h1 h2 OW3.out (by omega)
            generalize (⟨(M.snap0 (j + 1) s3).toArray⟩ : ByteArray) = S at KS
            go_wp2_with fail
            refine (KS.out x vx gx3 _ X8.out UX6.out).mono ?_
            rintro e v9 ⟨rfl, hb⟩
            have X9 := hid (X8.out.after hb)
            have Y9 := hid (Y8.out.after hb)
            have Z9 := hid (Z8.out.after hb)
            have B9 := hid (bl B8.out hb)
            have l9 := hb.size
            clear hb X8 Y8 Z8 B8
            go_wp2_with fail
            refine (KS.out y vy gy3 _ Y9.out UY7.out).mono ?_
            rintro e v10 ⟨rfl, hb⟩
            have X10 := hid (X9.out.after hb)
            have Y10 := hid (Y9.out.after hb)
            have Z10 := hid (Z9.out.after hb)
            have B10 := hid (bl B9.out hb)
            have l10 := hb.size
            clear hb X9 Y9 Z9 B9
            go_wp2_with fail
            refine (KS.out z vz gz3 _ Z10.out UZ8.out).mono ?_
            rintro e v11 ⟨rfl, hb⟩
            have X11 := hid (X10.out.after hb)
            have Y11 := hid (Y10.out.after hb)
            have Z11 := hid (Z10.out.after hb)
            have B11 := hid (bl B10.out hb)
            have l11 := hb.size
            clear hb X10 Y10 Z10 B10 KS
            go_wp2
            go_roundg (gk - 1)
            case measure => omega
            case rel => exact ⟨j + 1, s3, gx3, gy3, gz3, by go_num, by omega, by omega, by omega, X11, Y11, Z11, UX6, UY7, UZ8, OW3, B11, by omega⟩
          · have j2 : ¬ (j : Int) < 30 := by omega
            go_wp2
            go_ret
            exact ⟨rfl, BW.out⟩
        · have j1 : ¬ (j : Int) < (n : Int) := by omega
          go_wp2
          go_ret
          exact ⟨rfl, BW.out⟩

end Go.Proofs.Ytonmihojfcjmjab
