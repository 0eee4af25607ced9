import Derived.Test.YtonmihojfcjmjabBSh
import Derived.Deep.RegionHeld3
import Derived.Deep.DeepCutAuto
/- Contracts of the program's shots: a player is entered. -/
namespace Go.Proofs.Ytonmihojfcjmjab
open Go.RowKit
set_option linter.unusedVariables false
attribute [local go_sem] cell_set_off cell_set_blk
attribute [local go_sem ↓] big65 big65'

theorem Blk.seven7 {W : World} {b : Nat} {x0 x1 x2 x3 x4 x5 x6 : Value} {t : TypeId} (h : Blk W b #[x0, x1, x2, x3, x4, x5, x6] t) :
    W.cell? ⟨b, 0, none⟩ = some x0 ∧ W.cell? ⟨b, 1, none⟩ = some x1 ∧ W.cell? ⟨b, 2, none⟩ = some x2 ∧ W.cell? ⟨b, 3, none⟩ = some x3 ∧ W.cell? ⟨b, 4, none⟩ = some x4 ∧ W.cell? ⟨b, 5, none⟩ = some x5 ∧ W.cell? ⟨b, 6, none⟩ = some x6 ∧
    (∀ i, W.frozen? ⟨b, i, none⟩ = false) ∧ b < W.heap.size :=
  ⟨h.cell 0, h.cell 1, h.cell 2, h.cell 3, h.cell 4, h.cell 5, h.cell 6, h.frozen, h.lt⟩

set_option maxRecDepth 100000 in
set_option maxHeartbeats 4000000 in
theorem shEnter_any (p d q : M.V3) (t : Int) (w : World) (hp : p.Near) (hd : d.Near) (hq : M.InB M.cubeLo M.cubeHi q) (h : M.Hit) (hh : Hid (M.hitAt p d q = h)) :
    Calls Try.prog 89 #[.agg #[.int .i64 p.x, .int .i64 p.y, .int .i64 p.z, .int .i64 d.x, .int .i64 d.y, .int .i64 d.z, .int .i64 t], .agg #[.int .i64 q.x, .int .i64 q.y, .int .i64 q.z]] w fun e w' => e = .returned (hitV h) ∧ Below w.heap.size w w' := by
  obtain ⟨b1, hb1⟩ : ∃ x, M.boxHit p d (M.headLo q) (M.headHi q) 60 = x := ⟨_, rfl⟩
  obtain ⟨b2, hb2⟩ : ∃ x, M.boxHit p d (M.bodyLo q) (M.bodyHi q) 25 = x := ⟨_, rfl⟩
  obtain ⟨B, hB⟩ : ∃ B, M.Hit.ahead b2 b1 = B := ⟨_, rfl⟩
  have E : Hid (h = if B = true then b2 else b1) := by unfold Hid; rw [← hh.out]; unfold M.hitAt; rw [hb1, hb2, hB]
  have O1 := hid (show HitOk b1 from hb1 ▸ boxHit_ok _ _ _ _ _)
  have O2 := hid (show HitOk b2 from hb2 ▸ boxHit_ok _ _ _ _ _)
  obtain ⟨n1, n2, n3, n4⟩ := near_lo hq
  have H1 := hid (fun W => enterBox_any p d (M.headLo q) (M.headHi q) t 60 W hp hd n3 n4 b1 hb1)
  have H2 := hid (fun W => enterBox_any p d (M.bodyLo q) (M.bodyHi q) t 25 W hp hd n1 n2 b2 hb2)
  have H3 := hid (fun W => ahead_any b2 b1 W O2.out O1.out B hB)
  have K1 := hid (fun W => headOf_any q W hq)
  have K2 := hid (fun W => bodyOf_any q W hq)
  obtain ⟨s1, x1, x2, x3, e1⟩ := hitV_lit b1
  obtain ⟨s2, y1, y2, y3, e2⟩ := hitV_lit b2
  rw [e1] at H1 H3
  rw [e2] at H2 H3
  have E1 := hid e1
  have E2 := hid e2
  generalize hl1 : M.headLo q = l1 at *
  generalize hl2 : M.headHi q = l2 at *
  generalize hl3 : M.bodyLo q = l3 at *
  generalize hl4 : M.bodyHi q = l4 at *
  clear hp hd hq hb1 hb2 hB hh n1 n2 n3 n4 e1 e2 hl1 hl2 hl3 hl4 O1 O2
  go_enter Try.func89, Try.ntmps89
  go_upto_region 1 with fail
  obtain ⟨V, hV⟩ : ∃ V, ((w.alloc (.cells #[.int .i64 p.x, .int .i64 p.y, .int .i64 p.z, .int .i64 d.x, .int .i64 d.y, .int .i64 d.z, .int .i64 t] 138)).alloc (.cells #[.int .i64 q.x, .int .i64 q.y, .int .i64 q.z] 33)).alloc (.cells #[.bool false, .int .i64 0, .int .i64 0, .int .i64 0] 142) = V := ⟨_, rfl⟩
  have QS := hid (show Blk V w.heap.size #[.int .i64 p.x, .int .i64 p.y, .int .i64 p.z, .int .i64 d.x, .int .i64 d.y, .int .i64 d.z, .int .i64 t] 138 from by rw [← hV]; exact (by repeat' (first | (with_reducible assumption) | (refine Blk.new ?_; (first | (simp; done) | rfl); done) | (with_reducible refine Blk.alloc ?_) | (with_reducible refine Blk.drew ?_) | (with_reducible refine Blk.drewN ?_))))
  have QP := hid (show Blk V (w.heap.size + 1) #[.int .i64 q.x, .int .i64 q.y, .int .i64 q.z] 33 from by rw [← hV]; exact (by repeat' (first | (with_reducible assumption) | (refine Blk.new ?_; (first | (simp; done) | rfl); done) | (with_reducible refine Blk.alloc ?_) | (with_reducible refine Blk.drew ?_) | (with_reducible refine Blk.drewN ?_))))
  have QR := hid (show Blk V (w.heap.size + 1 + 1) #[.bool false, .int .i64 0, .int .i64 0, .int .i64 0] 142 from by rw [← hV]; exact (by repeat' (first | (with_reducible assumption) | (refine Blk.new ?_; (first | (simp; done) | rfl); done) | (with_reducible refine Blk.alloc ?_) | (with_reducible refine Blk.drew ?_) | (with_reducible refine Blk.drewN ?_))))
  have BV := hid (show Below w.heap.size w V from by rw [← hV]; go_grown)
  have zV : w.heap.size + 3 ≤ V.heap.size := by rw [← hV]; simp
  rw [hV]
  clear hV
  obtain ⟨c0, c1, c2, c3, c4, c5, c6, cf, cl⟩ := QS.out.seven7
  obtain ⟨z0, z1, z2, zf, zl⟩ := QP.out.three
  have e3 : V.heap.size ≠ w.heap.size := by omega
  have e4 : V.heap.size ≠ w.heap.size + 1 := by omega
  go_cut [5] (fun c wx => ∃ gB : Nat, c = .pointer (some ⟨gB, 0, none⟩) ∧ V.heap.size ≤ gB ∧ Blk wx gB #[.bool s1, .int .i64 x1, .int .i64 x2, .int .i64 x3] 142 ∧ Below V.heap.size V wx)
  case first =>
    go_region_held3 (fun w' => (w'.cell? ⟨w.heap.size, 0, none⟩ = some (.int .i64 p.x) ∧ w'.cell? ⟨w.heap.size, 1, none⟩ = some (.int .i64 p.y) ∧ w'.cell? ⟨w.heap.size, 2, none⟩ = some (.int .i64 p.z) ∧ w'.cell? ⟨w.heap.size, 3, none⟩ = some (.int .i64 d.x) ∧ w'.cell? ⟨w.heap.size, 4, none⟩ = some (.int .i64 d.y) ∧ w'.cell? ⟨w.heap.size, 5, none⟩ = some (.int .i64 d.z) ∧ w'.cell? ⟨w.heap.size, 6, none⟩ = some (.int .i64 t)) ∧ w'.cell? ⟨w.heap.size + 1, 0, none⟩ = some (.int .i64 q.x) ∧ w'.cell? ⟨w.heap.size + 1, 1, none⟩ = some (.int .i64 q.y) ∧ w'.cell? ⟨w.heap.size + 1, 2, none⟩ = some (.int .i64 q.z)) (go_keep)
      (first | (go_at_call 101; refine (K1.out (V.alloc (.cells #[.bool false, .int .i64 0, .int .i64 0, .int .i64 0] 142)).drew).mono ?_; rintro e w2 ⟨rfl, hb2⟩; have B2 : Below V.heap.size V w2 := bl (by go_grown) hb2; obtain ⟨c0, c1, c2, c3, c4, c5, c6, cf, cl⟩ := (QS.out.after B2).seven7; obtain ⟨z0, z1, z2, zf, zl⟩ := (QP.out.after B2).three; have e1 : w2.heap.size ≠ w.heap.size := (by have := B2.size; omega); have e2 : w2.heap.size ≠ w.heap.size + 1 := (by have := B2.size; omega); have qg := (show Blk (V.alloc (.cells #[.bool false, .int .i64 0, .int .i64 0, .int .i64 0] 142)).drew V.heap.size #[.bool false, .int .i64 0, .int .i64 0, .int .i64 0] 142 from Blk.drew (Blk.new rfl)).after hb2; obtain ⟨g0, g1, g2, g3, gf, gl⟩ := qg.four) | (go_at_call 101; refine (K1.out V.drew).mono ?_; rintro e w2 ⟨rfl, hb2⟩; have B2 : Below V.heap.size V w2 := bl (by go_grown) hb2; obtain ⟨c0, c1, c2, c3, c4, c5, c6, cf, cl⟩ := (QS.out.after B2).seven7; obtain ⟨z0, z1, z2, zf, zl⟩ := (QP.out.after B2).three; have e1 : w2.heap.size ≠ w.heap.size := (by have := B2.size; omega); have e2 : w2.heap.size ≠ w.heap.size + 1 := (by have := B2.size; omega)) | (go_at_call 100; refine (H1.out (w2.alloc (.cells #[.bool false, .int .i64 0, .int .i64 0, .int .i64 0] 142))).mono ?_; rintro e w3 ⟨rfl, hb3⟩; have B3 : Below V.heap.size V w3 := bl (by have := B2.size; go_grown) hb3; obtain ⟨c0, c1, c2, c3, c4, c5, c6, cf, cl⟩ := (QS.out.after B3).seven7; obtain ⟨z0, z1, z2, zf, zl⟩ := (QP.out.after B3).three; have e1 : w3.heap.size ≠ w.heap.size := (by have := B3.size; omega); have e2 : w3.heap.size ≠ w.heap.size + 1 := (by have := B3.size; omega); have qh := (show Blk (w2.alloc (.cells #[.bool false, .int .i64 0, .int .i64 0, .int .i64 0] 142)) w2.heap.size #[.bool false, .int .i64 0, .int .i64 0, .int .i64 0] 142 from Blk.new rfl).after hb3; obtain ⟨h0, h1, h2, h3, hf, hl'⟩ := qh.four) | (go_at_call 100; refine (H1.out w2).mono ?_; rintro e w3 ⟨rfl, hb3⟩; have B3 : Below V.heap.size V w3 := bl (by have := B2.size; go_grown) hb3; obtain ⟨c0, c1, c2, c3, c4, c5, c6, cf, cl⟩ := (QS.out.after B3).seven7; obtain ⟨z0, z1, z2, zf, zl⟩ := (QP.out.after B3).three; have e1 : w3.heap.size ≠ w.heap.size := (by have := B3.size; omega); have e2 : w3.heap.size ≠ w.heap.size + 1 := (by have := B3.size; omega); have qh := qg.after hb3; obtain ⟨h0, h1, h2, h3, hf, hl'⟩ := qh.four) | (go_at_call 100; refine (H1.out w2).mono ?_; rintro e w3 ⟨rfl, hb3⟩; have B3 : Below V.heap.size V w3 := bl (by have := B2.size; go_grown) hb3; obtain ⟨c0, c1, c2, c3, c4, c5, c6, cf, cl⟩ := (QS.out.after B3).seven7; obtain ⟨z0, z1, z2, zf, zl⟩ := (QP.out.after B3).three; have e1 : w3.heap.size ≠ w.heap.size := (by have := B3.size; omega); have e2 : w3.heap.size ≠ w.heap.size + 1 := (by have := B3.size; omega)))
    all_goals
      go_wp2_with fail
      go_meet
      first
        | exact ⟨w3.heap.size, rfl, (by have := B3.size; omega), Blk.new rfl, by have := B3.size; go_grown⟩
        | exact ⟨_, rfl, (by first | exact Nat.le_refl _ | (have := B2.size; omega)), (((qh.set 0 _).set 1 _).set 2 _).set 3 _, by have := B2.size; have := B3.size; go_grown⟩
  case rest =>
    obtain ⟨gB, rfl, hgB, QG, BX⟩ := hcut
    generalize wc = X at *
    have QSX := hid (QS.out.after BX)
    have QPX := hid (QP.out.after BX)
    have QRX := hid (QR.out.after BX)
    have BXw := hid (bl BV.out BX)
    have zX : V.heap.size ≤ X.heap.size := BX.size
    have HG := hid QG
    have lgX := QG.lt
    clear QS QP QR BV BX QG c0 c1 c2 c3 c4 c5 c6 cf cl z0 z1 z2 zf zl e3 e4
    obtain ⟨c0, c1, c2, c3, c4, c5, c6, cf, cl⟩ := QSX.out.seven7
    obtain ⟨z0, z1, z2, zf, zl⟩ := QPX.out.three
    have e3 : X.heap.size ≠ w.heap.size := by omega
    have e4 : X.heap.size ≠ w.heap.size + 1 := by omega
    go_upto_region 2 with fail
    go_cut [6] (fun c wx => ∃ gB : Nat, c = .pointer (some ⟨gB, 0, none⟩) ∧ X.heap.size ≤ gB ∧ Blk wx gB #[.bool s2, .int .i64 y1, .int .i64 y2, .int .i64 y3] 142 ∧ Below X.heap.size X wx)
    case first =>
      go_region_held3 (fun w' => (w'.cell? ⟨w.heap.size, 0, none⟩ = some (.int .i64 p.x) ∧ w'.cell? ⟨w.heap.size, 1, none⟩ = some (.int .i64 p.y) ∧ w'.cell? ⟨w.heap.size, 2, none⟩ = some (.int .i64 p.z) ∧ w'.cell? ⟨w.heap.size, 3, none⟩ = some (.int .i64 d.x) ∧ w'.cell? ⟨w.heap.size, 4, none⟩ = some (.int .i64 d.y) ∧ w'.cell? ⟨w.heap.size, 5, none⟩ = some (.int .i64 d.z) ∧ w'.cell? ⟨w.heap.size, 6, none⟩ = some (.int .i64 t)) ∧ w'.cell? ⟨w.heap.size + 1, 0, none⟩ = some (.int .i64 q.x) ∧ w'.cell? ⟨w.heap.size + 1, 1, none⟩ = some (.int .i64 q.y) ∧ w'.cell? ⟨w.heap.size + 1, 2, none⟩ = some (.int .i64 q.z)) (go_keep)
        (first | (go_at_call 102; refine (K2.out (X.alloc (.cells #[.bool false, .int .i64 0, .int .i64 0, .int .i64 0] 142)).drew).mono ?_; rintro e w2 ⟨rfl, hb2⟩; have B2 : Below X.heap.size X w2 := bl (by go_grown) hb2; obtain ⟨c0, c1, c2, c3, c4, c5, c6, cf, cl⟩ := (QSX.out.after B2).seven7; obtain ⟨z0, z1, z2, zf, zl⟩ := (QPX.out.after B2).three; have e1 : w2.heap.size ≠ w.heap.size := (by have := B2.size; omega); have e2 : w2.heap.size ≠ w.heap.size + 1 := (by have := B2.size; omega); have qg := (show Blk (X.alloc (.cells #[.bool false, .int .i64 0, .int .i64 0, .int .i64 0] 142)).drew X.heap.size #[.bool false, .int .i64 0, .int .i64 0, .int .i64 0] 142 from Blk.drew (Blk.new rfl)).after hb2; obtain ⟨g0, g1, g2, g3, gf, gl⟩ := qg.four) | (go_at_call 102; refine (K2.out X.drew).mono ?_; rintro e w2 ⟨rfl, hb2⟩; have B2 : Below X.heap.size X w2 := bl (by go_grown) hb2; obtain ⟨c0, c1, c2, c3, c4, c5, c6, cf, cl⟩ := (QSX.out.after B2).seven7; obtain ⟨z0, z1, z2, zf, zl⟩ := (QPX.out.after B2).three; have e1 : w2.heap.size ≠ w.heap.size := (by have := B2.size; omega); have e2 : w2.heap.size ≠ w.heap.size + 1 := (by have := B2.size; omega)) | (go_at_call 100; refine (H2.out (w2.alloc (.cells #[.bool false, .int .i64 0, .int .i64 0, .int .i64 0] 142))).mono ?_; rintro e w3 ⟨rfl, hb3⟩; have B3 : Below X.heap.size X w3 := bl (by have := B2.size; go_grown) hb3; obtain ⟨c0, c1, c2, c3, c4, c5, c6, cf, cl⟩ := (QSX.out.after B3).seven7; obtain ⟨z0, z1, z2, zf, zl⟩ := (QPX.out.after B3).three; have e1 : w3.heap.size ≠ w.heap.size := (by have := B3.size; omega); have e2 : w3.heap.size ≠ w.heap.size + 1 := (by have := B3.size; omega); have qh := (show Blk (w2.alloc (.cells #[.bool false, .int .i64 0, .int .i64 0, .int .i64 0] 142)) w2.heap.size #[.bool false, .int .i64 0, .int .i64 0, .int .i64 0] 142 from Blk.new rfl).after hb3; obtain ⟨h0, h1, h2, h3, hf, hl'⟩ := qh.four) | (go_at_call 100; refine (H2.out w2).mono ?_; rintro e w3 ⟨rfl, hb3⟩; have B3 : Below X.heap.size X w3 := bl (by have := B2.size; go_grown) hb3; obtain ⟨c0, c1, c2, c3, c4, c5, c6, cf, cl⟩ := (QSX.out.after B3).seven7; obtain ⟨z0, z1, z2, zf, zl⟩ := (QPX.out.after B3).three; have e1 : w3.heap.size ≠ w.heap.size := (by have := B3.size; omega); have e2 : w3.heap.size ≠ w.heap.size + 1 := (by have := B3.size; omega); have qh := qg.after hb3; obtain ⟨h0, h1, h2, h3, hf, hl'⟩ := qh.four) | (go_at_call 100; refine (H2.out w2).mono ?_; rintro e w3 ⟨rfl, hb3⟩; have B3 : Below X.heap.size X w3 := bl (by have := B2.size; go_grown) hb3; obtain ⟨c0, c1, c2, c3, c4, c5, c6, cf, cl⟩ := (QSX.out.after B3).seven7; obtain ⟨z0, z1, z2, zf, zl⟩ := (QPX.out.after B3).three; have e1 : w3.heap.size ≠ w.heap.size := (by have := B3.size; omega); have e2 : w3.heap.size ≠ w.heap.size + 1 := (by have := B3.size; omega)))
      all_goals
        go_wp2_with fail
        go_meet
        first
          | exact ⟨w3.heap.size, rfl, (by have := B3.size; omega), Blk.new rfl, by have := B3.size; go_grown⟩
          | exact ⟨_, rfl, (by first | exact Nat.le_refl _ | (have := B2.size; omega)), (((qh.set 0 _).set 1 _).set 2 _).set 3 _, by have := B2.size; have := B3.size; go_grown⟩
    case rest =>
      obtain ⟨hB, rfl, hhB, QH, BY⟩ := hcut
      generalize wc = Y at *
      have QRY := hid (QRX.out.after BY)
      have QGY := hid (HG.out.after BY)
      have HH := hid QH
      have BYw := hid (bl BXw.out BY)
      have zY := BY.size
      have lhY := QH.lt
      clear QSX QPX QRX HG BXw BY QH c0 c1 c2 c3 c4 c5 c6 cf cl z0 z1 z2 zf zl e3 e4 H1 H2 K1 K2
      obtain ⟨g0, g1, g2, g3, gf, gl⟩ := QGY.out.four
      obtain ⟨k0, k1, k2, k3, kf, kl⟩ := HH.out.four
      go_wp2_with fail
      refine (H3.out _).mono ?_
      rintro e w4 ⟨rfl, hb4⟩
      have QR4 := hid (QRY.out.after hb4)
      have QG4 := hid (QGY.out.after hb4)
      have QH4 := hid (HH.out.after hb4)
      have B4 := hid (bl BYw.out hb4)
      clear hb4 QRY QGY HH BYw g0 g1 g2 g3 gf gl k0 k1 k2 k3 kf kl H3
      obtain ⟨g0, g1, g2, g3, gf, gl⟩ := QG4.out.four
      obtain ⟨k0, k1, k2, k3, kf, kl⟩ := QH4.out.four
      obtain ⟨r0, r1, r2, r3, rf, rl⟩ := QR4.out.four
      have n1 : gB ≠ w.heap.size + 1 + 1 := by omega
      have n2 : hB ≠ w.heap.size + 1 + 1 := by omega
      cases B
      · have e : Hid (hitV h = .agg #[.bool s1, .int .i64 x1, .int .i64 x2, .int .i64 x3]) := by unfold Hid; rw [E.out]; exact E1.out
        clear E E1 E2
        go_wp2
        exact bodyPost_ret (v := .agg #[.bool s1, .int .i64 x1, .int .i64 x2, .int .i64 x3]) (by simp [results, Try.results89, go_sem, *]) rfl ⟨by rw [e.out], by have := B4.out; go_grown⟩
      · have e : Hid (hitV h = .agg #[.bool s2, .int .i64 y1, .int .i64 y2, .int .i64 y3]) := by unfold Hid; rw [E.out]; exact E2.out
        clear E E1 E2
        go_wp2
        exact bodyPost_ret (v := .agg #[.bool s2, .int .i64 y1, .int .i64 y2, .int .i64 y3]) (by simp [results, Try.results89, go_sem, *]) rfl ⟨by rw [e.out], by have := B4.out; go_grown⟩

end Go.Proofs.Ytonmihojfcjmjab
