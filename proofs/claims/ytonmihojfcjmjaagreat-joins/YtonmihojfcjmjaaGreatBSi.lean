import Derived.Test.YtonmihojfcjmjaaGreatBSh
import Derived.Test.YtonmihojfcjmjaaGreatBPh
import Derived.Deep.RegionHeld3
import Derived.Deep.DeepCutAuto
/- Contracts of the program's shots: a track's pose; hurt. -/
namespace Go.Proofs.YtonmihojfcjmjaaGreat
open Go.RowKit
set_option linter.unusedVariables false
attribute [local go_sem] cell_set_off cell_set_blk
attribute [local go_sem ↓] big65 big65'

theorem recs_len (s : M.PSeat) : s.recs.length = s.count.toNat := by unfold M.PSeat.recs; simp
theorem recs_at (s : M.PSeat) {i : Nat} {r : M.Rec} (h : s.recs[i]? = some r) : i < s.count.toNat ∧ s.track i = r := by
  unfold M.PSeat.recs at h
  rw [List.getElem?_map] at h
  by_cases hi : i < s.count.toNat
  · rw [List.getElem?_range hi] at h
    exact ⟨hi, by simpa using h⟩
  · rw [List.getElem?_eq_none (by simpa using Nat.le_of_not_lt hi)] at h; cases h
theorem pseatC_rec (s : M.PSeat) (i k : Nat) (hi : i < 17) (hk : k < 4) : pseatC s (50 + i * 4 + k) = recC (s.track i) k := by
  unfold pseatC
  iterate 3 rw [if_neg (by omega)]
  iterate 12 rw [if_neg (by omega)]
  rw [if_pos (by omega), show (50 + i * 4 + k - 50) / 4 = i by omega, show (50 + i * 4 + k - 50) % 4 = k by omega]
theorem rr_of {w : World} {b o : Nat} {s : M.PSeat} (hR : Range w b o 119 (pseatC s)) (hlt : b < w.heap.size) (h17 : s.count ≤ 17) : RR w b (o + 50) s.recs := by
  have key : ∀ i k : Nat, ∀ r, k < 4 → s.recs[i]? = some r → w.cell? ⟨b, o + 50 + i * 4 + k, none⟩ = some (recC r k) := fun i k r hk hr => by
    obtain ⟨h1, h2⟩ := recs_at s hr
    have hi : i < 17 := by omega
    rw [show o + 50 + i * 4 + k = o + (50 + i * 4 + k) by omega, hR (50 + i * 4 + k) (by omega), pseatC_rec s i k hi hk, h2]
  exact ⟨fun i r h => key i 0 r (by omega) h, fun i r h => key i 1 r (by omega) h, fun i r h => key i 2 r (by omega) h, fun i r h => key i 3 r (by omega) h, hlt⟩

set_option maxRecDepth 100000 in
set_option maxHeartbeats 4000000 in
theorem trPose_any (b o : Nat) (s : M.PSeat) (t : Int) (w : World) (hR : Range w b o 119 (pseatC s)) (hlt : b < w.heap.size) (n1 : 1 ≤ s.count) (n2 : s.count ≤ 17) (hok : ∀ i : Nat, (i : Int) < s.count → M.Ok (s.track i)) (t0 : 0 ≤ t) (t1 : t ≤ 16777215) (q : M.V3) (hq : Hid (s.poseAt t = q)) :
    Calls Tryz.prog 112 #[.pointer (some ⟨b, o + 50, none⟩), .int .i64 t] w fun e w' => e = .returned (.agg #[.int .i64 q.x, .int .i64 q.y, .int .i64 q.z]) ∧ Below w.heap.size w w' := by
  obtain ⟨n, hn⟩ : ∃ n : Nat, s.count = (n : Int) := ⟨s.count.toNat, by omega⟩
  have hlen : s.recs.length = n := by rw [recs_len, hn]; rfl
  have c118 : w.cell? ⟨b, o + 50 + 68, none⟩ = some (.int .i64 (n : Int)) := by have := hR 118 (by omega); rw [show o + 50 + 68 = o + 118 by omega, this, ← hn]; rfl
  have HR := hid (rr_of hR hlt n2)
  have HK : Hid (∀ r ∈ s.recs, M.Ok r) := fun r hr => by
    obtain ⟨i, hi⟩ := List.mem_iff_getElem?.1 hr
    obtain ⟨h1, h2⟩ := recs_at s hi
    rw [← h2]; exact hok i (by omega)
  have a0 : (0 : Int) ≤ (n : Int) := by omega
  have a1 : (n : Int) ≤ 17 := by omega
  have a2 : (1 : Int) ≤ (n : Int) := by omega
  have HL := hid hlen
  clear hR hok n1 n2 hn hlen
  go_enter Tryz.func112, Tryz.ntmps112
  go_wp2_with fail
  refine still_tail5 9 (by kernel_rfl) (by kernel_rfl) ?_
  simp only [List.take_succ_cons, List.take_zero, List.drop_succ_cons, List.drop_zero]
  repeat still_step
  refine wpStill_nil ?_
  have hp := pastPose_any b (o + 50) 17 s.recs t (w.alloc (.cells #[.int .i64 0, .int .i64 0, .int .i64 0] 27)).drew (HR.out.of (Below.heap_alloc w _ b hlt) (by simp; omega)) (by rw [HL.out]; omega) (by rw [HL.out]; omega) HK.out t0 t1 q hq
  rw [HL.out] at hp
  have Hp := hid hp
  clear hp HR HK hq
  go_wp2_with fail
  refine Hp.out.mono ?_
  rintro e w1 ⟨rfl, hb⟩
  have q0 := (show Blk (w.alloc (.cells #[.int .i64 0, .int .i64 0, .int .i64 0] 27)).drew w.heap.size #[.int .i64 0, .int .i64 0, .int .i64 0] 27 from Blk.drew (Blk.new rfl)).after hb
  have B1 : Below w.heap.size w w1 := bl (by go_grown) hb
  obtain ⟨z0, z1, z2, zf, zl⟩ := q0.three
  have hz := B1.size
  clear hb Hp HL
  go_wp2
  exact bodyPost_ret (v := .agg #[.int .i64 q.x, .int .i64 q.y, .int .i64 q.z]) (by simp [results, Tryz.results112, go_sem, *]) rfl ⟨rfl, by go_grown⟩

theorem health_cell (s : M.PSeat) (h : Int) (j : Nat) : (if j = 46 then Value.int .i64 h else pseatC s j) = pseatC { s with health := h } j := by
  by_cases e : j = 46
  · subst e; rfl
  · rw [if_neg e]
    unfold pseatC
    exact ite_c (fun _ => rfl) (fun _ => ite_c (fun _ => rfl) (fun _ => ite_c (fun _ => rfl) (fun _ => ite_c (fun _ => rfl) (fun _ => ite_c (fun _ => rfl) (fun _ => ite_c (fun _ => rfl) (fun _ => ite_c (fun _ => rfl) (fun _ => ite_c (fun _ => rfl) (fun _ => ite_c (fun _ => rfl) (fun _ => ite_c (fun _ => rfl) (fun _ => ite_c (fun _ => rfl) (fun _ => ite_c (fun x => absurd x e) (fun _ => rfl))))))))))))
theorem back_cell (s : M.PSeat) (h : Int) (j : Nat) : (if j = 49 then Value.int .i64 h else pseatC s j) = pseatC { s with back := h } j := by
  by_cases e : j = 49
  · subst e; rfl
  · rw [if_neg e]
    unfold pseatC
    exact ite_c (fun _ => rfl) (fun _ => ite_c (fun _ => rfl) (fun _ => ite_c (fun _ => rfl) (fun _ => ite_c (fun _ => rfl) (fun _ => ite_c (fun _ => rfl) (fun _ => ite_c (fun _ => rfl) (fun _ => ite_c (fun _ => rfl) (fun _ => ite_c (fun _ => rfl) (fun _ => ite_c (fun _ => rfl) (fun _ => ite_c (fun _ => rfl) (fun _ => ite_c (fun _ => rfl) (fun _ => ite_c (fun _ => rfl) (fun _ => ite_c (fun _ => rfl) (fun _ => ite_c (fun _ => rfl) (fun _ => ite_c (fun x => absurd x e) (fun _ => rfl)))))))))))))))
theorem ammo_cell (s : M.PSeat) (h : Int) (j : Nat) : (if j = 47 then Value.int .i64 h else pseatC s j) = pseatC { s with ammo := h } j := by
  by_cases e : j = 47
  · subst e; rfl
  · rw [if_neg e]
    unfold pseatC
    exact ite_c (fun _ => rfl) (fun _ => ite_c (fun _ => rfl) (fun _ => ite_c (fun _ => rfl) (fun _ => ite_c (fun _ => rfl) (fun _ => ite_c (fun _ => rfl) (fun _ => ite_c (fun _ => rfl) (fun _ => ite_c (fun _ => rfl) (fun _ => ite_c (fun _ => rfl) (fun _ => ite_c (fun _ => rfl) (fun _ => ite_c (fun _ => rfl) (fun _ => ite_c (fun _ => rfl) (fun _ => ite_c (fun _ => rfl) (fun _ => ite_c (fun x => absurd x e) (fun _ => rfl)))))))))))))
theorem ready_cell (s : M.PSeat) (h : Int) (j : Nat) : (if j = 48 then Value.int .i64 h else pseatC s j) = pseatC { s with ready := h } j := by
  by_cases e : j = 48
  · subst e; rfl
  · rw [if_neg e]
    unfold pseatC
    exact ite_c (fun _ => rfl) (fun _ => ite_c (fun _ => rfl) (fun _ => ite_c (fun _ => rfl) (fun _ => ite_c (fun _ => rfl) (fun _ => ite_c (fun _ => rfl) (fun _ => ite_c (fun _ => rfl) (fun _ => ite_c (fun _ => rfl) (fun _ => ite_c (fun _ => rfl) (fun _ => ite_c (fun _ => rfl) (fun _ => ite_c (fun _ => rfl) (fun _ => ite_c (fun _ => rfl) (fun _ => ite_c (fun _ => rfl) (fun _ => ite_c (fun _ => rfl) (fun _ => ite_c (fun x => absurd x e) (fun _ => rfl))))))))))))))

set_option maxRecDepth 100000 in
set_option maxHeartbeats 2000000 in
theorem hurt_any (b o : Nat) (s : M.PSeat) (D t : Int) (w : World) (hR : Range w b o 119 (pseatC s)) (hf : ∀ i, w.frozen? ⟨b, i, none⟩ = false) (h0 : 0 ≤ s.health) (h1 : s.health ≤ 100) (d0 : 0 ≤ D) (d1 : D ≤ 100) (t0 : 0 ≤ t) (t1 : t ≤ 3000) :
    Calls Tryz.prog 102 #[.pointer (some ⟨b, o + 40, none⟩), .int .i64 D, .int .i64 t] w fun e w' => e = .returned (.tuple #[]) ∧ Range w' b o 119 (pseatC (s.hurt D t)) ∧ OnR b o 119 w w' := by
  have c46 : w.cell? ⟨b, o + 40 + 6, none⟩ = some (.int .i64 s.health) := hR 46 (by omega)
  have c49 : w.cell? ⟨b, o + 40 + 9, none⟩ = some (.int .i64 s.back) := hR 49 (by omega)
  by_cases h : D < s.health
  · have HS : Hid (s.hurt D t = { s with health := s.health - D }) := by unfold Hid M.PSeat.hurt; rw [if_pos h]
    rw [HS.out]
    have R1 := hid ((hR.set1 46 (.int .i64 (s.health - D))).congr (fun j hj => health_cell s (s.health - D) j))
    have O1 := hid (OnR.set (b := b) (o := o) (n := 119) w 46 (by omega) (.int .i64 (s.health - D)))
    clear hR HS
    go_enter Tryz.func102, Tryz.ntmps102
    go_wp2
    exact bodyPost_ret (v := .tuple #[]) (by simp [results, Tryz.results102, go_sem]) rfl ⟨rfl, R1.out, O1.out⟩
  · have HS : Hid (s.hurt D t = { s with health := 0, back := t + 8 }) := by unfold Hid M.PSeat.hurt; rw [if_neg h]
    rw [HS.out]
    have R1 := hid ((((hR.set1 46 (.int .i64 0)).congr (fun j hj => health_cell s 0 j)).set1 49 (.int .i64 (t + 8))).congr (fun j hj => back_cell { s with health := 0 } (t + 8) j))
    have O1 := hid ((OnR.set (b := b) (o := o) (n := 119) w 46 (by omega) (.int .i64 0)).trans (OnR.set _ 49 (by omega) (.int .i64 (t + 8))))
    clear hR HS
    go_enter Tryz.func102, Tryz.ntmps102
    go_wp2
    go_end0
    exact ⟨rfl, R1.out, O1.out⟩

end Go.Proofs.YtonmihojfcjmjaaGreat

/- Contracts of the program's shots: a player is entered. -/
namespace Go.Proofs.YtonmihojfcjmjaaGreat
open Go.RowKit
set_option linter.unusedVariables false
attribute [local go_sem] cell_set_off cell_set_blk
attribute [local go_sem ↓] big65 big65'

theorem Blk.seven7 {W : World} {b : Nat} {x0 x1 x2 x3 x4 x5 x6 : Value} {t : TypeId} (h : Blk W b #[x0, x1, x2, x3, x4, x5, x6] t) :
    W.cell? ⟨b, 0, none⟩ = some x0 ∧ W.cell? ⟨b, 1, none⟩ = some x1 ∧ W.cell? ⟨b, 2, none⟩ = some x2 ∧ W.cell? ⟨b, 3, none⟩ = some x3 ∧ W.cell? ⟨b, 4, none⟩ = some x4 ∧ W.cell? ⟨b, 5, none⟩ = some x5 ∧ W.cell? ⟨b, 6, none⟩ = some x6 ∧
    (∀ i, W.frozen? ⟨b, i, none⟩ = false) ∧ b < W.heap.size :=
  ⟨h.cell 0, h.cell 1, h.cell 2, h.cell 3, h.cell 4, h.cell 5, h.cell 6, h.frozen, h.lt⟩

set_option maxRecDepth 100000 in
set_option maxHeartbeats 4000000 in
theorem shEnter_any (p d q : M.V3) (t : Int) (w : World) (hp : p.Near) (hd : d.Near) (hq : M.InB M.cubeLo M.cubeHi q) (h : M.Hit) (hh : Hid (M.hitAt p d q = h)) :
    Calls Tryz.prog 113 #[.agg #[.int .i64 p.x, .int .i64 p.y, .int .i64 p.z, .int .i64 d.x, .int .i64 d.y, .int .i64 d.z, .int .i64 t], .agg #[.int .i64 q.x, .int .i64 q.y, .int .i64 q.z]] w fun e w' => e = .returned (hitV h) ∧ Below w.heap.size w w' := by
  obtain ⟨b1, hb1⟩ : ∃ x, M.boxHit p d (M.headLo q) (M.headHi q) 60 = x := ⟨_, rfl⟩
  obtain ⟨b2, hb2⟩ : ∃ x, M.boxHit p d (M.bodyLo q) (M.bodyHi q) 25 = x := ⟨_, rfl⟩
  obtain ⟨B, hB⟩ : ∃ B, M.Hit.ahead b2 b1 = B := ⟨_, rfl⟩
  have E : Hid (h = if B = true then b2 else b1) := by unfold Hid; rw [← hh.out]; unfold M.hitAt; rw [hb1, hb2, hB]
  have O1 := hid (show HitOk b1 from hb1 ▸ boxHit_ok _ _ _ _ _)
  have O2 := hid (show HitOk b2 from hb2 ▸ boxHit_ok _ _ _ _ _)
  obtain ⟨n1, n2, n3, n4⟩ := near_lo hq
  have H1 := hid (fun W => enterBox_any p d (M.headLo q) (M.headHi q) t 60 W hp hd n3 n4 b1 hb1)
  have H2 := hid (fun W => enterBox_any p d (M.bodyLo q) (M.bodyHi q) t 25 W hp hd n1 n2 b2 hb2)
  have H3 := hid (fun W => ahead_any b2 b1 W O2.out O1.out B hB)
  have K1 := hid (fun W => headOf_any q W hq)
  have K2 := hid (fun W => bodyOf_any q W hq)
  obtain ⟨s1, x1, x2, x3, e1⟩ := hitV_lit b1
  obtain ⟨s2, y1, y2, y3, e2⟩ := hitV_lit b2
  rw [e1] at H1 H3
  rw [e2] at H2 H3
  have E1 := hid e1
  have E2 := hid e2
  generalize hl1 : M.headLo q = l1 at *
  generalize hl2 : M.headHi q = l2 at *
  generalize hl3 : M.bodyLo q = l3 at *
  generalize hl4 : M.bodyHi q = l4 at *
  clear hp hd hq hb1 hb2 hB hh n1 n2 n3 n4 e1 e2 hl1 hl2 hl3 hl4 O1 O2
  go_enter Tryz.func113, Tryz.ntmps113
  go_upto_region 1 with fail
  obtain ⟨V, hV⟩ : ∃ V, ((w.alloc (.cells #[.int .i64 p.x, .int .i64 p.y, .int .i64 p.z, .int .i64 d.x, .int .i64 d.y, .int .i64 d.z, .int .i64 t] 164)).alloc (.cells #[.int .i64 q.x, .int .i64 q.y, .int .i64 q.z] 27)).alloc (.cells #[.bool false, .int .i64 0, .int .i64 0, .int .i64 0] 168) = V := ⟨_, rfl⟩
  have QS := hid (show Blk V w.heap.size #[.int .i64 p.x, .int .i64 p.y, .int .i64 p.z, .int .i64 d.x, .int .i64 d.y, .int .i64 d.z, .int .i64 t] 164 from by rw [← hV]; exact (by repeat' (first | (with_reducible assumption) | (refine Blk.new ?_; (first | (simp; done) | rfl); done) | (with_reducible refine Blk.alloc ?_) | (with_reducible refine Blk.drew ?_) | (with_reducible refine Blk.drewN ?_))))
  have QP := hid (show Blk V (w.heap.size + 1) #[.int .i64 q.x, .int .i64 q.y, .int .i64 q.z] 27 from by rw [← hV]; exact (by repeat' (first | (with_reducible assumption) | (refine Blk.new ?_; (first | (simp; done) | rfl); done) | (with_reducible refine Blk.alloc ?_) | (with_reducible refine Blk.drew ?_) | (with_reducible refine Blk.drewN ?_))))
  have QR := hid (show Blk V (w.heap.size + 1 + 1) #[.bool false, .int .i64 0, .int .i64 0, .int .i64 0] 168 from by rw [← hV]; exact (by repeat' (first | (with_reducible assumption) | (refine Blk.new ?_; (first | (simp; done) | rfl); done) | (with_reducible refine Blk.alloc ?_) | (with_reducible refine Blk.drew ?_) | (with_reducible refine Blk.drewN ?_))))
  have BV := hid (show Below w.heap.size w V from by rw [← hV]; go_grown)
  have zV : w.heap.size + 3 ≤ V.heap.size := by rw [← hV]; simp
  rw [hV]
  clear hV
  obtain ⟨c0, c1, c2, c3, c4, c5, c6, cf, cl⟩ := QS.out.seven7
  obtain ⟨z0, z1, z2, zf, zl⟩ := QP.out.three
  have e3 : V.heap.size ≠ w.heap.size := by omega
  have e4 : V.heap.size ≠ w.heap.size + 1 := by omega
  go_cut [5] (fun c wx => ∃ gB : Nat, c = .pointer (some ⟨gB, 0, none⟩) ∧ V.heap.size ≤ gB ∧ Blk wx gB #[.bool s1, .int .i64 x1, .int .i64 x2, .int .i64 x3] 168 ∧ Below V.heap.size V wx)
  case first =>
    go_region_held3 (fun w' => (w'.cell? ⟨w.heap.size, 0, none⟩ = some (.int .i64 p.x) ∧ w'.cell? ⟨w.heap.size, 1, none⟩ = some (.int .i64 p.y) ∧ w'.cell? ⟨w.heap.size, 2, none⟩ = some (.int .i64 p.z) ∧ w'.cell? ⟨w.heap.size, 3, none⟩ = some (.int .i64 d.x) ∧ w'.cell? ⟨w.heap.size, 4, none⟩ = some (.int .i64 d.y) ∧ w'.cell? ⟨w.heap.size, 5, none⟩ = some (.int .i64 d.z) ∧ w'.cell? ⟨w.heap.size, 6, none⟩ = some (.int .i64 t)) ∧ w'.cell? ⟨w.heap.size + 1, 0, none⟩ = some (.int .i64 q.x) ∧ w'.cell? ⟨w.heap.size + 1, 1, none⟩ = some (.int .i64 q.y) ∧ w'.cell? ⟨w.heap.size + 1, 2, none⟩ = some (.int .i64 q.z)) (go_keep)
      (first | (go_at_call 124; refine (K1.out (V.alloc (.cells #[.bool false, .int .i64 0, .int .i64 0, .int .i64 0] 168)).drew).mono ?_; rintro e w2 ⟨rfl, hb2⟩; have B2 : Below V.heap.size V w2 := bl (by go_grown) hb2; obtain ⟨c0, c1, c2, c3, c4, c5, c6, cf, cl⟩ := (QS.out.after B2).seven7; obtain ⟨z0, z1, z2, zf, zl⟩ := (QP.out.after B2).three; have e1 : w2.heap.size ≠ w.heap.size := (by have := B2.size; omega); have e2 : w2.heap.size ≠ w.heap.size + 1 := (by have := B2.size; omega); have qg := (show Blk (V.alloc (.cells #[.bool false, .int .i64 0, .int .i64 0, .int .i64 0] 168)).drew V.heap.size #[.bool false, .int .i64 0, .int .i64 0, .int .i64 0] 168 from Blk.drew (Blk.new rfl)).after hb2; obtain ⟨g0, g1, g2, g3, gf, gl⟩ := qg.four) | (go_at_call 124; refine (K1.out V.drew).mono ?_; rintro e w2 ⟨rfl, hb2⟩; have B2 : Below V.heap.size V w2 := bl (by go_grown) hb2; obtain ⟨c0, c1, c2, c3, c4, c5, c6, cf, cl⟩ := (QS.out.after B2).seven7; obtain ⟨z0, z1, z2, zf, zl⟩ := (QP.out.after B2).three; have e1 : w2.heap.size ≠ w.heap.size := (by have := B2.size; omega); have e2 : w2.heap.size ≠ w.heap.size + 1 := (by have := B2.size; omega)) | (go_at_call 123; refine (H1.out (w2.alloc (.cells #[.bool false, .int .i64 0, .int .i64 0, .int .i64 0] 168))).mono ?_; rintro e w3 ⟨rfl, hb3⟩; have B3 : Below V.heap.size V w3 := bl (by have := B2.size; go_grown) hb3; obtain ⟨c0, c1, c2, c3, c4, c5, c6, cf, cl⟩ := (QS.out.after B3).seven7; obtain ⟨z0, z1, z2, zf, zl⟩ := (QP.out.after B3).three; have e1 : w3.heap.size ≠ w.heap.size := (by have := B3.size; omega); have e2 : w3.heap.size ≠ w.heap.size + 1 := (by have := B3.size; omega); have qh := (show Blk (w2.alloc (.cells #[.bool false, .int .i64 0, .int .i64 0, .int .i64 0] 168)) w2.heap.size #[.bool false, .int .i64 0, .int .i64 0, .int .i64 0] 168 from Blk.new rfl).after hb3; obtain ⟨h0, h1, h2, h3, hf, hl'⟩ := qh.four) | (go_at_call 123; refine (H1.out w2).mono ?_; rintro e w3 ⟨rfl, hb3⟩; have B3 : Below V.heap.size V w3 := bl (by have := B2.size; go_grown) hb3; obtain ⟨c0, c1, c2, c3, c4, c5, c6, cf, cl⟩ := (QS.out.after B3).seven7; obtain ⟨z0, z1, z2, zf, zl⟩ := (QP.out.after B3).three; have e1 : w3.heap.size ≠ w.heap.size := (by have := B3.size; omega); have e2 : w3.heap.size ≠ w.heap.size + 1 := (by have := B3.size; omega); have qh := qg.after hb3; obtain ⟨h0, h1, h2, h3, hf, hl'⟩ := qh.four) | (go_at_call 123; refine (H1.out w2).mono ?_; rintro e w3 ⟨rfl, hb3⟩; have B3 : Below V.heap.size V w3 := bl (by have := B2.size; go_grown) hb3; obtain ⟨c0, c1, c2, c3, c4, c5, c6, cf, cl⟩ := (QS.out.after B3).seven7; obtain ⟨z0, z1, z2, zf, zl⟩ := (QP.out.after B3).three; have e1 : w3.heap.size ≠ w.heap.size := (by have := B3.size; omega); have e2 : w3.heap.size ≠ w.heap.size + 1 := (by have := B3.size; omega)))
    all_goals
      go_wp2_with fail
      go_meet
      first
        | exact ⟨w3.heap.size, rfl, (by have := B3.size; omega), Blk.new rfl, by have := B3.size; go_grown⟩
        | exact ⟨_, rfl, (by first | exact Nat.le_refl _ | (have := B2.size; omega)), (((qh.set 0 _).set 1 _).set 2 _).set 3 _, by have := B2.size; have := B3.size; go_grown⟩
  case rest =>
    obtain ⟨gB, rfl, hgB, QG, BX⟩ := hcut
    generalize wc = X at *
    have QSX := hid (QS.out.after BX)
    have QPX := hid (QP.out.after BX)
    have QRX := hid (QR.out.after BX)
    have BXw := hid (bl BV.out BX)
    have zX : V.heap.size ≤ X.heap.size := BX.size
    have HG := hid QG
    have lgX := QG.lt
    clear QS QP QR BV BX QG c0 c1 c2 c3 c4 c5 c6 cf cl z0 z1 z2 zf zl e3 e4
    obtain ⟨c0, c1, c2, c3, c4, c5, c6, cf, cl⟩ := QSX.out.seven7
    obtain ⟨z0, z1, z2, zf, zl⟩ := QPX.out.three
    have e3 : X.heap.size ≠ w.heap.size := by omega
    have e4 : X.heap.size ≠ w.heap.size + 1 := by omega
    go_upto_region 2 with fail
    go_cut [6] (fun c wx => ∃ gB : Nat, c = .pointer (some ⟨gB, 0, none⟩) ∧ X.heap.size ≤ gB ∧ Blk wx gB #[.bool s2, .int .i64 y1, .int .i64 y2, .int .i64 y3] 168 ∧ Below X.heap.size X wx)
    case first =>
      go_region_held3 (fun w' => (w'.cell? ⟨w.heap.size, 0, none⟩ = some (.int .i64 p.x) ∧ w'.cell? ⟨w.heap.size, 1, none⟩ = some (.int .i64 p.y) ∧ w'.cell? ⟨w.heap.size, 2, none⟩ = some (.int .i64 p.z) ∧ w'.cell? ⟨w.heap.size, 3, none⟩ = some (.int .i64 d.x) ∧ w'.cell? ⟨w.heap.size, 4, none⟩ = some (.int .i64 d.y) ∧ w'.cell? ⟨w.heap.size, 5, none⟩ = some (.int .i64 d.z) ∧ w'.cell? ⟨w.heap.size, 6, none⟩ = some (.int .i64 t)) ∧ w'.cell? ⟨w.heap.size + 1, 0, none⟩ = some (.int .i64 q.x) ∧ w'.cell? ⟨w.heap.size + 1, 1, none⟩ = some (.int .i64 q.y) ∧ w'.cell? ⟨w.heap.size + 1, 2, none⟩ = some (.int .i64 q.z)) (go_keep)
        (first | (go_at_call 125; refine (K2.out (X.alloc (.cells #[.bool false, .int .i64 0, .int .i64 0, .int .i64 0] 168)).drew).mono ?_; rintro e w2 ⟨rfl, hb2⟩; have B2 : Below X.heap.size X w2 := bl (by go_grown) hb2; obtain ⟨c0, c1, c2, c3, c4, c5, c6, cf, cl⟩ := (QSX.out.after B2).seven7; obtain ⟨z0, z1, z2, zf, zl⟩ := (QPX.out.after B2).three; have e1 : w2.heap.size ≠ w.heap.size := (by have := B2.size; omega); have e2 : w2.heap.size ≠ w.heap.size + 1 := (by have := B2.size; omega); have qg := (show Blk (X.alloc (.cells #[.bool false, .int .i64 0, .int .i64 0, .int .i64 0] 168)).drew X.heap.size #[.bool false, .int .i64 0, .int .i64 0, .int .i64 0] 168 from Blk.drew (Blk.new rfl)).after hb2; obtain ⟨g0, g1, g2, g3, gf, gl⟩ := qg.four) | (go_at_call 125; refine (K2.out X.drew).mono ?_; rintro e w2 ⟨rfl, hb2⟩; have B2 : Below X.heap.size X w2 := bl (by go_grown) hb2; obtain ⟨c0, c1, c2, c3, c4, c5, c6, cf, cl⟩ := (QSX.out.after B2).seven7; obtain ⟨z0, z1, z2, zf, zl⟩ := (QPX.out.after B2).three; have e1 : w2.heap.size ≠ w.heap.size := (by have := B2.size; omega); have e2 : w2.heap.size ≠ w.heap.size + 1 := (by have := B2.size; omega)) | (go_at_call 123; refine (H2.out (w2.alloc (.cells #[.bool false, .int .i64 0, .int .i64 0, .int .i64 0] 168))).mono ?_; rintro e w3 ⟨rfl, hb3⟩; have B3 : Below X.heap.size X w3 := bl (by have := B2.size; go_grown) hb3; obtain ⟨c0, c1, c2, c3, c4, c5, c6, cf, cl⟩ := (QSX.out.after B3).seven7; obtain ⟨z0, z1, z2, zf, zl⟩ := (QPX.out.after B3).three; have e1 : w3.heap.size ≠ w.heap.size := (by have := B3.size; omega); have e2 : w3.heap.size ≠ w.heap.size + 1 := (by have := B3.size; omega); have qh := (show Blk (w2.alloc (.cells #[.bool false, .int .i64 0, .int .i64 0, .int .i64 0] 168)) w2.heap.size #[.bool false, .int .i64 0, .int .i64 0, .int .i64 0] 168 from Blk.new rfl).after hb3; obtain ⟨h0, h1, h2, h3, hf, hl'⟩ := qh.four) | (go_at_call 123; refine (H2.out w2).mono ?_; rintro e w3 ⟨rfl, hb3⟩; have B3 : Below X.heap.size X w3 := bl (by have := B2.size; go_grown) hb3; obtain ⟨c0, c1, c2, c3, c4, c5, c6, cf, cl⟩ := (QSX.out.after B3).seven7; obtain ⟨z0, z1, z2, zf, zl⟩ := (QPX.out.after B3).three; have e1 : w3.heap.size ≠ w.heap.size := (by have := B3.size; omega); have e2 : w3.heap.size ≠ w.heap.size + 1 := (by have := B3.size; omega); have qh := qg.after hb3; obtain ⟨h0, h1, h2, h3, hf, hl'⟩ := qh.four) | (go_at_call 123; refine (H2.out w2).mono ?_; rintro e w3 ⟨rfl, hb3⟩; have B3 : Below X.heap.size X w3 := bl (by have := B2.size; go_grown) hb3; obtain ⟨c0, c1, c2, c3, c4, c5, c6, cf, cl⟩ := (QSX.out.after B3).seven7; obtain ⟨z0, z1, z2, zf, zl⟩ := (QPX.out.after B3).three; have e1 : w3.heap.size ≠ w.heap.size := (by have := B3.size; omega); have e2 : w3.heap.size ≠ w.heap.size + 1 := (by have := B3.size; omega)))
      all_goals
        go_wp2_with fail
        go_meet
        first
          | exact ⟨w3.heap.size, rfl, (by have := B3.size; omega), Blk.new rfl, by have := B3.size; go_grown⟩
          | exact ⟨_, rfl, (by first | exact Nat.le_refl _ | (have := B2.size; omega)), (((qh.set 0 _).set 1 _).set 2 _).set 3 _, by have := B2.size; have := B3.size; go_grown⟩
    case rest =>
      obtain ⟨hB, rfl, hhB, QH, BY⟩ := hcut
      generalize wc = Y at *
      have QRY := hid (QRX.out.after BY)
      have QGY := hid (HG.out.after BY)
      have HH := hid QH
      have BYw := hid (bl BXw.out BY)
      have zY := BY.size
      have lhY := QH.lt
      clear QSX QPX QRX HG BXw BY QH c0 c1 c2 c3 c4 c5 c6 cf cl z0 z1 z2 zf zl e3 e4 H1 H2 K1 K2
      obtain ⟨g0, g1, g2, g3, gf, gl⟩ := QGY.out.four
      obtain ⟨k0, k1, k2, k3, kf, kl⟩ := HH.out.four
      go_wp2_with fail
      refine (H3.out _).mono ?_
      rintro e w4 ⟨rfl, hb4⟩
      have QR4 := hid (QRY.out.after hb4)
      have QG4 := hid (QGY.out.after hb4)
      have QH4 := hid (HH.out.after hb4)
      have B4 := hid (bl BYw.out hb4)
      clear hb4 QRY QGY HH BYw g0 g1 g2 g3 gf gl k0 k1 k2 k3 kf kl H3
      obtain ⟨g0, g1, g2, g3, gf, gl⟩ := QG4.out.four
      obtain ⟨k0, k1, k2, k3, kf, kl⟩ := QH4.out.four
      obtain ⟨r0, r1, r2, r3, rf, rl⟩ := QR4.out.four
      have n1 : gB ≠ w.heap.size + 1 + 1 := by omega
      have n2 : hB ≠ w.heap.size + 1 + 1 := by omega
      cases B
      · have e : Hid (hitV h = .agg #[.bool s1, .int .i64 x1, .int .i64 x2, .int .i64 x3]) := by unfold Hid; rw [E.out]; exact E1.out
        clear E E1 E2
        go_wp2
        exact bodyPost_ret (v := .agg #[.bool s1, .int .i64 x1, .int .i64 x2, .int .i64 x3]) (by simp [results, Tryz.results113, go_sem, *]) rfl ⟨by rw [e.out], by have := B4.out; go_grown⟩
      · have e : Hid (hitV h = .agg #[.bool s2, .int .i64 y1, .int .i64 y2, .int .i64 y3]) := by unfold Hid; rw [E.out]; exact E2.out
        clear E E1 E2
        go_wp2
        exact bodyPost_ret (v := .agg #[.bool s2, .int .i64 y1, .int .i64 y2, .int .i64 y3]) (by simp [results, Tryz.results113, go_sem, *]) rfl ⟨by rw [e.out], by have := B4.out; go_grown⟩

end Go.Proofs.YtonmihojfcjmjaaGreat

/- Contracts of the program's shots: the first that is entered. -/
namespace Go.Proofs.YtonmihojfcjmjaaGreat
open Go.RowKit
set_option linter.unusedVariables false
attribute [local go_sem] cell_set_off cell_set_blk
attribute [local go_sem ↓] big65 big65'

/-- What a shot needs of a slot. -/
structure M.PSeat.Shown (s : M.PSeat) : Prop where
  n1 : 0 < s.health → 1 ≤ s.count
  n2 : s.count ≤ 17
  tr : ∀ i : Nat, (i : Int) < s.count → M.Ok (s.track i)

theorem Blk.apart4 {W : World} {b k : Nat} {cs : Array Value} {t : TypeId} (h : Blk W k cs t) (hne : k ≠ b) (y0 y1 y2 y3 : Value) : Blk ((((W.setCell ⟨b, 0, none⟩ y0).setCell ⟨b, 1, none⟩ y1).setCell ⟨b, 2, none⟩ y2).setCell ⟨b, 3, none⟩ y3) k cs t :=
  h.on ((((On.set b 0 W y0).trans (On.set b 1 _ y1)).trans (On.set b 2 _ y2)).trans (On.set b 3 _ y3)) hne
theorem cube_inB {p : M.V3} (h : M.Cube p) : M.InB M.cubeLo M.cubeHi p := by
  obtain ⟨a1, a2, a3, a4, a5, a6⟩ := h
  exact ⟨a1, a2, a3, a4, a5, a6⟩
theorem poseF_in (t : Int) : ∀ (rs : List M.Rec) (a : M.Rec), M.Ok a → 256 * a.tick ≤ t → (∀ r ∈ rs, M.Ok r) → M.InB M.cubeLo M.cubeHi (M.poseF a t rs)
  | [], a, ha, _, _ => cube_inB ha.c
  | r :: rs, a, ha, h1, hok => by
    have hr := hok r (List.mem_cons_self ..)
    unfold M.poseF
    split
    · rename_i h2
      obtain ⟨a1, a2, a3, a4, a5, a6⟩ := ha.c
      obtain ⟨b1, b2, b3, b4, b5, b6⟩ := hr.c
      have x := M.blend_bd a1 a2 b1 b2 (show 0 ≤ t - 256 * a.tick by omega) (show 0 ≤ 256 * r.tick - t by omega) (by omega)
      have y := M.blend_bd a3 a4 b3 b4 (show 0 ≤ t - 256 * a.tick by omega) (show 0 ≤ 256 * r.tick - t by omega) (by omega)
      have z := M.blend_bd a5 a6 b5 b6 (show 0 ≤ t - 256 * a.tick by omega) (show 0 ≤ 256 * r.tick - t by omega) (by omega)
      exact ⟨x.1, x.2, y.1, y.2, z.1, z.2⟩
    · rename_i h2
      exact poseF_in t rs r hr (by omega) (fun x hx => hok x (List.mem_cons_of_mem _ hx))
theorem pose_in {rs : List M.Rec} (hok : ∀ r ∈ rs, M.Ok r) (hn : 0 < rs.length) (t : Int) : M.InB M.cubeLo M.cubeHi (M.pose t rs) := by
  match rs, hn with
  | r :: rs, _ =>
    have hr := hok r (List.mem_cons_self ..)
    show M.InB _ _ (if t ≤ 256 * r.tick then r.pos else M.poseF r t (r :: rs))
    split
    · exact cube_inB hr.c
    · exact poseF_in t (r :: rs) r hr (by omega) hok
theorem poseAt_in {s : M.PSeat} (h : s.Shown) (hl : 0 < s.health) (t : Int) : M.InB M.cubeLo M.cubeHi (s.poseAt t) := by
  have n1 := h.n1 hl
  refine pose_in (fun r hr => ?_) (by rw [recs_len]; omega) t
  obtain ⟨i, hi⟩ := List.mem_iff_getElem?.1 hr
  obtain ⟨h1, h2⟩ := recs_at s hi
  rw [← h2]; exact h.tr i (by omega)
theorem first_skip {g : M.PGame} {sh : Nat} {p d : M.V3} {t : Int} {j : Nat} (h : j = sh ∨ ¬ 0 < (g.seat j).health) : g.firstTo sh p d t (j + 1) = g.firstTo sh p d t j := by
  show g.look sh p d t j _ = _
  unfold M.PGame.look; rw [if_pos h]
theorem first_new {g : M.PGame} {sh : Nat} {p d : M.V3} {t : Int} {j : Nat} (h : ¬ (j = sh ∨ ¬ 0 < (g.seat j).health)) {H : M.Hit} (hH : M.hitAt p d ((g.seat j).poseAt t) = H) :
    g.firstTo sh p d t (j + 1) = if M.Hit.ahead H (g.firstTo sh p d t j).2 = true then (j, H) else g.firstTo sh p d t j := by
  show g.look sh p d t j _ = _
  unfold M.PGame.look; rw [if_neg h, hH]
theorem first_ok (g : M.PGame) (sh : Nat) (p d : M.V3) (t : Int) : ∀ n, HitOk (g.firstTo sh p d t n).2
  | 0 => HitOk.none
  | n + 1 => by
    show HitOk (g.look sh p d t n _).2
    unfold M.PGame.look
    split
    · exact first_ok g sh p d t n
    · split
      · exact hitAt_ok _ _ _
      · exact first_ok g sh p d t n

set_option maxRecDepth 100000 in
set_option maxHeartbeats 4000000 in
theorem pFirst_any (b sh : Nat) (mv : Value) (ps : Nat → Bool) (g : M.PGame) (p d : M.V3) (t : Int) (w : World) (h : Pg w b mv ps g) (hsh : sh < 8) (hp : p.Near) (hd : d.Near) (t0 : 0 ≤ t) (t1 : t ≤ 16777215) (hs : ∀ j, j < 8 → (g.seat j).Shown) :
    Calls Tryz.prog 100 #[.pointer (some ⟨b, 0, none⟩), .int .i64 sh, .agg #[.int .i64 p.x, .int .i64 p.y, .int .i64 p.z, .int .i64 d.x, .int .i64 d.y, .int .i64 d.z, .int .i64 t]] w fun e w' => e = .returned (.tuple #[.int .i64 (g.firstTo sh p d t 8).1, hitV (g.firstTo sh p d t 8).2]) ∧ Below w.heap.size w w' := by
  have HP := hid h
  have HS := hid hs
  have hlt := h.lt
  clear h hs
  have HN := hid (And.intro hp hd)
  clear hp hd
  go_enter Tryz.func100, Tryz.ntmps100
  go_wp2_with fail
  go_loopg [8, 10, 11, 12, 13, 15] 9 (fun k u8 u10 u11 u12 u13 u15 wr => ∃ j : Nat, u15 = .int .i64 j ∧ j ≤ 8 ∧ k + j = 9 ∧ ∃ (F : Nat × M.Hit) (s1 : Bool) (x1 x2 x3 : Int), Hid (g.firstTo sh p d t j = F) ∧ u8 = .int .i64 F.1 ∧ Hid (hitV F.2 = .agg #[.bool s1, .int .i64 x1, .int .i64 x2, .int .i64 x3]) ∧ Hid (Blk wr w.heap.size #[.int .i64 p.x, .int .i64 p.y, .int .i64 p.z, .int .i64 d.x, .int .i64 d.y, .int .i64 d.z, .int .i64 t] 164) ∧ Hid (Blk wr (w.heap.size + 1) #[.bool false, .int .i64 0, .int .i64 0, .int .i64 0] 168) ∧ Hid (Blk wr (w.heap.size + 1 + 1) #[.bool s1, .int .i64 x1, .int .i64 x2, .int .i64 x3] 168) ∧ Hid (Below w.heap.size w wr))
  case atStart => exact ⟨0, rfl, by omega, rfl, (0, none), _, _, _, _, rfl, rfl, rfl, hid (by repeat' (first | (with_reducible assumption) | (refine Blk.new ?_; (first | (simp; done) | rfl); done) | (with_reducible refine Blk.alloc ?_) | (with_reducible refine Blk.drew ?_) | (with_reducible refine Blk.drewN ?_))), hid (by repeat' (first | (with_reducible assumption) | (refine Blk.new ?_; (first | (simp; done) | rfl); done) | (with_reducible refine Blk.alloc ?_) | (with_reducible refine Blk.drew ?_) | (with_reducible refine Blk.drewN ?_))), hid (by repeat' (first | (with_reducible assumption) | (refine Blk.new ?_; (first | (simp; done) | rfl); done) | (with_reducible refine Blk.alloc ?_) | (with_reducible refine Blk.drew ?_) | (with_reducible refine Blk.drewN ?_))), by unfold Hid; go_grown⟩
  case round =>
    obtain ⟨j, rfl, hj, hk, F, s1, x1, x2, x3, HF, rfl, HV, QS, QZ, QL, BW⟩ := hrel
    have PW := hid (HP.out.after BW.out)
    have hltW := PW.out.lt
    by_cases hlt8 : j < 8
    · have j0 : (0 : Int) ≤ (j : Int) := by omega
      have j1 : (j : Int) < 8 := by omega
      have c46 := (PW.out.se hlt8).c46
      by_cases hsj : j = sh
      · have z : ((j : Int) == (sh : Int)) = true := by simp [hsj]
        have HF2 : Hid (g.firstTo sh p d t (j + 1) = F) := by unfold Hid; rw [first_skip (.inl hsj)]; exact HF.out
        clear hsj HF
        go_wp2
        go_roundg (gk - 1)
        case measure => omega
        case rel => exact ⟨j + 1, by go_num, by omega, by omega, F, s1, x1, x2, x3, HF2, rfl, HV, QS, QZ, QL, BW⟩
      · have z : ((j : Int) == (sh : Int)) = false := by simp; omega
        by_cases hl : 0 < (g.seat j).health
        · have HL : Hid (decide (0 < (g.seat j).health) = true) := decide_eq_true hl
          obtain ⟨q, hq⟩ : ∃ q, (g.seat j).poseAt t = q := ⟨_, rfl⟩
          obtain ⟨H, hH⟩ : ∃ H, M.hitAt p d ((g.seat j).poseAt t) = H := ⟨_, rfl⟩
          have HF2 : Hid (g.firstTo sh p d t (j + 1) = if M.Hit.ahead H F.2 = true then (j, H) else F) := by unfold Hid; rw [first_new (by simp [hsj, hl]) hH, HF.out]
          obtain ⟨B, hB⟩ : ∃ B, M.Hit.ahead H F.2 = B := ⟨_, rfl⟩
          rw [hB] at HF2
          have OH := hid (show HitOk H from hH ▸ hitAt_ok _ _ _)
          have OF := hid (show HitOk F.2 from HF.out ▸ first_ok g sh p d t j)
          have sj := (HS.out j hlt8)
          have T1 := hid (fun (W : World) (hR : Range W b (66 + j * 119) 119 (pseatC (g.seat j))) (hb : b < W.heap.size) => trPose_any b (66 + j * 119) (g.seat j) t W hR hb (sj.n1 hl) sj.n2 sj.tr t0 t1 q hq)
          have T2 := hid (fun W => shEnter_any p d q t W HN.out.1 HN.out.2 (hq ▸ poseAt_in sj hl t) H (hq ▸ hH))
          have T3 := hid (fun W => ahead_any H F.2 W OH.out OF.out B hB)
          obtain ⟨s2, y1, y2, y3, e2⟩ := hitV_lit H
          have E2 := hid e2
          rw [e2] at T2 T3
          rw [HV.out] at T3
          clear hl HF hsj hq hH hB sj OH OF e2
          have hcs := hid (fun (W : World) (hB : Below wr.heap.size wr W) (k : Nat) (hk : k < 119) => ((PW.out.after hB).cs j k hlt8 hk))
          go_wp2_with fail
          refine (live_any b (66 + j * 119 + 40) _ (g.seat j).health c46 true HL).mono ?_
          rintro e w1 ⟨rfl, rfl⟩
          obtain ⟨c0, c1, c2, c3, c4, c5, c6, cf, cl⟩ := QS.out.seven7
          have e3 : w1.heap.size ≠ w.heap.size := by omega
          have e5 : w1.heap.size ≠ b := by omega
          go_upto_region 8 with fail
          go_cut [12] (fun c wx => ∃ gB : Nat, c = .pointer (some ⟨gB, 0, none⟩) ∧ Blk wx gB #[.int .i64 q.x, .int .i64 q.y, .int .i64 q.z] 27 ∧ Below w1.heap.size w1 wx)
          case first =>
            go_region_held3 (fun w' => w'.cell? ⟨w.heap.size, 6, none⟩ = some (.int .i64 t)) (go_keep)
              (first | (go_at_call 112; refine (T1.out (w1.alloc (.cells #[.int .i64 0, .int .i64 0, .int .i64 0] 27)).drew (fun k hk => hcs.out _ (by go_grown) k hk) (by simp; omega)).mono ?_; rintro e w2 ⟨rfl, hb2⟩; have B2 : Below w1.heap.size w1 w2 := bl (by go_grown) hb2; obtain ⟨d0, d1, d2, d3, d4, d5, d6, df, dl⟩ := (QS.out.after B2).seven7; have e1 : w2.heap.size ≠ w.heap.size := (by have := B2.size; omega); have qg := (show Blk (w1.alloc (.cells #[.int .i64 0, .int .i64 0, .int .i64 0] 27)).drew w1.heap.size #[.int .i64 0, .int .i64 0, .int .i64 0] 27 from Blk.drew (Blk.new rfl)).after hb2; obtain ⟨g0, g1, g2, gf, gl⟩ := qg.three) | (go_at_call 112; refine (T1.out w1.drew (fun k hk => hcs.out _ (by go_grown) k hk) (by simpa using hltW)).mono ?_; rintro e w2 ⟨rfl, hb2⟩; have B2 : Below w1.heap.size w1 w2 := bl (by go_grown) hb2; obtain ⟨d0, d1, d2, d3, d4, d5, d6, df, dl⟩ := (QS.out.after B2).seven7; have e1 : w2.heap.size ≠ w.heap.size := (by have := B2.size; omega)))
            all_goals
              go_wp2_with fail
              go_meet
              first | exact ⟨w2.heap.size, rfl, Blk.new rfl, by have := B2.size; go_grown⟩ | exact ⟨w1.heap.size, rfl, ((qg.set 0 _).set 1 _).set 2 _, by have := B2.size; go_grown⟩
          case rest =>
            obtain ⟨gB, rfl, QG, BX⟩ := hcut
            generalize wc = X at *
            have QSX := hid (QS.out.after BX)
            have QZX := hid (QZ.out.after BX)
            have QLX := hid (QL.out.after BX)
            have BXw := hid (bl BW.out BX)
            have zX := BX.size
            have HG := hid QG
            clear QS QZ QL BW BX QG c0 c1 c2 c3 c4 c5 c6 cf cl e3 e5 T1 hcs c46 PW
            obtain ⟨c0, c1, c2, c3, c4, c5, c6, cf, cl⟩ := QSX.out.seven7
            obtain ⟨g0, g1, g2, gf, gl⟩ := HG.out.three
            go_wp2_with fail
            refine (T2.out _).mono ?_
            rintro e w3 ⟨rfl, hb3⟩
            have QS3 := hid (QSX.out.after hb3)
            have QZ3 := hid (QZX.out.after hb3)
            have QL3 := hid (QLX.out.after hb3)
            have lq := QL3.out.lt
            have B3 := hid (bl BXw.out hb3)
            have z3 := hb3.size
            clear QSX QZX QLX BXw HG hb3 c0 c1 c2 c3 c4 c5 c6 cf cl g0 g1 g2 gf gl T2
            obtain ⟨l0, l1, l2, l3, lf, ll⟩ := QL3.out.four
            go_wp2_with fail
            refine (T3.out _).mono ?_
            rintro e w4 ⟨rfl, hb4⟩
            have QS4 := hid ((show Blk _ w.heap.size #[.int .i64 p.x, .int .i64 p.y, .int .i64 p.z, .int .i64 d.x, .int .i64 d.y, .int .i64 d.z, .int .i64 t] 164 from Blk.alloc QS3.out).after hb4)
            have QZ4 := hid ((show Blk _ (w.heap.size + 1) #[.bool false, .int .i64 0, .int .i64 0, .int .i64 0] 168 from Blk.alloc QZ3.out).after hb4)
            have QL4 := hid ((show Blk _ (w.heap.size + 1 + 1) #[.bool s1, .int .i64 x1, .int .i64 x2, .int .i64 x3] 168 from Blk.alloc QL3.out).after hb4)
            have QH4 := hid ((show Blk _ w3.heap.size #[.bool s2, .int .i64 y1, .int .i64 y2, .int .i64 y3] 168 from Blk.new rfl).after hb4)
            have B4 := hid (show Below w.heap.size w w4 from bl (by have := B3.out; go_grown) hb4)
            have z4 := hb4.size
            clear QS3 QZ3 QL3 B3 hb4 l0 l1 l2 l3 lf ll T3
            obtain ⟨l0, l1, l2, l3, lf, ll⟩ := QL4.out.four
            obtain ⟨h0, h1, h2, h3, hf, hl'⟩ := QH4.out.four
            have lz := QS4.out.lt
            have n1 : w3.heap.size ≠ w.heap.size + 1 + 1 := by omega
            cases B
            · go_wp2
              go_roundg (gk - 1)
              case measure => omega
              case rel => exact ⟨j + 1, by go_num, by omega, by omega, F, s1, x1, x2, x3, HF2, rfl, HV, QS4, QZ4, QL4, B4⟩
            · go_wp2
              go_roundg (gk - 1)
              case measure => omega
              case rel => exact ⟨j + 1, by go_num, by omega, by omega, (j, H), s2, y1, y2, y3, HF2, rfl, E2, hid (QS4.out.apart4 (by omega) _ _ _ _), hid (QZ4.out.apart4 (by omega) _ _ _ _), hid (QL4.out.set4 _ _ _ _), by have := B4.out; unfold Hid; go_grown⟩
        · have HL : Hid (decide (0 < (g.seat j).health) = false) := decide_eq_false hl
          have HF2 : Hid (g.firstTo sh p d t (j + 1) = F) := by unfold Hid; rw [first_skip (.inr hl)]; exact HF.out
          clear hl HF hsj
          go_wp2_with fail
          refine (live_any b (66 + j * 119 + 40) _ (g.seat j).health c46 false HL).mono ?_
          rintro e w1 ⟨rfl, rfl⟩
          go_wp2
          go_roundg (gk - 1)
          case measure => omega
          case rel => exact ⟨j + 1, by go_num, by omega, by omega, F, s1, x1, x2, x3, HF2, rfl, HV, QS, QZ, QL, BW⟩
    · have j1 : ¬ (j : Int) < 8 := by omega
      obtain rfl : j = 8 := by omega
      have HFo := hid HF.out
      obtain ⟨r0, r1, r2, r3, rf, rl⟩ := QZ.out.four
      obtain ⟨l0, l1, l2, l3, lf, ll⟩ := QL.out.four
      go_wp2_with fail
      go_region
      all_goals go_wp2
      all_goals exact bodyPost_ret (v := .tuple #[.int .i64 F.1, .agg #[.bool s1, .int .i64 x1, .int .i64 x2, .int .i64 x3]]) (by simp [results, Tryz.results100, go_sem, *]) rfl ⟨by rw [HFo.out, HV.out], by have := BW.out; go_grown⟩

end Go.Proofs.YtonmihojfcjmjaaGreat
