import Derived.Test.YtonmihojfcjmjabBSh
import Derived.Test.YtonmihojfcjmjabPg4
/- Contracts of the program's shots: a track's pose; hurt. -/
namespace Go.Proofs.Ytonmihojfcjmjab
open Go.RowKit
set_option linter.unusedVariables false
attribute [local go_sem] cell_set_off cell_set_blk
attribute [local go_sem ↓] big65 big65'

theorem recs_len (s : M.PSeat) : s.recs.length = s.count.toNat := by unfold M.PSeat.recs; simp
theorem recs_at (s : M.PSeat) {i : Nat} {r : M.Rec} (h : s.recs[i]? = some r) : i < s.count.toNat ∧ s.track i = r := by
  unfold M.PSeat.recs at h
  rw [List.getElem?_map] at h
  by_cases hi : i < s.count.toNat
  · rw [List.getElem?_range hi] at h
    exact ⟨hi, by simpa using h⟩
  · rw [List.getElem?_eq_none (by simpa using Nat.le_of_not_lt hi)] at h; cases h
theorem pseatC_rec (s : M.PSeat) (i k : Nat) (hi : i < 17) (hk : k < 4) : pseatC s (50 + i * 4 + k) = recC (s.track i) k := by
  unfold pseatC
  iterate 3 rw [if_neg (by omega)]
  iterate 12 rw [if_neg (by omega)]
  rw [if_pos (by omega), show (50 + i * 4 + k - 50) / 4 = i by omega, show (50 + i * 4 + k - 50) % 4 = k by omega]
theorem rr_of {w : World} {b o : Nat} {s : M.PSeat} (hR : Range w b o 119 (pseatC s)) (hlt : b < w.heap.size) (h17 : s.count ≤ 17) : RR w b (o + 50) s.recs := by
  have key : ∀ i k : Nat, ∀ r, k < 4 → s.recs[i]? = some r → w.cell? ⟨b, o + 50 + i * 4 + k, none⟩ = some (recC r k) := fun i k r hk hr => by
    obtain ⟨h1, h2⟩ := recs_at s hr
    have hi : i < 17 := by omega
    rw [show o + 50 + i * 4 + k = o + (50 + i * 4 + k) by omega, hR (50 + i * 4 + k) (by omega), pseatC_rec s i k hi hk, h2]
  exact ⟨fun i r h => key i 0 r (by omega) h, fun i r h => key i 1 r (by omega) h, fun i r h => key i 2 r (by omega) h, fun i r h => key i 3 r (by omega) h, hlt⟩

set_option maxRecDepth 100000 in
set_option maxHeartbeats 4000000 in
theorem trPose_any (b o : Nat) (s : M.PSeat) (t : Int) (w : World) (hR : Range w b o 119 (pseatC s)) (hlt : b < w.heap.size) (n1 : 1 ≤ s.count) (n2 : s.count ≤ 17) (hok : ∀ i : Nat, (i : Int) < s.count → M.Ok (s.track i)) (t0 : 0 ≤ t) (t1 : t ≤ 16777215) (q : M.V3) (hq : Hid (s.poseAt t = q)) :
    Calls Try.prog 88 #[.pointer (some ⟨b, o + 50, none⟩), .int .i64 t] w fun e w' => e = .returned (.agg #[.int .i64 q.x, .int .i64 q.y, .int .i64 q.z]) ∧ Below w.heap.size w w' := by
  obtain ⟨n, hn⟩ : ∃ n : Nat, s.count = (n : Int) := ⟨s.count.toNat, by omega⟩
  have hlen : s.recs.length = n := by rw [recs_len, hn]; rfl
  have c118 : w.cell? ⟨b, o + 50 + 68, none⟩ = some (.int .i64 (n : Int)) := by have := hR 118 (by omega); rw [show o + 50 + 68 = o + 118 by omega, this, ← hn]; rfl
  have HR := hid (rr_of hR hlt n2)
  have HK : Hid (∀ r ∈ s.recs, M.Ok r) := fun r hr => by
    obtain ⟨i, hi⟩ := List.mem_iff_getElem?.1 hr
    obtain ⟨h1, h2⟩ := recs_at s hi
    rw [← h2]; exact hok i (by omega)
  have a0 : (0 : Int) ≤ (n : Int) := by omega
  have a1 : (n : Int) ≤ 17 := by omega
  have a2 : (1 : Int) ≤ (n : Int) := by omega
  have HL := hid hlen
  clear hR hok n1 n2 hn hlen
  go_enter Try.func88, Try.ntmps88
  go_wp2_with fail
  refine still_tail5 9 (by kernel_rfl) (by kernel_rfl) ?_
  simp only [List.take_succ_cons, List.take_zero, List.drop_succ_cons, List.drop_zero]
  repeat still_step
  refine wpStill_nil ?_
  have hp := pastPose_any b (o + 50) 17 s.recs t (w.alloc (.cells #[.int .i64 0, .int .i64 0, .int .i64 0] 33)).drew (HR.out.of (Below.heap_alloc w _ b hlt) (by simp; omega)) (by rw [HL.out]; omega) (by rw [HL.out]; omega) HK.out t0 t1 q hq
  rw [HL.out] at hp
  have Hp := hid hp
  clear hp HR HK hq
  go_wp2_with fail
  refine Hp.out.mono ?_
  rintro e w1 ⟨rfl, hb⟩
  have q0 := (show Blk (w.alloc (.cells #[.int .i64 0, .int .i64 0, .int .i64 0] 33)).drew w.heap.size #[.int .i64 0, .int .i64 0, .int .i64 0] 33 from Blk.drew (Blk.new rfl)).after hb
  have B1 : Below w.heap.size w w1 := bl (by go_grown) hb
  obtain ⟨z0, z1, z2, zf, zl⟩ := q0.three
  have hz := B1.size
  clear hb Hp HL
  go_wp2
  exact bodyPost_ret (v := .agg #[.int .i64 q.x, .int .i64 q.y, .int .i64 q.z]) (by simp [results, Try.results88, go_sem, *]) rfl ⟨rfl, by go_grown⟩

theorem health_cell (s : M.PSeat) (h : Int) (j : Nat) : (if j = 46 then Value.int .i64 h else pseatC s j) = pseatC { s with health := h } j := by
  by_cases e : j = 46
  · subst e; rfl
  · rw [if_neg e]
    unfold pseatC
    exact ite_c (fun _ => rfl) (fun _ => ite_c (fun _ => rfl) (fun _ => ite_c (fun _ => rfl) (fun _ => ite_c (fun _ => rfl) (fun _ => ite_c (fun _ => rfl) (fun _ => ite_c (fun _ => rfl) (fun _ => ite_c (fun _ => rfl) (fun _ => ite_c (fun _ => rfl) (fun _ => ite_c (fun _ => rfl) (fun _ => ite_c (fun _ => rfl) (fun _ => ite_c (fun _ => rfl) (fun _ => ite_c (fun x => absurd x e) (fun _ => rfl))))))))))))
theorem back_cell (s : M.PSeat) (h : Int) (j : Nat) : (if j = 49 then Value.int .i64 h else pseatC s j) = pseatC { s with back := h } j := by
  by_cases e : j = 49
  · subst e; rfl
  · rw [if_neg e]
    unfold pseatC
    exact ite_c (fun _ => rfl) (fun _ => ite_c (fun _ => rfl) (fun _ => ite_c (fun _ => rfl) (fun _ => ite_c (fun _ => rfl) (fun _ => ite_c (fun _ => rfl) (fun _ => ite_c (fun _ => rfl) (fun _ => ite_c (fun _ => rfl) (fun _ => ite_c (fun _ => rfl) (fun _ => ite_c (fun _ => rfl) (fun _ => ite_c (fun _ => rfl) (fun _ => ite_c (fun _ => rfl) (fun _ => ite_c (fun _ => rfl) (fun _ => ite_c (fun _ => rfl) (fun _ => ite_c (fun _ => rfl) (fun _ => ite_c (fun x => absurd x e) (fun _ => rfl)))))))))))))))
theorem ammo_cell (s : M.PSeat) (h : Int) (j : Nat) : (if j = 47 then Value.int .i64 h else pseatC s j) = pseatC { s with ammo := h } j := by
  by_cases e : j = 47
  · subst e; rfl
  · rw [if_neg e]
    unfold pseatC
    exact ite_c (fun _ => rfl) (fun _ => ite_c (fun _ => rfl) (fun _ => ite_c (fun _ => rfl) (fun _ => ite_c (fun _ => rfl) (fun _ => ite_c (fun _ => rfl) (fun _ => ite_c (fun _ => rfl) (fun _ => ite_c (fun _ => rfl) (fun _ => ite_c (fun _ => rfl) (fun _ => ite_c (fun _ => rfl) (fun _ => ite_c (fun _ => rfl) (fun _ => ite_c (fun _ => rfl) (fun _ => ite_c (fun _ => rfl) (fun _ => ite_c (fun x => absurd x e) (fun _ => rfl)))))))))))))
theorem ready_cell (s : M.PSeat) (h : Int) (j : Nat) : (if j = 48 then Value.int .i64 h else pseatC s j) = pseatC { s with ready := h } j := by
  by_cases e : j = 48
  · subst e; rfl
  · rw [if_neg e]
    unfold pseatC
    exact ite_c (fun _ => rfl) (fun _ => ite_c (fun _ => rfl) (fun _ => ite_c (fun _ => rfl) (fun _ => ite_c (fun _ => rfl) (fun _ => ite_c (fun _ => rfl) (fun _ => ite_c (fun _ => rfl) (fun _ => ite_c (fun _ => rfl) (fun _ => ite_c (fun _ => rfl) (fun _ => ite_c (fun _ => rfl) (fun _ => ite_c (fun _ => rfl) (fun _ => ite_c (fun _ => rfl) (fun _ => ite_c (fun _ => rfl) (fun _ => ite_c (fun _ => rfl) (fun _ => ite_c (fun x => absurd x e) (fun _ => rfl))))))))))))))

set_option maxRecDepth 100000 in
set_option maxHeartbeats 2000000 in
theorem hurt_any (b o : Nat) (s : M.PSeat) (D t : Int) (w : World) (hR : Range w b o 119 (pseatC s)) (hf : ∀ i, w.frozen? ⟨b, i, none⟩ = false) (h0 : 0 ≤ s.health) (h1 : s.health ≤ 100) (d0 : 0 ≤ D) (d1 : D ≤ 100) (t0 : 0 ≤ t) (t1 : t ≤ 3000) :
    Calls Try.prog 75 #[.pointer (some ⟨b, o + 40, none⟩), .int .i64 D, .int .i64 t] w fun e w' => e = .returned (.tuple #[]) ∧ Range w' b o 119 (pseatC (s.hurt D t)) ∧ OnR b o 119 w w' := by
  have c46 : w.cell? ⟨b, o + 40 + 6, none⟩ = some (.int .i64 s.health) := hR 46 (by omega)
  have c49 : w.cell? ⟨b, o + 40 + 9, none⟩ = some (.int .i64 s.back) := hR 49 (by omega)
  by_cases h : D < s.health
  · have HS : Hid (s.hurt D t = { s with health := s.health - D }) := by unfold Hid M.PSeat.hurt; rw [if_pos h]
    rw [HS.out]
    have R1 := hid ((hR.set1 46 (.int .i64 (s.health - D))).congr (fun j hj => health_cell s (s.health - D) j))
    have O1 := hid (OnR.set (b := b) (o := o) (n := 119) w 46 (by omega) (.int .i64 (s.health - D)))
    clear hR HS
    go_enter Try.func75, Try.ntmps75
    go_wp2
    exact bodyPost_ret (v := .tuple #[]) (by simp [results, Try.results75, go_sem]) rfl ⟨rfl, R1.out, O1.out⟩
  · have HS : Hid (s.hurt D t = { s with health := 0, back := t + 8 }) := by unfold Hid M.PSeat.hurt; rw [if_neg h]
    rw [HS.out]
    have R1 := hid ((((hR.set1 46 (.int .i64 0)).congr (fun j hj => health_cell s 0 j)).set1 49 (.int .i64 (t + 8))).congr (fun j hj => back_cell { s with health := 0 } (t + 8) j))
    have O1 := hid ((OnR.set (b := b) (o := o) (n := 119) w 46 (by omega) (.int .i64 0)).trans (OnR.set _ 49 (by omega) (.int .i64 (t + 8))))
    clear hR HS
    go_enter Try.func75, Try.ntmps75
    go_wp2
    go_end0
    exact ⟨rfl, R1.out, O1.out⟩

end Go.Proofs.Ytonmihojfcjmjab
