import Derived.Test.YtonmihojfcjmjabPg4
/- Contracts: a track's records. -/
namespace Go.Proofs.Ytonmihojfcjmjab
open Go.RowKit
set_option linter.unusedVariables false
attribute [local go_sem] cell_set_off cell_set_blk

theorem big4 (a : Addr) : loadCellsFrom a 0 4 #[] = big 4 a := rfl
theorem big4' (a : Addr) : loadCells a 4 = big 4 a := rfl
/-- A slot, the first j - 1 of its records gone. -/
def M.PSeat.tshift (s : M.PSeat) (j : Nat) : M.PSeat := { s with track := fun i => if i + 1 < j then s.track (i + 1) else s.track i }
theorem tshift_1 (s : M.PSeat) : s.tshift 1 = s := by
  unfold M.PSeat.tshift
  have : (fun i => if i + 1 < 1 then s.track (i + 1) else s.track i) = s.track := by funext i; rw [if_neg (by omega)]
  rw [this]
/-- The oldest record is gone. -/
def M.PSeat.drop1 (s : M.PSeat) : M.PSeat := { s.tshift 17 with count := 16 }

theorem tshift_cell (s : M.PSeat) (i k : Nat) (hk : k < 4) (hi : i < 16) : pseatC (s.tshift (i + 1)) (50 + (i + 1) * 4 + k) = recC (s.track (i + 1)) k := by
  unfold pseatC
  iterate 3 rw [if_neg (by omega)]
  iterate 12 rw [if_neg (by omega)]
  rw [if_pos (by omega), show (50 + (i + 1) * 4 + k - 50) / 4 = i + 1 by omega, show (50 + (i + 1) * 4 + k - 50) % 4 = k by omega]
  show recC (if i + 1 + 1 < i + 1 then s.track (i + 1 + 1) else s.track (i + 1)) k = _
  rw [if_neg (by omega)]
theorem pseatC_tr (s s' : M.PSeat) (j : Nat) (h0 : s.taken = s'.taken) (h1 : s.gen = s'.gen) (h2 : s.last = s'.last) (h3 : s.q = s'.q) (h4 : s.waiting = s'.waiting) (h5 : s.home = s'.home) (h6 : s.place = s'.place) (h7 : s.health = s'.health) (h8 : s.ammo = s'.ammo) (h9 : s.ready = s'.ready) (h10 : s.back = s'.back)
    (ht : 50 ≤ j → j < 118 → recC (s.track ((j - 50) / 4)) ((j - 50) % 4) = recC (s'.track ((j - 50) / 4)) ((j - 50) % 4)) (hc : 118 ≤ j → s.count = s'.count) : pseatC s j = pseatC s' j := by
  unfold pseatC
  rw [h0, h1, h2, h3, h4, h5, h6, h7, h8, h9, h10]
  exact ite_c (fun _ => rfl) (fun _ => ite_c (fun _ => rfl) (fun _ => ite_c (fun _ => rfl) (fun _ => ite_c (fun _ => rfl) (fun _ => ite_c (fun _ => rfl) (fun _ => ite_c (fun _ => rfl) (fun _ => ite_c (fun _ => rfl) (fun _ => ite_c (fun _ => rfl) (fun _ => ite_c (fun _ => rfl) (fun _ => ite_c (fun _ => rfl) (fun _ => ite_c (fun _ => rfl) (fun _ => ite_c (fun _ => rfl) (fun _ => ite_c (fun _ => rfl) (fun _ => ite_c (fun _ => rfl) (fun _ => ite_c (fun _ => rfl) (fun _ => ite_c (fun h => ht (by omega) h) (fun h => by rw [hc (by omega)]))))))))))))))))
theorem tshift_next (s : M.PSeat) (i : Nat) (hi : i < 16) (j : Nat) : (if 50 + i * 4 ≤ j ∧ j < 50 + i * 4 + 4 then recC (s.track (i + 1)) (j - (50 + i * 4)) else pseatC (s.tshift (i + 1)) j) = pseatC (s.tshift (i + 1 + 1)) j := by
  by_cases e : 50 + i * 4 ≤ j ∧ j < 50 + i * 4 + 4
  · rw [if_pos e]
    unfold pseatC
    iterate 3 rw [if_neg (by omega)]
    iterate 12 rw [if_neg (by omega)]
    rw [if_pos (by omega), show (j - 50) / 4 = i by omega, show (j - 50) % 4 = j - (50 + i * 4) by omega]
    show _ = recC (if i + 1 < i + 1 + 1 then s.track (i + 1) else s.track i) _
    rw [if_pos (by omega)]
  · rw [if_neg e]
    refine pseatC_tr _ _ j rfl rfl rfl rfl rfl rfl rfl rfl rfl rfl rfl (fun h1 h2 => ?_) (fun _ => rfl)
    show recC (if (j - 50) / 4 + 1 < i + 1 then s.track ((j - 50) / 4 + 1) else s.track ((j - 50) / 4)) _ = recC (if (j - 50) / 4 + 1 < i + 1 + 1 then s.track ((j - 50) / 4 + 1) else s.track ((j - 50) / 4)) _
    by_cases h : (j - 50) / 4 + 1 < i + 1
    · rw [if_pos h, if_pos (by omega)]
    · rw [if_neg h, if_neg (by omega)]
theorem drop_cell (s : M.PSeat) (j : Nat) (hj : j < 119) : (if j = 118 then Value.int .i64 16 else pseatC (s.tshift 17) j) = pseatC s.drop1 j := by
  by_cases e : j = 118
  · subst e; rfl
  · rw [if_neg e]
    exact pseatC_tr _ _ j rfl rfl rfl rfl rfl rfl rfl rfl rfl rfl rfl (fun h1 h2 => rfl) (fun h => by omega)

attribute [local go_sem ↓] big4 big4' in
set_option maxRecDepth 100000 in
set_option maxHeartbeats 4000000 in
theorem trDrop_any (b o : Nat) (s : M.PSeat) (w : World) (hR : Range w b o 119 (pseatC s)) (hf : ∀ i, w.frozen? ⟨b, i, none⟩ = false) (hlt : b < w.heap.size) :
    Calls Try.prog 87 #[.pointer (some ⟨b, o + 50, none⟩)] w fun e w' => e = .returned (.tuple #[]) ∧ Range w' b o 119 (pseatC s.drop1) ∧ OnR b o 119 w w' := by
  have HR := hid hR
  have HF := hid hf
  clear hR hf
  go_enter Try.func87, Try.ntmps87
  go_wp2_with fail
  go_loopg [2] 17 (fun k u2 wr => ∃ j : Nat, u2 = .int .i64 j ∧ 1 ≤ j ∧ j ≤ 17 ∧ k + j = 18 ∧ Hid (Range wr b o 119 (pseatC (s.tshift j))) ∧ Hid (OnR b o 119 w wr))
  case atStart => exact ⟨1, rfl, by omega, by omega, by omega, by unfold Hid; rw [tshift_1]; exact HR.out, OnR.refl _ _ _ _⟩
  case round =>
    obtain ⟨j, rfl, j1, j17, hk, HRj, HOj⟩ := hrel
    have fw : ∀ n, wr.frozen? ⟨b, n, none⟩ = false := fun n => (HOj.out.fz n).trans (HF.out n)
    by_cases hlt17 : j < 17
    · obtain ⟨i, rfl⟩ : ∃ i, j = i + 1 := ⟨j - 1, by omega⟩
      have i0 : (0 : Int) ≤ (i : Int) := by omega
      have i1 : (i : Int) < 17 := by omega
      have i2 : (i : Int) + 1 < 17 := by omega
      have i3 : (0 : Int) ≤ (i : Int) + 1 := by omega
      have wz : IntKind.i64.wrap (i : Int) = (i : Int) := IntWalk.i64_in _ ⟨by omega, by omega⟩
      have tn : ((i : Int) + 1).toNat = i + 1 := by omega
      have lda : (big 4 ⟨b, o + 50 + (i + 1) * 4, none⟩).run Try.prog wr.drew = .ok (cellsOf 4 (recC (s.track (i + 1)))) wr.drew := big_range (fun k hk => by
        have := HRj.out (50 + (i + 1) * 4 + k) (by omega)
        rw [show o + 50 + (i + 1) * 4 + k = o + (50 + (i + 1) * 4 + k) by omega]
        show wr.cell? _ = _
        rw [this]
        exact congrArg some (tshift_cell s i k hk (by omega)))
      have hstb := store_range (P := Try.prog) (W := wr.drew) (b := b) (o := o + 50 + i * 4) (cellsOf 4 (recC (s.track (i + 1)))).toList (fun k hk => by
        have h9 : k < 4 := by simpa [cellsOf] using hk
        have := HRj.out (50 + i * 4 + k) (by omega)
        rw [show o + 50 + i * 4 + k = o + (50 + i * 4 + k) by omega]
        show (wr.cell? _).isSome = true
        rw [this]; rfl) (fun n => fw n) (cellsOf_one (fun i _ => recC_one _ _))
      have hs4 : (cellsOf 4 (recC (s.track (i + 1)))).size = 4 := cellsOf_size _ _
      have HR2 : Hid (Range (wr.drew.setCells b (o + 50 + i * 4) (cellsOf 4 (recC (s.track (i + 1)))).toList) b o 119 (pseatC (s.tshift (i + 1 + 1)))) := (HRj.out.drew.setNa (o + 50 + i * 4) (50 + i * 4) 4 (by omega) (by omega) (recC (s.track (i + 1)))).congr (fun j hj => tshift_next s i (by omega) j)
      have HO2 : Hid (OnR b o 119 w (wr.drew.setCells b (o + 50 + i * 4) (cellsOf 4 (recC (s.track (i + 1)))).toList)) := HOj.out.drew.trans (OnR.setNa _ (o + 50 + i * 4) (50 + i * 4) (by omega) _ (by simp [cellsOf]; omega))
      go_wp2_with fail
      refine still_tail5 12 (by kernel_rfl) (by kernel_rfl) ?_
      simp only [List.take_succ_cons, List.take_zero, List.drop_succ_cons, List.drop_zero]
      repeat still_step
      refine wpStill_nil ?_
      go_wp2
      go_roundg (gk - 1)
      case measure => omega
      case rel => exact ⟨i + 1 + 1, by go_num, by omega, by omega, by omega, HR2, HO2⟩
    · obtain rfl : j = 17 := by omega
      have c118 : wr.cell? ⟨b, o + 50 + 68, none⟩ = some (.int .i64 s.count) := HRj.out 118 (by omega)
      have RU : Hid (Range (wr.setCell ⟨b, o + 50 + 68, none⟩ (.int .i64 16)) b o 119 (pseatC s.drop1)) := (HRj.out.set1 118 (.int .i64 16)).congr (fun j hj => drop_cell s j hj)
      have OU : Hid (OnR b o 119 w (wr.setCell ⟨b, o + 50 + 68, none⟩ (.int .i64 16))) := HOj.out.trans (OnR.set wr 118 (by omega) _)
      go_wp2
      go_end0
      exact ⟨rfl, RU.out, OU.out⟩

/-- A record is laid behind the others. -/
def M.PSeat.lay (s : M.PSeat) (r : M.Rec) : M.PSeat := { s with track := fun i => if (i : Int) = s.count then r else s.track i, count := s.count + 1 }
def M.PSeat.add (s : M.PSeat) (r : M.Rec) : M.PSeat := if 17 ≤ s.count then s.drop1.lay r else s.lay r

theorem lay_cell (s : M.PSeat) (r : M.Rec) (m : Nat) (hm : s.count = (m : Int)) (hm17 : m < 17) (j : Nat) (hj : j < 119) :
    (if j = 118 then Value.int .i64 ((m : Int) + 1) else if 50 + m * 4 ≤ j ∧ j < 50 + m * 4 + 4 then recC r (j - (50 + m * 4)) else pseatC s j) = pseatC (s.lay r) j := by
  by_cases e : j = 118
  · subst e
    show Value.int .i64 ((m : Int) + 1) = .int .i64 (s.count + 1)
    rw [hm]
  rw [if_neg e]
  by_cases h : 50 + m * 4 ≤ j ∧ j < 50 + m * 4 + 4
  · rw [if_pos h]
    unfold pseatC
    iterate 3 rw [if_neg (by omega)]
    iterate 12 rw [if_neg (by omega)]
    rw [if_pos (by omega), show (j - 50) / 4 = m by omega, show (j - 50) % 4 = j - (50 + m * 4) by omega]
    show _ = recC (if (m : Int) = s.count then r else s.track m) _
    rw [if_pos hm.symm]
  · rw [if_neg h]
    refine pseatC_tr _ _ j rfl rfl rfl rfl rfl rfl rfl rfl rfl rfl rfl (fun h1 h2 => ?_) (fun h => by omega)
    show _ = recC (if (((j - 50) / 4 : Nat) : Int) = s.count then r else s.track ((j - 50) / 4)) _
    rw [if_neg (by rw [hm]; omega)]

set_option maxRecDepth 100000 in
set_option maxHeartbeats 4000000 in
theorem trAdd_any (b o : Nat) (s : M.PSeat) (r : M.Rec) (w : World) (hR : Range w b o 119 (pseatC s)) (hf : ∀ i, w.frozen? ⟨b, i, none⟩ = false) (hlt : b < w.heap.size) (n0 : 0 ≤ s.count) (n1 : s.count ≤ 17) :
    Calls Try.prog 69 #[.pointer (some ⟨b, o + 50, none⟩), .agg #[.int .i64 r.tick, .int .i64 r.pos.x, .int .i64 r.pos.y, .int .i64 r.pos.z]] w fun e w' => e = .returned (.tuple #[]) ∧ Range w' b o 119 (pseatC (s.add r)) ∧ OnR b o 119 w w' := by
  have c118 : w.cell? ⟨b, o + 50 + 68, none⟩ = some (.int .i64 s.count) := hR 118 (by omega)
  have HR := hid hR
  have HF := hid hf
  clear hR hf
  by_cases h17 : 17 ≤ s.count
  · have HA : Hid (s.add r = s.drop1.lay r) := by unfold Hid M.PSeat.add; rw [if_pos h17]
    rw [HA.out]
    clear HA
    go_enter Try.func69, Try.ntmps69
    go_wp2_with fail
    have B0 : Below w.heap.size w (w.alloc (.cells #[.int .i64 r.tick, .int .i64 r.pos.x, .int .i64 r.pos.y, .int .i64 r.pos.z] 77)) := by go_grown
    have O0 : OnR b o 119 w (w.alloc (.cells #[.int .i64 r.tick, .int .i64 r.pos.x, .int .i64 r.pos.y, .int .i64 r.pos.z] 77)) := OnR.below B0 hlt
    refine (trDrop_any b o s _ (HR.out.block (B0.block b hlt)) (fun i => (O0.fz i).trans (HF.out i)) (by simp; omega)).mono ?_
    rintro e V ⟨rfl, hr, ho⟩
    obtain ⟨m, hm⟩ : ∃ m : Nat, s.drop1.count = (m : Int) := ⟨16, rfl⟩
    have hm17 : m < 17 := by have : (16 : Int) = (m : Int) := hm; omega
    have RV := hid hr
    have OV := hid (O0.trans ho)
    have QV := hid ((show Blk (w.alloc (.cells #[.int .i64 r.tick, .int .i64 r.pos.x, .int .i64 r.pos.y, .int .i64 r.pos.z] 77)) w.heap.size _ _ from Blk.new rfl).on ho.on (by omega))
    have fV : ∀ i, V.frozen? ⟨b, i, none⟩ = false := fun i => (OV.out.fz i).trans (HF.out i)
    have hbne : b ≠ w.heap.size := by omega
    clear B0 O0 hr ho c118
    have cV : V.cell? ⟨b, o + 50 + 68, none⟩ = some (.int .i64 (m : Int)) := by have := RV.out 118 (by omega); rw [show o + 50 + 68 = o + 118 by omega, this, ← hm]; rfl
    have hq : ∀ k, k < 4 → V.cell? ⟨b, o + 50 + m * 4 + k, none⟩ = some (pseatC s.drop1 (50 + m * 4 + k)) := fun k hk => by rw [← RV.out (50 + m * 4 + k) (by omega)]; congr 2; omega
    have k0 := hq 0 (by omega)
    have k1 := hq 1 (by omega)
    have k2 := hq 2 (by omega)
    have k3 := hq 3 (by omega)
    rw [Nat.add_zero] at k0
    have v0 := QV.out.cell 0
    have v1 := QV.out.cell 1
    have v2 := QV.out.cell 2
    have v3 := QV.out.cell 3
    simp only [List.getElem?_toArray, List.getElem?_cons_zero, List.getElem?_cons_succ] at v0 v1 v2 v3
    have RU : Hid (Range (((V.setCells b (o + 50 + m * 4) (cellsOf 4 (recC r)).toList).setCell ⟨b, o + 50 + 68, none⟩ (.int .i64 ((m : Int) + 1))).drew) b o 119 (pseatC (s.drop1.lay r))) := (((RV.out.setNa (o + 50 + m * 4) (50 + m * 4) 4 (by omega) (by omega) (recC r)).set1 118 (.int .i64 ((m : Int) + 1))).drew).congr (fun j hj => lay_cell s.drop1 r m hm hm17 j hj)
    have OU : Hid (OnR b o 119 w (((V.setCells b (o + 50 + m * 4) (cellsOf 4 (recC r)).toList).setCell ⟨b, o + 50 + 68, none⟩ (.int .i64 ((m : Int) + 1))).drew)) := ((OV.out.trans (OnR.setNa V (o + 50 + m * 4) (50 + m * 4) (by omega) (cellsOf 4 (recC r)).toList (by simp [cellsOf]; omega))).trans (OnR.set _ 118 (by omega) (.int .i64 ((m : Int) + 1)))).drew
    have m0 : (0 : Int) ≤ (m : Int) := by omega
    have m1 : (m : Int) < 17 := by omega
    clear hq
    go_wp2_with fail
    refine still_tail5 9 (by kernel_rfl) (by kernel_rfl) ?_
    simp only [List.take_succ_cons, List.take_zero, List.drop_succ_cons, List.drop_zero]
    repeat still_step
    refine wpStill_nil ?_
    go_wp2
    go_end0
    exact ⟨rfl, RU.out, OU.out⟩
  · have HA : Hid (s.add r = s.lay r) := by unfold Hid M.PSeat.add; rw [if_neg h17]
    rw [HA.out]
    clear HA
    obtain ⟨m, hm⟩ : ∃ m : Nat, s.count = (m : Int) := ⟨s.count.toNat, by omega⟩
    have hm17 : m < 17 := by omega
    go_enter Try.func69, Try.ntmps69
    go_wp2_with fail
    obtain ⟨V, hV⟩ : ∃ V, w.alloc (.cells #[.int .i64 r.tick, .int .i64 r.pos.x, .int .i64 r.pos.y, .int .i64 r.pos.z] 77) = V := ⟨_, rfl⟩
    have B0 : Below w.heap.size w V := by rw [← hV]; go_grown
    have OV := hid (OnR.below (o := o) (n := 119) B0 hlt)
    have RV := hid (HR.out.block (B0.block b hlt))
    have QV := hid (show Blk V w.heap.size #[.int .i64 r.tick, .int .i64 r.pos.x, .int .i64 r.pos.y, .int .i64 r.pos.z] 77 from by rw [← hV]; exact Blk.new rfl)
    have fV : ∀ i, V.frozen? ⟨b, i, none⟩ = false := fun i => (OV.out.fz i).trans (HF.out i)
    have hbne : b ≠ w.heap.size := by omega
    rw [hV]
    clear B0 c118 hV
    have cV : V.cell? ⟨b, o + 50 + 68, none⟩ = some (.int .i64 (m : Int)) := by have := RV.out 118 (by omega); rw [show o + 50 + 68 = o + 118 by omega, this, ← hm]; rfl
    have hq : ∀ k, k < 4 → V.cell? ⟨b, o + 50 + m * 4 + k, none⟩ = some (pseatC s (50 + m * 4 + k)) := fun k hk => by rw [← RV.out (50 + m * 4 + k) (by omega)]; congr 2; omega
    have k0 := hq 0 (by omega)
    have k1 := hq 1 (by omega)
    have k2 := hq 2 (by omega)
    have k3 := hq 3 (by omega)
    rw [Nat.add_zero] at k0
    have v0 := QV.out.cell 0
    have v1 := QV.out.cell 1
    have v2 := QV.out.cell 2
    have v3 := QV.out.cell 3
    simp only [List.getElem?_toArray, List.getElem?_cons_zero, List.getElem?_cons_succ] at v0 v1 v2 v3
    have RU : Hid (Range (((V.setCells b (o + 50 + m * 4) (cellsOf 4 (recC r)).toList).setCell ⟨b, o + 50 + 68, none⟩ (.int .i64 ((m : Int) + 1))).drew) b o 119 (pseatC (s.lay r))) := (((RV.out.setNa (o + 50 + m * 4) (50 + m * 4) 4 (by omega) (by omega) (recC r)).set1 118 (.int .i64 ((m : Int) + 1))).drew).congr (fun j hj => lay_cell s r m hm hm17 j hj)
    have OU : Hid (OnR b o 119 w (((V.setCells b (o + 50 + m * 4) (cellsOf 4 (recC r)).toList).setCell ⟨b, o + 50 + 68, none⟩ (.int .i64 ((m : Int) + 1))).drew)) := ((OV.out.trans (OnR.setNa V (o + 50 + m * 4) (50 + m * 4) (by omega) (cellsOf 4 (recC r)).toList (by simp [cellsOf]; omega))).trans (OnR.set _ 118 (by omega) (.int .i64 ((m : Int) + 1)))).drew
    have m0 : (0 : Int) ≤ (m : Int) := by omega
    have m1 : (m : Int) < 17 := by omega
    clear hq
    refine still_tail5 9 (by kernel_rfl) (by kernel_rfl) ?_
    simp only [List.take_succ_cons, List.take_zero, List.drop_succ_cons, List.drop_zero]
    repeat still_step
    refine wpStill_nil ?_
    go_wp2
    go_end0
    exact ⟨rfl, RU.out, OU.out⟩

end Go.Proofs.Ytonmihojfcjmjab
