import Derived.Test.YtonmihojfcjmjaaGreatBPh
import Derived.Test.YtonmihojfcjmjaaGreatBPn
import Derived.Test.YtonmihojfcjmjaaGreatTr1
import Derived.Deep.DeepCutAuto
import Derived.Deep.MidRow
/- Contracts: a track's records. -/
namespace Go.Proofs.YtonmihojfcjmjaaGreat
open Go.RowKit
set_option linter.unusedVariables false
attribute [local go_sem] cell_set_off cell_set_blk

theorem big4 (a : Addr) : loadCellsFrom a 0 4 #[] = big 4 a := rfl
theorem big4' (a : Addr) : loadCells a 4 = big 4 a := rfl
/-- A slot, the first j - 1 of its records gone. -/
def M.PSeat.tshift (s : M.PSeat) (j : Nat) : M.PSeat := { s with track := fun i => if i + 1 < j then s.track (i + 1) else s.track i }
theorem tshift_1 (s : M.PSeat) : s.tshift 1 = s := by
  unfold M.PSeat.tshift
  have : (fun i => if i + 1 < 1 then s.track (i + 1) else s.track i) = s.track := by funext i; rw [if_neg (by omega)]
  rw [this]
/-- The oldest record is gone. -/
def M.PSeat.drop1 (s : M.PSeat) : M.PSeat := { s.tshift 17 with count := 16 }

theorem tshift_cell (s : M.PSeat) (i k : Nat) (hk : k < 4) (hi : i < 16) : pseatC (s.tshift (i + 1)) (50 + (i + 1) * 4 + k) = recC (s.track (i + 1)) k := by
  unfold pseatC
  iterate 3 rw [if_neg (by omega)]
  iterate 12 rw [if_neg (by omega)]
  rw [if_pos (by omega), show (50 + (i + 1) * 4 + k - 50) / 4 = i + 1 by omega, show (50 + (i + 1) * 4 + k - 50) % 4 = k by omega]
  show recC (if i + 1 + 1 < i + 1 then s.track (i + 1 + 1) else s.track (i + 1)) k = _
  rw [if_neg (by omega)]
theorem pseatC_tr (s s' : M.PSeat) (j : Nat) (h0 : s.taken = s'.taken) (h1 : s.gen = s'.gen) (h2 : s.last = s'.last) (h3 : s.q = s'.q) (h4 : s.waiting = s'.waiting) (h5 : s.home = s'.home) (h6 : s.place = s'.place) (h7 : s.health = s'.health) (h8 : s.ammo = s'.ammo) (h9 : s.ready = s'.ready) (h10 : s.back = s'.back)
    (ht : 50 ≤ j → j < 118 → recC (s.track ((j - 50) / 4)) ((j - 50) % 4) = recC (s'.track ((j - 50) / 4)) ((j - 50) % 4)) (hc : 118 ≤ j → s.count = s'.count) : pseatC s j = pseatC s' j := by
  unfold pseatC
  rw [h0, h1, h2, h3, h4, h5, h6, h7, h8, h9, h10]
  exact ite_c (fun _ => rfl) (fun _ => ite_c (fun _ => rfl) (fun _ => ite_c (fun _ => rfl) (fun _ => ite_c (fun _ => rfl) (fun _ => ite_c (fun _ => rfl) (fun _ => ite_c (fun _ => rfl) (fun _ => ite_c (fun _ => rfl) (fun _ => ite_c (fun _ => rfl) (fun _ => ite_c (fun _ => rfl) (fun _ => ite_c (fun _ => rfl) (fun _ => ite_c (fun _ => rfl) (fun _ => ite_c (fun _ => rfl) (fun _ => ite_c (fun _ => rfl) (fun _ => ite_c (fun _ => rfl) (fun _ => ite_c (fun _ => rfl) (fun _ => ite_c (fun h => ht (by omega) h) (fun h => by rw [hc (by omega)]))))))))))))))))
theorem tshift_next (s : M.PSeat) (i : Nat) (hi : i < 16) (j : Nat) : (if 50 + i * 4 ≤ j ∧ j < 50 + i * 4 + 4 then recC (s.track (i + 1)) (j - (50 + i * 4)) else pseatC (s.tshift (i + 1)) j) = pseatC (s.tshift (i + 1 + 1)) j := by
  by_cases e : 50 + i * 4 ≤ j ∧ j < 50 + i * 4 + 4
  · rw [if_pos e]
    unfold pseatC
    iterate 3 rw [if_neg (by omega)]
    iterate 12 rw [if_neg (by omega)]
    rw [if_pos (by omega), show (j - 50) / 4 = i by omega, show (j - 50) % 4 = j - (50 + i * 4) by omega]
    show _ = recC (if i + 1 < i + 1 + 1 then s.track (i + 1) else s.track i) _
    rw [if_pos (by omega)]
  · rw [if_neg e]
    refine pseatC_tr _ _ j rfl rfl rfl rfl rfl rfl rfl rfl rfl rfl rfl (fun h1 h2 => ?_) (fun _ => rfl)
    show recC (if (j - 50) / 4 + 1 < i + 1 then s.track ((j - 50) / 4 + 1) else s.track ((j - 50) / 4)) _ = recC (if (j - 50) / 4 + 1 < i + 1 + 1 then s.track ((j - 50) / 4 + 1) else s.track ((j - 50) / 4)) _
    by_cases h : (j - 50) / 4 + 1 < i + 1
    · rw [if_pos h, if_pos (by omega)]
    · rw [if_neg h, if_neg (by omega)]
theorem drop_cell (s : M.PSeat) (j : Nat) (hj : j < 119) : (if j = 118 then Value.int .i64 16 else pseatC (s.tshift 17) j) = pseatC s.drop1 j := by
  by_cases e : j = 118
  · subst e; rfl
  · rw [if_neg e]
    exact pseatC_tr _ _ j rfl rfl rfl rfl rfl rfl rfl rfl rfl rfl rfl (fun h1 h2 => rfl) (fun h => by omega)

attribute [local go_sem ↓] big4 big4' in
set_option maxRecDepth 100000 in
set_option maxHeartbeats 4000000 in
theorem trDrop_any (b o : Nat) (s : M.PSeat) (w : World) (hR : Range w b o 119 (pseatC s)) (hf : ∀ i, w.frozen? ⟨b, i, none⟩ = false) (hlt : b < w.heap.size) :
    Calls Tryz.prog 111 #[.pointer (some ⟨b, o + 50, none⟩)] w fun e w' => e = .returned (.tuple #[]) ∧ Range w' b o 119 (pseatC s.drop1) ∧ OnR b o 119 w w' := by
  have HR := hid hR
  have HF := hid hf
  clear hR hf
  go_enter Tryz.func111, Tryz.ntmps111
  go_wp2_with fail
  go_loopg [2] 17 (fun k u2 wr => ∃ j : Nat, u2 = .int .i64 j ∧ 1 ≤ j ∧ j ≤ 17 ∧ k + j = 18 ∧ Hid (Range wr b o 119 (pseatC (s.tshift j))) ∧ Hid (OnR b o 119 w wr))
  case atStart => exact ⟨1, rfl, by omega, by omega, by omega, by unfold Hid; rw [tshift_1]; exact HR.out, OnR.refl _ _ _ _⟩
  case round =>
    obtain ⟨j, rfl, j1, j17, hk, HRj, HOj⟩ := hrel
    have fw : ∀ n, wr.frozen? ⟨b, n, none⟩ = false := fun n => (HOj.out.fz n).trans (HF.out n)
    by_cases hlt17 : j < 17
    · obtain ⟨i, rfl⟩ : ∃ i, j = i + 1 := ⟨j - 1, by omega⟩
      have i0 : (0 : Int) ≤ (i : Int) := by omega
      have i1 : (i : Int) < 17 := by omega
      have i2 : (i : Int) + 1 < 17 := by omega
      have i3 : (0 : Int) ≤ (i : Int) + 1 := by omega
      have wz : IntKind.i64.wrap (i : Int) = (i : Int) := IntWalk.i64_in _ ⟨by omega, by omega⟩
      have tn : ((i : Int) + 1).toNat = i + 1 := by omega
      have lda : (big 4 ⟨b, o + 50 + (i + 1) * 4, none⟩).run Tryz.prog wr.drew = .ok (cellsOf 4 (recC (s.track (i + 1)))) wr.drew := big_range (fun k hk => by
        have := HRj.out (50 + (i + 1) * 4 + k) (by omega)
        rw [show o + 50 + (i + 1) * 4 + k = o + (50 + (i + 1) * 4 + k) by omega]
        show wr.cell? _ = _
        rw [this]
        exact congrArg some (tshift_cell s i k hk (by omega)))
      have hstb := store_range (P := Tryz.prog) (W := wr.drew) (b := b) (o := o + 50 + i * 4) (cellsOf 4 (recC (s.track (i + 1)))).toList (fun k hk => by
        have h9 : k < 4 := by simpa [cellsOf] using hk
        have := HRj.out (50 + i * 4 + k) (by omega)
        rw [show o + 50 + i * 4 + k = o + (50 + i * 4 + k) by omega]
        show (wr.cell? _).isSome = true
        rw [this]; rfl) (fun n => fw n) (cellsOf_one (fun i _ => recC_one _ _))
      have hs4 : (cellsOf 4 (recC (s.track (i + 1)))).size = 4 := cellsOf_size _ _
      have HR2 : Hid (Range (wr.drew.setCells b (o + 50 + i * 4) (cellsOf 4 (recC (s.track (i + 1)))).toList) b o 119 (pseatC (s.tshift (i + 1 + 1)))) := (HRj.out.drew.setNa (o + 50 + i * 4) (50 + i * 4) 4 (by omega) (by omega) (recC (s.track (i + 1)))).congr (fun j hj => tshift_next s i (by omega) j)
      have HO2 : Hid (OnR b o 119 w (wr.drew.setCells b (o + 50 + i * 4) (cellsOf 4 (recC (s.track (i + 1)))).toList)) := HOj.out.drew.trans (OnR.setNa _ (o + 50 + i * 4) (50 + i * 4) (by omega) _ (by simp [cellsOf]; omega))
      go_wp2_with fail
      refine still_tail5 12 (by kernel_rfl) (by kernel_rfl) ?_
      simp only [List.take_succ_cons, List.take_zero, List.drop_succ_cons, List.drop_zero]
      repeat still_step
      refine wpStill_nil ?_
      go_wp2
      go_roundg (gk - 1)
      case measure => omega
      case rel => exact ⟨i + 1 + 1, by go_num, by omega, by omega, by omega, HR2, HO2⟩
    · obtain rfl : j = 17 := by omega
      have c118 : wr.cell? ⟨b, o + 50 + 68, none⟩ = some (.int .i64 s.count) := HRj.out 118 (by omega)
      have RU : Hid (Range (wr.setCell ⟨b, o + 50 + 68, none⟩ (.int .i64 16)) b o 119 (pseatC s.drop1)) := (HRj.out.set1 118 (.int .i64 16)).congr (fun j hj => drop_cell s j hj)
      have OU : Hid (OnR b o 119 w (wr.setCell ⟨b, o + 50 + 68, none⟩ (.int .i64 16))) := HOj.out.trans (OnR.set wr 118 (by omega) _)
      go_wp2
      go_end0
      exact ⟨rfl, RU.out, OU.out⟩

/-- A record is laid behind the others. -/
def M.PSeat.lay (s : M.PSeat) (r : M.Rec) : M.PSeat := { s with track := fun i => if (i : Int) = s.count then r else s.track i, count := s.count + 1 }
def M.PSeat.add (s : M.PSeat) (r : M.Rec) : M.PSeat := if 17 ≤ s.count then s.drop1.lay r else s.lay r

theorem lay_cell (s : M.PSeat) (r : M.Rec) (m : Nat) (hm : s.count = (m : Int)) (hm17 : m < 17) (j : Nat) (hj : j < 119) :
    (if j = 118 then Value.int .i64 ((m : Int) + 1) else if 50 + m * 4 ≤ j ∧ j < 50 + m * 4 + 4 then recC r (j - (50 + m * 4)) else pseatC s j) = pseatC (s.lay r) j := by
  by_cases e : j = 118
  · subst e
    show Value.int .i64 ((m : Int) + 1) = .int .i64 (s.count + 1)
    rw [hm]
  rw [if_neg e]
  by_cases h : 50 + m * 4 ≤ j ∧ j < 50 + m * 4 + 4
  · rw [if_pos h]
    unfold pseatC
    iterate 3 rw [if_neg (by omega)]
    iterate 12 rw [if_neg (by omega)]
    rw [if_pos (by omega), show (j - 50) / 4 = m by omega, show (j - 50) % 4 = j - (50 + m * 4) by omega]
    show _ = recC (if (m : Int) = s.count then r else s.track m) _
    rw [if_pos hm.symm]
  · rw [if_neg h]
    refine pseatC_tr _ _ j rfl rfl rfl rfl rfl rfl rfl rfl rfl rfl rfl (fun h1 h2 => ?_) (fun h => by omega)
    show _ = recC (if (((j - 50) / 4 : Nat) : Int) = s.count then r else s.track ((j - 50) / 4)) _
    rw [if_neg (by rw [hm]; omega)]

set_option maxRecDepth 100000 in
set_option maxHeartbeats 4000000 in
theorem trAdd_any (b o : Nat) (s : M.PSeat) (r : M.Rec) (w : World) (hR : Range w b o 119 (pseatC s)) (hf : ∀ i, w.frozen? ⟨b, i, none⟩ = false) (hlt : b < w.heap.size) (n0 : 0 ≤ s.count) (n1 : s.count ≤ 17) :
    Calls Tryz.prog 97 #[.pointer (some ⟨b, o + 50, none⟩), .agg #[.int .i64 r.tick, .int .i64 r.pos.x, .int .i64 r.pos.y, .int .i64 r.pos.z]] w fun e w' => e = .returned (.tuple #[]) ∧ Range w' b o 119 (pseatC (s.add r)) ∧ OnR b o 119 w w' := by
  have c118 : w.cell? ⟨b, o + 50 + 68, none⟩ = some (.int .i64 s.count) := hR 118 (by omega)
  have HR := hid hR
  have HF := hid hf
  clear hR hf
  by_cases h17 : 17 ≤ s.count
  · have HA : Hid (s.add r = s.drop1.lay r) := by unfold Hid M.PSeat.add; rw [if_pos h17]
    rw [HA.out]
    clear HA
    go_enter Tryz.func97, Tryz.ntmps97
    go_wp2_with fail
    have B0 : Below w.heap.size w (w.alloc (.cells #[.int .i64 r.tick, .int .i64 r.pos.x, .int .i64 r.pos.y, .int .i64 r.pos.z] 53)) := by go_grown
    have O0 : OnR b o 119 w (w.alloc (.cells #[.int .i64 r.tick, .int .i64 r.pos.x, .int .i64 r.pos.y, .int .i64 r.pos.z] 53)) := OnR.below B0 hlt
    refine (trDrop_any b o s _ (HR.out.block (B0.block b hlt)) (fun i => (O0.fz i).trans (HF.out i)) (by simp; omega)).mono ?_
    rintro e V ⟨rfl, hr, ho⟩
    obtain ⟨m, hm⟩ : ∃ m : Nat, s.drop1.count = (m : Int) := ⟨16, rfl⟩
    have hm17 : m < 17 := by have : (16 : Int) = (m : Int) := hm; omega
    have RV := hid hr
    have OV := hid (O0.trans ho)
    have QV := hid ((show Blk (w.alloc (.cells #[.int .i64 r.tick, .int .i64 r.pos.x, .int .i64 r.pos.y, .int .i64 r.pos.z] 53)) w.heap.size _ _ from Blk.new rfl).on ho.on (by omega))
    have fV : ∀ i, V.frozen? ⟨b, i, none⟩ = false := fun i => (OV.out.fz i).trans (HF.out i)
    have hbne : b ≠ w.heap.size := by omega
    clear B0 O0 hr ho c118
    have cV : V.cell? ⟨b, o + 50 + 68, none⟩ = some (.int .i64 (m : Int)) := by have := RV.out 118 (by omega); rw [show o + 50 + 68 = o + 118 by omega, this, ← hm]; rfl
    have hq : ∀ k, k < 4 → V.cell? ⟨b, o + 50 + m * 4 + k, none⟩ = some (pseatC s.drop1 (50 + m * 4 + k)) := fun k hk => by rw [← RV.out (50 + m * 4 + k) (by omega)]; congr 2; omega
    have k0 := hq 0 (by omega)
    have k1 := hq 1 (by omega)
    have k2 := hq 2 (by omega)
    have k3 := hq 3 (by omega)
    rw [Nat.add_zero] at k0
    have v0 := QV.out.cell 0
    have v1 := QV.out.cell 1
    have v2 := QV.out.cell 2
    have v3 := QV.out.cell 3
    simp only [List.getElem?_toArray, List.getElem?_cons_zero, List.getElem?_cons_succ] at v0 v1 v2 v3
    have RU : Hid (Range (((V.setCells b (o + 50 + m * 4) (cellsOf 4 (recC r)).toList).setCell ⟨b, o + 50 + 68, none⟩ (.int .i64 ((m : Int) + 1))).drew) b o 119 (pseatC (s.drop1.lay r))) := (((RV.out.setNa (o + 50 + m * 4) (50 + m * 4) 4 (by omega) (by omega) (recC r)).set1 118 (.int .i64 ((m : Int) + 1))).drew).congr (fun j hj => lay_cell s.drop1 r m hm hm17 j hj)
    have OU : Hid (OnR b o 119 w (((V.setCells b (o + 50 + m * 4) (cellsOf 4 (recC r)).toList).setCell ⟨b, o + 50 + 68, none⟩ (.int .i64 ((m : Int) + 1))).drew)) := ((OV.out.trans (OnR.setNa V (o + 50 + m * 4) (50 + m * 4) (by omega) (cellsOf 4 (recC r)).toList (by simp [cellsOf]; omega))).trans (OnR.set _ 118 (by omega) (.int .i64 ((m : Int) + 1)))).drew
    have m0 : (0 : Int) ≤ (m : Int) := by omega
    have m1 : (m : Int) < 17 := by omega
    clear hq
    go_wp2_with fail
    refine still_tail5 9 (by kernel_rfl) (by kernel_rfl) ?_
    simp only [List.take_succ_cons, List.take_zero, List.drop_succ_cons, List.drop_zero]
    repeat still_step
    refine wpStill_nil ?_
    go_wp2
    go_end0
    exact ⟨rfl, RU.out, OU.out⟩
  · have HA : Hid (s.add r = s.lay r) := by unfold Hid M.PSeat.add; rw [if_neg h17]
    rw [HA.out]
    clear HA
    obtain ⟨m, hm⟩ : ∃ m : Nat, s.count = (m : Int) := ⟨s.count.toNat, by omega⟩
    have hm17 : m < 17 := by omega
    go_enter Tryz.func97, Tryz.ntmps97
    go_wp2_with fail
    obtain ⟨V, hV⟩ : ∃ V, w.alloc (.cells #[.int .i64 r.tick, .int .i64 r.pos.x, .int .i64 r.pos.y, .int .i64 r.pos.z] 53) = V := ⟨_, rfl⟩
    have B0 : Below w.heap.size w V := by rw [← hV]; go_grown
    have OV := hid (OnR.below (o := o) (n := 119) B0 hlt)
    have RV := hid (HR.out.block (B0.block b hlt))
    have QV := hid (show Blk V w.heap.size #[.int .i64 r.tick, .int .i64 r.pos.x, .int .i64 r.pos.y, .int .i64 r.pos.z] 53 from by rw [← hV]; exact Blk.new rfl)
    have fV : ∀ i, V.frozen? ⟨b, i, none⟩ = false := fun i => (OV.out.fz i).trans (HF.out i)
    have hbne : b ≠ w.heap.size := by omega
    rw [hV]
    clear B0 c118 hV
    have cV : V.cell? ⟨b, o + 50 + 68, none⟩ = some (.int .i64 (m : Int)) := by have := RV.out 118 (by omega); rw [show o + 50 + 68 = o + 118 by omega, this, ← hm]; rfl
    have hq : ∀ k, k < 4 → V.cell? ⟨b, o + 50 + m * 4 + k, none⟩ = some (pseatC s (50 + m * 4 + k)) := fun k hk => by rw [← RV.out (50 + m * 4 + k) (by omega)]; congr 2; omega
    have k0 := hq 0 (by omega)
    have k1 := hq 1 (by omega)
    have k2 := hq 2 (by omega)
    have k3 := hq 3 (by omega)
    rw [Nat.add_zero] at k0
    have v0 := QV.out.cell 0
    have v1 := QV.out.cell 1
    have v2 := QV.out.cell 2
    have v3 := QV.out.cell 3
    simp only [List.getElem?_toArray, List.getElem?_cons_zero, List.getElem?_cons_succ] at v0 v1 v2 v3
    have RU : Hid (Range (((V.setCells b (o + 50 + m * 4) (cellsOf 4 (recC r)).toList).setCell ⟨b, o + 50 + 68, none⟩ (.int .i64 ((m : Int) + 1))).drew) b o 119 (pseatC (s.lay r))) := (((RV.out.setNa (o + 50 + m * 4) (50 + m * 4) 4 (by omega) (by omega) (recC r)).set1 118 (.int .i64 ((m : Int) + 1))).drew).congr (fun j hj => lay_cell s r m hm hm17 j hj)
    have OU : Hid (OnR b o 119 w (((V.setCells b (o + 50 + m * 4) (cellsOf 4 (recC r)).toList).setCell ⟨b, o + 50 + 68, none⟩ (.int .i64 ((m : Int) + 1))).drew)) := ((OV.out.trans (OnR.setNa V (o + 50 + m * 4) (50 + m * 4) (by omega) (cellsOf 4 (recC r)).toList (by simp [cellsOf]; omega))).trans (OnR.set _ 118 (by omega) (.int .i64 ((m : Int) + 1)))).drew
    have m0 : (0 : Int) ≤ (m : Int) := by omega
    have m1 : (m : Int) < 17 := by omega
    clear hq
    refine still_tail5 9 (by kernel_rfl) (by kernel_rfl) ?_
    simp only [List.take_succ_cons, List.take_zero, List.drop_succ_cons, List.drop_zero]
    repeat still_step
    refine wpStill_nil ?_
    go_wp2
    go_end0
    exact ⟨rfl, RU.out, OU.out⟩

end Go.Proofs.YtonmihojfcjmjaaGreat

/- Contracts of the program's game: record, move. -/
namespace Go.Proofs.YtonmihojfcjmjaaGreat
open Go.RowKit
set_option linter.unusedVariables false
attribute [local go_sem] cell_set_off cell_set_blk
attribute [local go_sem ↓] big65 big65'

/-- A live player's record. -/
def M.PSeat.note (s : M.PSeat) (t : Int) : M.PSeat := if 0 < s.health then s.add ⟨t, s.place⟩ else s

theorem put_same (g : M.PGame) (i : Nat) : g.put i (g.seat i) = g := by
  unfold M.PGame.put
  have : (fun j => if j = i then g.seat i else g.seat j) = g.seat := by funext j; by_cases h : j = i <;> simp [h]
  rw [this]

set_option maxRecDepth 100000 in
set_option maxHeartbeats 2000000 in
theorem pRecord_any (b : Nat) (mv : Value) (ps : Nat → Bool) (g : M.PGame) (i : Nat) (w : World) (h : Pg w b mv ps g) (hi : i < 8) (n0 : 0 ≤ (g.seat i).count) (n1 : (g.seat i).count ≤ 17) :
    Calls Tryz.prog 80 #[.pointer (some ⟨b, 0, none⟩), .pointer (some ⟨b, 66 + i * 119 + 40, none⟩)] w fun e w' => e = .returned (.tuple #[]) ∧ Pg w' b mv ps (g.put i ((g.seat i).note g.tick)) ∧ On b w w' := by
  have HP := hid h
  have c46 := (h.se hi).c46
  have c43 := (h.se hi).c43
  have c44 := (h.se hi).c44
  have c45 := (h.se hi).c45
  have c65 := h.ct
  have hlt := h.lt
  clear h
  by_cases hl : 0 < (g.seat i).health
  · have HL : Hid (decide (0 < (g.seat i).health) = true) := decide_eq_true hl
    have HA : Hid ((g.seat i).note g.tick = (g.seat i).add ⟨g.tick, (g.seat i).place⟩) := by unfold Hid M.PSeat.note; rw [if_pos hl]
    rw [HA.out]
    clear HA hl
    go_enter Tryz.func80, Tryz.ntmps80
    go_wp2_with fail
    refine (live_any b (66 + i * 119 + 40) _ (g.seat i).health c46 true HL).mono ?_
    rintro e w1 ⟨rfl, rfl⟩
    go_wp2_with fail
    refine still_tail5 12 (by kernel_rfl) (by kernel_rfl) ?_
    simp only [List.take_succ_cons, List.take_zero, List.drop_succ_cons, List.drop_zero]
    repeat still_step
    refine wpStill_nil ?_
    go_wp2_with fail
    refine (trAdd_any b (66 + i * 119) (g.seat i) ⟨g.tick, (g.seat i).place⟩ w1.drew (fun k hk => by exact HP.out.cs i k hi hk) (by exact HP.out.free) (by exact hlt) n0 n1).mono ?_
    rintro e w2 ⟨rfl, hr, ho⟩
    have P2 := hid (HP.out.put hi hr ⟨ho.on.undrew, ho.out, ho.fz⟩)
    have O2 := ho.on.undrew
    clear hr ho HP c46 c43 c44 c45 c65
    go_wp2
    go_end0
    exact ⟨rfl, P2.out, O2⟩
  · have HL : Hid (decide (0 < (g.seat i).health) = false) := decide_eq_false hl
    have HA : Hid ((g.seat i).note g.tick = g.seat i) := by unfold Hid M.PSeat.note; rw [if_neg hl]
    rw [HA.out, put_same]
    clear HA hl
    go_enter Tryz.func80, Tryz.ntmps80
    go_wp2_with fail
    refine (live_any b (66 + i * 119 + 40) _ (g.seat i).health c46 false HL).mono ?_
    rintro e w1 ⟨rfl, rfl⟩
    go_wp2
    go_end0
    exact ⟨rfl, HP.out, On.refl _ _⟩

open Classical in
/-- Is there something solid on the way? -/
noncomputable def M.hitB (p d : M.V3) (ls : List M.Lf) : Bool := if ∃ n k : Int, M.EntG (M.US p d ls) true n k then true else false
theorem M.hitB_is {p d : M.V3} {ls : List M.Lf} {f : Bool} {n k : Int} (h : M.EntG (M.US p d ls) f n k) : M.hitB p d ls = f := by
  unfold M.hitB
  cases f
  · rw [if_neg]
    rintro ⟨a, b, h2⟩
    have := (h.one h2).1
    cases this
  · rw [if_pos ⟨n, k, h⟩]

def M.subV (p q : M.V3) : M.V3 := ⟨p.x - q.x, p.y - q.y, p.z - q.z⟩
/-- Where a player stands behind its move. -/
noncomputable def M.PSeat.moved (s : M.PSeat) (ls : List M.Lf) (m : M.V3) : M.PSeat := if M.hitB s.place (M.subV (M.goalP s.place m) s.place) ls = true then s else { s with place := M.goalP s.place m }

theorem goal_in (p m : M.V3) : M.InB M.cubeLo M.cubeHi (M.goalP p m) :=
  ⟨(M.clamp_bd (by decide)).1, (M.clamp_bd (by decide)).2, (M.clamp_bd (by decide)).1, (M.clamp_bd (by decide)).2, (M.clamp_bd (by decide)).1, (M.clamp_bd (by decide)).2⟩

end Go.Proofs.YtonmihojfcjmjaaGreat

/- Contracts of the program's game: move. -/
namespace Go.Proofs.YtonmihojfcjmjaaGreat
open Go.RowKit
set_option linter.unusedVariables false
attribute [local go_sem] cell_set_off cell_set_blk
attribute [local go_sem ↓] big65 big65'

theorem place_cell (s : M.PSeat) (G : M.V3) (j : Nat) : (if j = 45 then Value.int .i64 G.z else if j = 44 then .int .i64 G.y else if j = 43 then .int .i64 G.x else pseatC s j) = pseatC { s with place := G } j := by
  by_cases e5 : j = 45
  · subst e5; rfl
  rw [if_neg e5]
  by_cases e4 : j = 44
  · subst e4; rfl
  rw [if_neg e4]
  by_cases e3 : j = 43
  · subst e3; rfl
  rw [if_neg e3]
  unfold pseatC
  exact ite_c (fun _ => rfl) (fun _ => ite_c (fun _ => rfl) (fun _ => ite_c (fun _ => rfl) (fun _ => ite_c (fun _ => rfl) (fun _ => ite_c (fun _ => rfl) (fun _ => ite_c (fun _ => rfl) (fun _ => ite_c (fun _ => rfl) (fun _ => ite_c (fun _ => rfl) (fun _ => ite_c (fun x => absurd x e3) (fun _ => ite_c (fun x => absurd x e4) (fun _ => ite_c (fun x => absurd x e5) (fun _ => rfl)))))))))))

set_option maxRecDepth 100000 in
set_option maxHeartbeats 4000000 in
theorem pMove_any (b : Nat) (x : Option Addr) (n cap : Nat) (ps : Nat → Bool) (ls : List M.Lf) (g : M.PGame) (i : Nat) (m : M.V3) (w : World) (h : Pg w b (.slice x n cap) ps g) (hown : w.ownsRow 0 137 7 (.slice x n cap) ls.length (flat ls)) (hl : ls.length ≤ 512) (hc : ∀ l ∈ ls, l.lo.Cub ∧ l.hi.Cub) (hi : i < 8) (hp : M.InB M.cubeLo M.cubeHi (g.seat i).place) :
    Calls Tryz.prog 96 #[.pointer (some ⟨b, 0, none⟩), .pointer (some ⟨b, 66 + i * 119 + 40, none⟩), .agg #[.int .i64 m.x, .int .i64 m.y, .int .i64 m.z]] w fun e w' => e = .returned (.tuple #[]) ∧ Pg w' b (.slice x n cap) ps (g.put i ((g.seat i).moved ls m)) ∧ On b w w' := by
  have HP := hid h
  have HO := hid hown
  have HC := hid hc
  have c43 := (h.se hi).c43
  have c44 := (h.se hi).c44
  have c45 := (h.se hi).c45
  have hlt := h.lt
  clear h hown hc
  have HI := hid hp
  generalize hG : M.goalP (g.seat i).place m = G
  have HG := hid hG
  clear hp
  go_enter Tryz.func96, Tryz.ntmps96
  go_upto_region 1 with fail
  obtain ⟨V, hV⟩ : ∃ V, w.alloc (.cells #[.int .i64 m.x, .int .i64 m.y, .int .i64 m.z] 27) = V := ⟨_, rfl⟩
  have QM := hid (show Blk V w.heap.size #[.int .i64 m.x, .int .i64 m.y, .int .i64 m.z] 27 from by rw [← hV]; exact Blk.new rfl)
  have BV := hid (show Below w.heap.size w V from by rw [← hV]; go_grown)
  have PV := hid (HP.out.after BV.out)
  rw [hV]
  clear hV c43 c44 c45
  have c43 := (PV.out.se hi).c43
  have c44 := (PV.out.se hi).c44
  have c45 := (PV.out.se hi).c45
  have hltV := PV.out.lt
  have e3 : V.heap.size ≠ b := by omega
  have hlwV : w.heap.size < V.heap.size := QM.out.lt
  have e4 : V.heap.size ≠ w.heap.size := by omega
  obtain ⟨m0, m1, m2, mf, ml⟩ := QM.out.three
  go_cut [6] (fun c wx => ∃ gB : Nat, c = .pointer (some ⟨gB, 0, none⟩) ∧ Blk wx gB #[.int .i64 G.x, .int .i64 G.y, .int .i64 G.z] 27 ∧ Below V.heap.size V wx)
  case first =>
    go_region_held3 (fun w' => (w'.cell? ⟨b, 66 + i * 119 + 43, none⟩ = some (.int .i64 (g.seat i).place.x) ∧ w'.cell? ⟨b, 66 + i * 119 + 44, none⟩ = some (.int .i64 (g.seat i).place.y) ∧ w'.cell? ⟨b, 66 + i * 119 + 45, none⟩ = some (.int .i64 (g.seat i).place.z)) ∧ w'.cell? ⟨w.heap.size, 0, none⟩ = some (.int .i64 m.x) ∧ w'.cell? ⟨w.heap.size, 1, none⟩ = some (.int .i64 m.y) ∧ w'.cell? ⟨w.heap.size, 2, none⟩ = some (.int .i64 m.z)) (go_keep)
      (first | (go_at_call 109; refine (goalOf_any (g.seat i).place m (V.alloc (.cells #[.int .i64 0, .int .i64 0, .int .i64 0] 27)).drew HI.out).mono ?_; rw [HG.out]; rintro e w2 ⟨rfl, hb2⟩; have B2 : Below V.heap.size V w2 := bl (by go_grown) hb2; have y0 := ((PV.out.after B2).se hi).c43; have y1 := ((PV.out.after B2).se hi).c44; have y2 := ((PV.out.after B2).se hi).c45; obtain ⟨z0, z1, z2, zf, zl⟩ := (QM.out.after B2).three; have e1 : w2.heap.size ≠ b := (by have := B2.size; omega); have e2 : w2.heap.size ≠ w.heap.size := (by have := B2.size; omega); have qg := (show Blk (V.alloc (.cells #[.int .i64 0, .int .i64 0, .int .i64 0] 27)).drew V.heap.size #[.int .i64 0, .int .i64 0, .int .i64 0] 27 from Blk.drew (Blk.new rfl)).after hb2; obtain ⟨g0, g1, g2, gf, gl⟩ := qg.three) | (go_at_call 109; refine (goalOf_any (g.seat i).place m V.drew HI.out).mono ?_; rw [HG.out]; rintro e w2 ⟨rfl, hb2⟩; have B2 : Below V.heap.size V w2 := bl (by go_grown) hb2; have y0 := ((PV.out.after B2).se hi).c43; have y1 := ((PV.out.after B2).se hi).c44; have y2 := ((PV.out.after B2).se hi).c45; obtain ⟨z0, z1, z2, zf, zl⟩ := (QM.out.after B2).three; have e1 : w2.heap.size ≠ b := (by have := B2.size; omega); have e2 : w2.heap.size ≠ w.heap.size := (by have := B2.size; omega)))
    all_goals
      go_wp2_with fail
      go_meet
      first | exact ⟨w2.heap.size, rfl, Blk.new rfl, by have := B2.size; go_grown⟩ | exact ⟨V.heap.size, rfl, ((qg.set 0 _).set 1 _).set 2 _, by have := B2.size; go_grown⟩
  case rest =>
    obtain ⟨gB, rfl, QG, BW⟩ := hcut
    generalize wc = W at *
    have PW := hid (PV.out.after BW)
    have BWw := hid (bl BV.out BW)
    have OW := hid (own_of HO.out (fun k hk => BWw.out.block k (own_lt HO.out hk)))
    have HQG := hid QG
    have HBW := hid BW
    clear PV BV QM QG BW c43 c44 c45 m0 m1 m2 mf ml e3 e4 hlwV hltV HP HO
    have c43 := (PW.out.se hi).c43
    have c44 := (PW.out.se hi).c44
    have c45 := (PW.out.se hi).c45
    obtain ⟨g0, g1, g2, gf, gl⟩ := HQG.out.three
    have hltW := PW.out.lt
    have hgW : gB < W.heap.size := HQG.out.lt
    have e3 : W.heap.size ≠ b := by omega
    have e4 : W.heap.size ≠ gB := by omega
    have HBD : Hid (((-1048576 ≤ G.x - (g.seat i).place.x ∧ G.x - (g.seat i).place.x ≤ 1048576) ∧ (-1048576 ≤ G.y - (g.seat i).place.y ∧ G.y - (g.seat i).place.y ≤ 1048576) ∧ (-1048576 ≤ G.z - (g.seat i).place.z ∧ G.z - (g.seat i).place.z ≤ 1048576))) := by
      have a := goal_in (g.seat i).place m
      rw [HG.out] at a
      obtain ⟨a1, a2, a3, a4, a5, a6⟩ := a
      obtain ⟨b1, b2, b3, b4, b5, b6⟩ := HI.out
      simp only [M.cubeLo, M.cubeHi] at a1 a2 a3 a4 a5 a6 b1 b2 b3 b4 b5 b6
      exact ⟨⟨by omega, by omega⟩, ⟨by omega, by omega⟩, ⟨by omega, by omega⟩⟩
    go_upto_region 2 with fail
    go_cut [7] (fun c wx => ∃ dB : Nat, c = .pointer (some ⟨dB, 0, none⟩) ∧ Blk wx dB #[.int .i64 (G.x - (g.seat i).place.x), .int .i64 (G.y - (g.seat i).place.y), .int .i64 (G.z - (g.seat i).place.z)] 27 ∧ Below W.heap.size W wx)
    case first =>
      go_region_held3 (fun w' => (w'.cell? ⟨b, 66 + i * 119 + 43, none⟩ = some (.int .i64 (g.seat i).place.x) ∧ w'.cell? ⟨b, 66 + i * 119 + 44, none⟩ = some (.int .i64 (g.seat i).place.y) ∧ w'.cell? ⟨b, 66 + i * 119 + 45, none⟩ = some (.int .i64 (g.seat i).place.z)) ∧ w'.cell? ⟨gB, 0, none⟩ = some (.int .i64 G.x) ∧ w'.cell? ⟨gB, 1, none⟩ = some (.int .i64 G.y) ∧ w'.cell? ⟨gB, 2, none⟩ = some (.int .i64 G.z)) (go_keep)
        (first | (go_at_call 106; refine (minus_any G (g.seat i).place (W.alloc (.cells #[.int .i64 0, .int .i64 0, .int .i64 0] 27)).drew (by have := HBD.out; omega) (by have := HBD.out; omega) (by have := HBD.out; omega) (by have := HBD.out; omega) (by have := HBD.out; omega) (by have := HBD.out; omega)).mono ?_; rintro e w2 ⟨rfl, hb2⟩; have B2 : Below W.heap.size W w2 := bl (by go_grown) hb2; have y0 := ((PW.out.after B2).se hi).c43; have y1 := ((PW.out.after B2).se hi).c44; have y2 := ((PW.out.after B2).se hi).c45; obtain ⟨z0, z1, z2, zf, zl⟩ := (HQG.out.after B2).three; have e1 : w2.heap.size ≠ b := (by have := B2.size; omega); have e2 : w2.heap.size ≠ gB := (by have := B2.size; omega); have qg := (show Blk (W.alloc (.cells #[.int .i64 0, .int .i64 0, .int .i64 0] 27)).drew W.heap.size #[.int .i64 0, .int .i64 0, .int .i64 0] 27 from Blk.drew (Blk.new rfl)).after hb2; obtain ⟨h0, h1, h2, hf, hl'⟩ := qg.three) | (go_at_call 106; refine (minus_any G (g.seat i).place W.drew (by have := HBD.out; omega) (by have := HBD.out; omega) (by have := HBD.out; omega) (by have := HBD.out; omega) (by have := HBD.out; omega) (by have := HBD.out; omega)).mono ?_; rintro e w2 ⟨rfl, hb2⟩; have B2 : Below W.heap.size W w2 := bl (by go_grown) hb2; have y0 := ((PW.out.after B2).se hi).c43; have y1 := ((PW.out.after B2).se hi).c44; have y2 := ((PW.out.after B2).se hi).c45; obtain ⟨z0, z1, z2, zf, zl⟩ := (HQG.out.after B2).three; have e1 : w2.heap.size ≠ b := (by have := B2.size; omega); have e2 : w2.heap.size ≠ gB := (by have := B2.size; omega)))
      all_goals
        go_wp2_with fail
        go_meet
        first | exact ⟨w2.heap.size, rfl, Blk.new rfl, by have := B2.size; go_grown⟩ | exact ⟨W.heap.size, rfl, ((qg.set 0 _).set 1 _).set 2 _, by have := B2.size; go_grown⟩
    case rest =>
      obtain ⟨dB, rfl, QD, BX⟩ := hcut
      generalize wc = X at *
      have PX := hid (PW.out.after BX)
      have OX := hid (own_of OW.out (fun k hk => BX.block k (own_lt OW.out hk)))
      have QGX := hid (HQG.out.after BX)
      have QDX := hid QD
      have BXw := hid (bl BWw.out BX)
      clear PW OW HQG HBW BWw QD BX c43 c44 c45 g0 g1 g2 gf gl e3 e4 hltW hgW HBD
      have c43 := (PX.out.se hi).c43
      have c44 := (PX.out.se hi).c44
      have c45 := (PX.out.se hi).c45
      obtain ⟨g0, g1, g2, gf, gl⟩ := QGX.out.three
      obtain ⟨d0, d1, d2, df, dl⟩ := QDX.out.three
      obtain ⟨L, hL⟩ : ∃ L, (cellsOf 65 (mapC (.slice x n cap) ps)).toList = L := ⟨_, rfl⟩
      have hLn : L.length = 65 := by rw [← hL]; simp [cellsOf]
      have HL0 := hid (show L.toArray[0]? = some (.slice x n cap) from by rw [← hL]; simp [cellsOf, mapC])
      have hrg := hid (show ∀ W' : World, Below X.heap.size X W' → W'.rangeAt b 0 L from fun W' hB j v hv => by
        rw [← hL, Array.getElem?_toList] at hv
        have hj : j < 65 := by
          have := (Array.getElem?_eq_some_iff.1 hv).1
          simpa [cellsOf] using this
        rw [cellsOf_get _ hj] at hv
        rw [(PX.out.after hB).cm j hj]
        exact hv)
      have hbig : ∀ W' : World, W'.rangeAt b 0 L → (big 65 ⟨b, 0, none⟩).run Tryz.prog W' = .ok L.toArray W' := fun W' h => by
        have := run_loadCells_list (P := Tryz.prog) W' ⟨b, 0, none⟩ L (fun j v hv => by rw [Addr.add_mid]; exact h j v hv)
        rw [hLn] at this
        exact this
      have rg0 := hrg.out X (Below.refl _ _)
      have ka : ∀ (W' : World) (o : Obj), W'.rangeAt b 0 L → (W'.alloc o).rangeAt b 0 L := fun W' o h => World.rangeAt_alloc h o
      have ks : ∀ (W' : World) (q k : Nat) (v : Value), q ≠ b → W'.rangeAt b 0 L → (W'.setCell ⟨q, k, none⟩ v).rangeAt b 0 L := fun W' q k v hq h j u hu => by rw [cell_set_blk _ _ _ _ _ _ hq]; exact h j u hu
      have hun : Tryz.prog.underlying 46 = some _ := Tryz.underlying46
      have hin : (Tryz.prog.info? 46).map (·.size) = some L.length := by rw [hLn]; kernel_rfl
      have HN1 := hid (show (g.seat i).place.Near from by obtain ⟨b1, b2, b3, b4, b5, b6⟩ := HI.out; simp only [M.cubeLo, M.cubeHi] at b1 b2 b3 b4 b5 b6; exact ⟨by omega, by omega, by omega, by omega, by omega, by omega⟩)
      have HN2 := hid (show (⟨G.x - (g.seat i).place.x, G.y - (g.seat i).place.y, G.z - (g.seat i).place.z⟩ : M.V3).Near from by
        have a := goal_in (g.seat i).place m
        rw [HG.out] at a
        obtain ⟨a1, a2, a3, a4, a5, a6⟩ := a
        obtain ⟨b1, b2, b3, b4, b5, b6⟩ := HI.out
        simp only [M.cubeLo, M.cubeHi] at a1 a2 a3 a4 a5 a6 b1 b2 b3 b4 b5 b6
        exact ⟨by dsimp only; omega, by dsimp only; omega, by dsimp only; omega, by dsimp only; omega, by dsimp only; omega, by dsimp only; omega⟩)
      have hltX := PX.out.lt
      have hdX : dB < X.heap.size := QDX.out.lt
      have e3 : X.heap.size ≠ b := by omega
      have e4 : X.heap.size ≠ dB := by omega
      clear hL hLn
      go_upto_region 3 with fail
      go_cut [8] (fun c wx => ∃ f : Bool, c = .bool f ∧ M.hitB (g.seat i).place ⟨G.x - (g.seat i).place.x, G.y - (g.seat i).place.y, G.z - (g.seat i).place.z⟩ ls = f ∧ Below X.heap.size X wx)
      case first =>
        go_region_held3 (fun w' => (w'.rangeAt b 0 L) ∧ (w'.cell? ⟨b, 66 + i * 119 + 43, none⟩ = some (.int .i64 (g.seat i).place.x) ∧ w'.cell? ⟨b, 66 + i * 119 + 44, none⟩ = some (.int .i64 (g.seat i).place.y) ∧ w'.cell? ⟨b, 66 + i * 119 + 45, none⟩ = some (.int .i64 (g.seat i).place.z)) ∧ w'.cell? ⟨dB, 0, none⟩ = some (.int .i64 (G.x - (g.seat i).place.x)) ∧ w'.cell? ⟨dB, 1, none⟩ = some (.int .i64 (G.y - (g.seat i).place.y)) ∧ w'.cell? ⟨dB, 2, none⟩ = some (.int .i64 (G.z - (g.seat i).place.z))) (go_keep)
          (first | (go_at_call 110; refine (mapTrace_any L.toArray x n cap 0 ls (g.seat i).place ⟨G.x - (g.seat i).place.x, G.y - (g.seat i).place.y, G.z - (g.seat i).place.z⟩ (X.alloc (.cells #[.int .i64 0, .int .i64 0] 166)).drew HL0.out (own_of OX.out (fun k hk => Below.heap_alloc X _ k (own_lt OX.out hk))) hl HN1.out HN2.out HC.out).mono ?_; rintro e w2 ⟨f, a, k, rfl, hG2, hb2⟩; have B2 : Below X.heap.size X w2 := bl (by go_grown) hb2; have y0 := ((PX.out.after B2).se hi).c43; have y1 := ((PX.out.after B2).se hi).c44; have y2 := ((PX.out.after B2).se hi).c45; obtain ⟨z0, z1, z2, zf, zl⟩ := (QDX.out.after B2).three; have rg2 := hrg.out w2 B2; have e1 : w2.heap.size ≠ b := (by have := B2.size; omega); have e2 : w2.heap.size ≠ dB := (by have := B2.size; omega); have HG2 := hid hG2; clear hG2; have qg := (show Blk (X.alloc (.cells #[.int .i64 0, .int .i64 0] 166)).drew X.heap.size #[.int .i64 0, .int .i64 0] 166 from Blk.drew (Blk.new rfl)).after hb2; obtain ⟨h0, h1, hf, hl'⟩ := qg.two) | (go_at_call 110; refine (mapTrace_any L.toArray x n cap 0 ls (g.seat i).place ⟨G.x - (g.seat i).place.x, G.y - (g.seat i).place.y, G.z - (g.seat i).place.z⟩ X.drew HL0.out (own_of OX.out (fun k hk => rfl)) hl HN1.out HN2.out HC.out).mono ?_; rintro e w2 ⟨f, a, k, rfl, hG2, hb2⟩; have B2 : Below X.heap.size X w2 := bl (by go_grown) hb2; have y0 := ((PX.out.after B2).se hi).c43; have y1 := ((PX.out.after B2).se hi).c44; have y2 := ((PX.out.after B2).se hi).c45; obtain ⟨z0, z1, z2, zf, zl⟩ := (QDX.out.after B2).three; have rg2 := hrg.out w2 B2; have e1 : w2.heap.size ≠ b := (by have := B2.size; omega); have e2 : w2.heap.size ≠ dB := (by have := B2.size; omega); have HG2 := hid hG2; clear hG2))
        all_goals
          go_wp2_with fail
          go_meet
          exact ⟨f, rfl, M.hitB_is HG2.out, by have := B2.size; go_grown⟩
      case rest =>
        obtain ⟨f, rfl, hh, BY⟩ := hcut
        generalize wc = Y at *
        have PY := hid (PX.out.after BY)
        have BYw := hid (bl BXw.out BY)
        have QGY := hid (QGX.out.after BY)
        have HH : Hid (M.hitB (g.seat i).place (M.subV (M.goalP (g.seat i).place m) (g.seat i).place) ls = f) := by unfold Hid; rw [HG.out]; exact hh
        clear PX BXw QGX QDX OX BY hh c43 c44 c45 g0 g1 g2 gf gl d0 d1 d2 df dl rg0 ka ks hun hin hrg hbig e3 e4 hltX hdX HN1 HN2 HL0
        have c43 := (PY.out.se hi).c43
        have c44 := (PY.out.se hi).c44
        have c45 := (PY.out.se hi).c45
        have fr := PY.out.free
        obtain ⟨g0, g1, g2, gf, gl⟩ := QGY.out.three
        cases f
        · have HM : Hid ((g.seat i).moved ls m = { g.seat i with place := G }) := by unfold Hid M.PSeat.moved; rw [HH.out, HG.out, if_neg (by simp)]
          clear HH
          have R0 : Range Y b (66 + i * 119) 119 (pseatC (g.seat i)) := fun k hk => PY.out.cs i k hi hk
          have R3 := hid ((((R0.set1 43 (.int .i64 G.x)).set1 44 (.int .i64 G.y)).set1 45 (.int .i64 G.z)).congr (fun j hj => place_cell (g.seat i) G j))
          have O3 := hid (((OnR.set (b := b) (o := 66 + i * 119) (n := 119) Y 43 (by omega) (.int .i64 G.x)).trans (OnR.set _ 44 (by omega) (.int .i64 G.y))).trans (OnR.set _ 45 (by omega) (.int .i64 G.z)))
          clear R0
          go_wp2
          go_end0
          exact ⟨rfl, by rw [HM.out]; exact PY.out.put hi R3.out O3.out, (On.below BYw.out).trans O3.out.on⟩
        · have HM : Hid ((g.seat i).moved ls m = g.seat i) := by unfold Hid M.PSeat.moved; rw [HH.out, if_pos rfl]
          clear HH
          go_wp2
          go_end0
          exact ⟨rfl, by rw [HM.out, put_same]; exact PY.out, On.below BYw.out⟩

end Go.Proofs.YtonmihojfcjmjaaGreat
