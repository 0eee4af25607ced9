import Derived.Test.YtonmihojfcjmjabSh4
import Derived.Test.YtonmihojfcjmjabPq6
import Derived.Deep.MidRow
/- Contracts of the program's shots: nothing solid is ahead. -/
namespace Go.Proofs.Ytonmihojfcjmjab
open Go.RowKit
set_option linter.unusedVariables false
attribute [local go_sem] cell_set_off cell_set_blk
attribute [local go_sem ↓] big65 big65'

set_option maxRecDepth 100000 in
set_option maxHeartbeats 4000000 in
theorem pReaches_any (b : Nat) (x : Option Addr) (n cap : Nat) (ps : Nat → Bool) (ls : List M.Lf) (g : M.PGame) (p d : M.V3) (t a k : Int) (w : World) (h : Pg w b (.slice x n cap) ps g) (hown : w.ownsRow 0 154 7 (.slice x n cap) ls.length (flat ls)) (hl : ls.length ≤ 512) (hc : ∀ l ∈ ls, l.lo.Cub ∧ l.hi.Cub) (hp : p.Near) (hd : d.Near) (a0 : 0 ≤ a) (a1 : a ≤ k) (k0 : 1 ≤ k) (k1 : k ≤ 1048576) (B : Bool) (hB : Hid (M.reachB (M.entO (M.US p d ls)) a k = B)) :
    Calls Try.prog 74 #[.pointer (some ⟨b, 0, none⟩), .agg #[.int .i64 p.x, .int .i64 p.y, .int .i64 p.z, .int .i64 d.x, .int .i64 d.y, .int .i64 d.z, .int .i64 t], .agg #[.int .i64 a, .int .i64 k]] w fun e w' => e = .returned (.bool B) ∧ Below w.heap.size w w' := by
  have HP := hid h
  have HO := hid hown
  have HC := hid hc
  have hlt := h.lt
  have HN := hid (And.intro hp hd)
  clear h hown hc hp hd
  go_enter Try.func74, Try.ntmps74
  go_upto_region 1 with fail
  obtain ⟨X, hX⟩ : ∃ X, (w.alloc (.cells #[.int .i64 p.x, .int .i64 p.y, .int .i64 p.z, .int .i64 d.x, .int .i64 d.y, .int .i64 d.z, .int .i64 t] 138)).alloc (.cells #[.int .i64 a, .int .i64 k] 140) = X := ⟨_, rfl⟩
  have QS := hid (show Blk X w.heap.size #[.int .i64 p.x, .int .i64 p.y, .int .i64 p.z, .int .i64 d.x, .int .i64 d.y, .int .i64 d.z, .int .i64 t] 138 from by rw [← hX]; exact (by repeat' (first | (with_reducible assumption) | (refine Blk.new ?_; (first | (simp; done) | rfl); done) | (with_reducible refine Blk.alloc ?_) | (with_reducible refine Blk.drew ?_) | (with_reducible refine Blk.drewN ?_))))
  have QF := hid (show Blk X (w.heap.size + 1) #[.int .i64 a, .int .i64 k] 140 from by rw [← hX]; exact (by repeat' (first | (with_reducible assumption) | (refine Blk.new ?_; (first | (simp; done) | rfl); done) | (with_reducible refine Blk.alloc ?_) | (with_reducible refine Blk.drew ?_) | (with_reducible refine Blk.drewN ?_))))
  have BX := hid (show Below w.heap.size w X from by rw [← hX]; go_grown)
  have PX := hid (HP.out.after BX.out)
  have OX := hid (own_of HO.out (fun k hk => BX.out.block k (own_lt HO.out hk)))
  have zX : w.heap.size + 2 ≤ X.heap.size := by rw [← hX]; simp
  rw [hX]
  clear hX HP HO
  obtain ⟨c0, c1, c2, c3, c4, c5, c6, cf, cl⟩ := QS.out.seven7
  obtain ⟨L, hL⟩ : ∃ L, (cellsOf 65 (mapC (.slice x n cap) ps)).toList = L := ⟨_, rfl⟩
  have hLn : L.length = 65 := by rw [← hL]; simp [cellsOf]
  have HL0 := hid (show L.toArray[0]? = some (.slice x n cap) from by rw [← hL]; simp [cellsOf, mapC])
  have hrg := hid (show ∀ W' : World, Below X.heap.size X W' → W'.rangeAt b 0 L from fun W' hB j v hv => by
    rw [← hL, Array.getElem?_toList] at hv
    have hj : j < 65 := by
      have := (Array.getElem?_eq_some_iff.1 hv).1
      simpa [cellsOf] using this
    rw [cellsOf_get _ hj] at hv
    rw [(PX.out.after hB).cm j hj]
    exact hv)
  have hbig : ∀ W' : World, W'.rangeAt b 0 L → (big 65 ⟨b, 0, none⟩).run Try.prog W' = .ok L.toArray W' := fun W' h => by
    have := run_loadCells_list (P := Try.prog) W' ⟨b, 0, none⟩ L (fun j v hv => by rw [Addr.add_mid]; exact h j v hv)
    rw [hLn] at this
    exact this
  have rg0 := hrg.out X (Below.refl _ _)
  have ka : ∀ (W' : World) (o : Obj), W'.rangeAt b 0 L → (W'.alloc o).rangeAt b 0 L := fun W' o h => World.rangeAt_alloc h o
  have ks : ∀ (W' : World) (q k : Nat) (v : Value), q ≠ b → W'.rangeAt b 0 L → (W'.setCell ⟨q, k, none⟩ v).rangeAt b 0 L := fun W' q k v hq h j u hu => by rw [cell_set_blk _ _ _ _ _ _ hq]; exact h j u hu
  have hun : Try.prog.underlying 70 = some _ := Try.underlying70
  have hin : (Try.prog.info? 70).map (·.size) = some L.length := by rw [hLn]; kernel_rfl
  have hltX := PX.out.lt
  have e3 : X.heap.size ≠ b := by omega
  have e4 : X.heap.size ≠ w.heap.size := by omega
  clear hL hLn
  go_cut [7, 8] (fun c c2 wx => ∃ (f : Bool) (n1 k1 : Int) (fB : Nat), c = .bool f ∧ c2 = .pointer (some ⟨fB, 0, none⟩) ∧ Blk wx fB #[.int .i64 n1, .int .i64 k1] 140 ∧ M.EntG (M.US p d ls) f n1 k1 ∧ Below X.heap.size X wx)
  case first =>
    go_region_held3 (fun w' => (w'.rangeAt b 0 L) ∧ w'.cell? ⟨w.heap.size, 0, none⟩ = some (.int .i64 p.x) ∧ w'.cell? ⟨w.heap.size, 1, none⟩ = some (.int .i64 p.y) ∧ w'.cell? ⟨w.heap.size, 2, none⟩ = some (.int .i64 p.z) ∧ w'.cell? ⟨w.heap.size, 3, none⟩ = some (.int .i64 d.x) ∧ w'.cell? ⟨w.heap.size, 4, none⟩ = some (.int .i64 d.y) ∧ w'.cell? ⟨w.heap.size, 5, none⟩ = some (.int .i64 d.z)) (go_keep)
      (first | (go_at_call 86; refine (mapTrace_any L.toArray x n cap 0 ls p d (X.alloc (.cells #[.int .i64 0, .int .i64 0] 140)).drew HL0.out (own_of OX.out (fun k hk => Below.heap_alloc X _ k (own_lt OX.out hk))) hl HN.out.1 HN.out.2 HC.out).mono ?_; rintro e w2 ⟨f, n1, k1, rfl, hG2, hb2⟩; have B2 : Below X.heap.size X w2 := bl (by go_grown) hb2; obtain ⟨c0, c1, c2, c3, c4, c5, c6, cf, cl⟩ := (QS.out.after B2).seven7; have rg2 := hrg.out w2 B2; have e1 : w2.heap.size ≠ b := (by have := B2.size; omega); have e2 : w2.heap.size ≠ w.heap.size := (by have := B2.size; omega); have HG2 := hid hG2; clear hG2; have qg := (show Blk (X.alloc (.cells #[.int .i64 0, .int .i64 0] 140)).drew X.heap.size #[.int .i64 0, .int .i64 0] 140 from Blk.drew (Blk.new rfl)).after hb2; obtain ⟨h0, h1, hf, hl'⟩ := qg.two) | (go_at_call 86; refine (mapTrace_any L.toArray x n cap 0 ls p d X.drew HL0.out (own_of OX.out (fun k hk => rfl)) hl HN.out.1 HN.out.2 HC.out).mono ?_; rintro e w2 ⟨f, n1, k1, rfl, hG2, hb2⟩; have B2 : Below X.heap.size X w2 := bl (by go_grown) hb2; obtain ⟨c0, c1, c2, c3, c4, c5, c6, cf, cl⟩ := (QS.out.after B2).seven7; have rg2 := hrg.out w2 B2; have e1 : w2.heap.size ≠ b := (by have := B2.size; omega); have e2 : w2.heap.size ≠ w.heap.size := (by have := B2.size; omega); have HG2 := hid hG2; clear hG2))
    all_goals
      go_wp2_with fail
      go_meet
      first | exact ⟨f, n1, k1, w2.heap.size, rfl, rfl, Blk.new rfl, HG2.out, by have := B2.size; go_grown⟩ | exact ⟨f, n1, k1, X.heap.size, rfl, rfl, (qg.set 0 _).set 1 _, HG2.out, by have := B2.size; go_grown⟩
  case rest =>
    obtain ⟨f, n1, k1, fB, rfl, rfl, QG, hG, BY⟩ := hcut
    generalize wc = Y at *
    have QFY := hid (QF.out.after BY)
    have BYw := hid (bl BX.out BY)
    have HQ := hid QG
    have eO := M.entO_is hG
    have yes := hG.yes
    clear QF QS PX OX BX BY QG hG c0 c1 c2 c3 c4 c5 c6 cf cl rg0 ka ks hun hin hrg hbig e3 e4 hltX HL0
    rw [eO] at hB
    clear eO
    obtain ⟨f0, f1, ff, fl⟩ := QFY.out.two
    obtain ⟨g0, g1, gf, gl⟩ := HQ.out.two
    cases f
    · obtain rfl : true = B := hB.out
      clear hB yes
      go_wp2
      go_ret
      exact ⟨rfl, BYw.out⟩
    · obtain ⟨y1, y2, y3, y4, _⟩ := yes rfl
      have HB : Hid ((!decide (n1 * k < a * k1)) = B) := hB
      clear hB yes
      obtain ⟨C, hC⟩ : ∃ C, decide (n1 * k < a * k1) = C := ⟨_, rfl⟩
      have HC2 := hid hC
      rw [hC] at HB
      clear hC
      go_wp2_with fail
      refine (above_is a k n1 k1 _ C HC2 (by omega) (by omega) (by omega) (by omega) (by omega) (by omega) (by omega) (by omega)).mono ?_
      rintro e w3 ⟨rfl, hb3⟩
      have B3 := hid (bl BYw.out hb3)
      clear hb3
      go_wp2
      go_ret
      exact ⟨ret_bool HB.out, B3.out⟩

end Go.Proofs.Ytonmihojfcjmjab
