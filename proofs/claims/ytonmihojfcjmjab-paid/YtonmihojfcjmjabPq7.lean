import Derived.Test.YtonmihojfcjmjabPq6
import Derived.Deep.DeepCutAuto
import Derived.Deep.MidRow
/- Contracts of the program's game: move. -/
namespace Go.Proofs.Ytonmihojfcjmjab
open Go.RowKit
set_option linter.unusedVariables false
attribute [local go_sem] cell_set_off cell_set_blk
attribute [local go_sem ↓] big65 big65'

theorem place_cell (s : M.PSeat) (G : M.V3) (j : Nat) : (if j = 45 then Value.int .i64 G.z else if j = 44 then .int .i64 G.y else if j = 43 then .int .i64 G.x else pseatC s j) = pseatC { s with place := G } j := by
  by_cases e5 : j = 45
  · subst e5; rfl
  rw [if_neg e5]
  by_cases e4 : j = 44
  · subst e4; rfl
  rw [if_neg e4]
  by_cases e3 : j = 43
  · subst e3; rfl
  rw [if_neg e3]
  unfold pseatC
  exact ite_c (fun _ => rfl) (fun _ => ite_c (fun _ => rfl) (fun _ => ite_c (fun _ => rfl) (fun _ => ite_c (fun _ => rfl) (fun _ => ite_c (fun _ => rfl) (fun _ => ite_c (fun _ => rfl) (fun _ => ite_c (fun _ => rfl) (fun _ => ite_c (fun _ => rfl) (fun _ => ite_c (fun x => absurd x e3) (fun _ => ite_c (fun x => absurd x e4) (fun _ => ite_c (fun x => absurd x e5) (fun _ => rfl)))))))))))

set_option maxRecDepth 100000 in
set_option maxHeartbeats 4000000 in
theorem pMove_any (b : Nat) (x : Option Addr) (n cap : Nat) (ps : Nat → Bool) (ls : List M.Lf) (g : M.PGame) (i : Nat) (m : M.V3) (w : World) (h : Pg w b (.slice x n cap) ps g) (hown : w.ownsRow 0 154 7 (.slice x n cap) ls.length (flat ls)) (hl : ls.length ≤ 512) (hc : ∀ l ∈ ls, l.lo.Cub ∧ l.hi.Cub) (hi : i < 8) (hp : M.InB M.cubeLo M.cubeHi (g.seat i).place) :
    Calls Try.prog 68 #[.pointer (some ⟨b, 0, none⟩), .pointer (some ⟨b, 66 + i * 119 + 40, none⟩), .agg #[.int .i64 m.x, .int .i64 m.y, .int .i64 m.z]] w fun e w' => e = .returned (.tuple #[]) ∧ Pg w' b (.slice x n cap) ps (g.put i ((g.seat i).moved ls m)) ∧ On b w w' := by
  have HP := hid h
  have HO := hid hown
  have HC := hid hc
  have c43 := (h.se hi).c43
  have c44 := (h.se hi).c44
  have c45 := (h.se hi).c45
  have hlt := h.lt
  clear h hown hc
  have HI := hid hp
  generalize hG : M.goalP (g.seat i).place m = G
  have HG := hid hG
  clear hp
  go_enter Try.func68, Try.ntmps68
  go_upto_region 1 with fail
  obtain ⟨V, hV⟩ : ∃ V, w.alloc (.cells #[.int .i64 m.x, .int .i64 m.y, .int .i64 m.z] 33) = V := ⟨_, rfl⟩
  have QM := hid (show Blk V w.heap.size #[.int .i64 m.x, .int .i64 m.y, .int .i64 m.z] 33 from by rw [← hV]; exact Blk.new rfl)
  have BV := hid (show Below w.heap.size w V from by rw [← hV]; go_grown)
  have PV := hid (HP.out.after BV.out)
  rw [hV]
  clear hV c43 c44 c45
  have c43 := (PV.out.se hi).c43
  have c44 := (PV.out.se hi).c44
  have c45 := (PV.out.se hi).c45
  have hltV := PV.out.lt
  have e3 : V.heap.size ≠ b := by omega
  have hlwV : w.heap.size < V.heap.size := QM.out.lt
  have e4 : V.heap.size ≠ w.heap.size := by omega
  obtain ⟨m0, m1, m2, mf, ml⟩ := QM.out.three
  go_cut [6] (fun c wx => ∃ gB : Nat, c = .pointer (some ⟨gB, 0, none⟩) ∧ Blk wx gB #[.int .i64 G.x, .int .i64 G.y, .int .i64 G.z] 33 ∧ Below V.heap.size V wx)
  case first =>
    go_region_held3 (fun w' => (w'.cell? ⟨b, 66 + i * 119 + 43, none⟩ = some (.int .i64 (g.seat i).place.x) ∧ w'.cell? ⟨b, 66 + i * 119 + 44, none⟩ = some (.int .i64 (g.seat i).place.y) ∧ w'.cell? ⟨b, 66 + i * 119 + 45, none⟩ = some (.int .i64 (g.seat i).place.z)) ∧ w'.cell? ⟨w.heap.size, 0, none⟩ = some (.int .i64 m.x) ∧ w'.cell? ⟨w.heap.size, 1, none⟩ = some (.int .i64 m.y) ∧ w'.cell? ⟨w.heap.size, 2, none⟩ = some (.int .i64 m.z)) (go_keep)
      (first | (go_at_call 84; refine (goalOf_any (g.seat i).place m (V.alloc (.cells #[.int .i64 0, .int .i64 0, .int .i64 0] 33)).drew HI.out).mono ?_; rw [HG.out]; rintro e w2 ⟨rfl, hb2⟩; have B2 : Below V.heap.size V w2 := bl (by go_grown) hb2; have y0 := ((PV.out.after B2).se hi).c43; have y1 := ((PV.out.after B2).se hi).c44; have y2 := ((PV.out.after B2).se hi).c45; obtain ⟨z0, z1, z2, zf, zl⟩ := (QM.out.after B2).three; have e1 : w2.heap.size ≠ b := (by have := B2.size; omega); have e2 : w2.heap.size ≠ w.heap.size := (by have := B2.size; omega); have qg := (show Blk (V.alloc (.cells #[.int .i64 0, .int .i64 0, .int .i64 0] 33)).drew V.heap.size #[.int .i64 0, .int .i64 0, .int .i64 0] 33 from Blk.drew (Blk.new rfl)).after hb2; obtain ⟨g0, g1, g2, gf, gl⟩ := qg.three) | (go_at_call 84; refine (goalOf_any (g.seat i).place m V.drew HI.out).mono ?_; rw [HG.out]; rintro e w2 ⟨rfl, hb2⟩; have B2 : Below V.heap.size V w2 := bl (by go_grown) hb2; have y0 := ((PV.out.after B2).se hi).c43; have y1 := ((PV.out.after B2).se hi).c44; have y2 := ((PV.out.after B2).se hi).c45; obtain ⟨z0, z1, z2, zf, zl⟩ := (QM.out.after B2).three; have e1 : w2.heap.size ≠ b := (by have := B2.size; omega); have e2 : w2.heap.size ≠ w.heap.size := (by have := B2.size; omega)))
    all_goals
      go_wp2_with fail
      go_meet
      first | exact ⟨w2.heap.size, rfl, Blk.new rfl, by have := B2.size; go_grown⟩ | exact ⟨V.heap.size, rfl, ((qg.set 0 _).set 1 _).set 2 _, by have := B2.size; go_grown⟩
  case rest =>
    obtain ⟨gB, rfl, QG, BW⟩ := hcut
    generalize wc = W at *
    have PW := hid (PV.out.after BW)
    have BWw := hid (bl BV.out BW)
    have OW := hid (own_of HO.out (fun k hk => BWw.out.block k (own_lt HO.out hk)))
    have HQG := hid QG
    have HBW := hid BW
    clear PV BV QM QG BW c43 c44 c45 m0 m1 m2 mf ml e3 e4 hlwV hltV HP HO
    have c43 := (PW.out.se hi).c43
    have c44 := (PW.out.se hi).c44
    have c45 := (PW.out.se hi).c45
    obtain ⟨g0, g1, g2, gf, gl⟩ := HQG.out.three
    have hltW := PW.out.lt
    have hgW : gB < W.heap.size := HQG.out.lt
    have e3 : W.heap.size ≠ b := by omega
    have e4 : W.heap.size ≠ gB := by omega
    have HBD : Hid (((-1048576 ≤ G.x - (g.seat i).place.x ∧ G.x - (g.seat i).place.x ≤ 1048576) ∧ (-1048576 ≤ G.y - (g.seat i).place.y ∧ G.y - (g.seat i).place.y ≤ 1048576) ∧ (-1048576 ≤ G.z - (g.seat i).place.z ∧ G.z - (g.seat i).place.z ≤ 1048576))) := by
      have a := goal_in (g.seat i).place m
      rw [HG.out] at a
      obtain ⟨a1, a2, a3, a4, a5, a6⟩ := a
      obtain ⟨b1, b2, b3, b4, b5, b6⟩ := HI.out
      simp only [M.cubeLo, M.cubeHi] at a1 a2 a3 a4 a5 a6 b1 b2 b3 b4 b5 b6
      exact ⟨⟨by omega, by omega⟩, ⟨by omega, by omega⟩, ⟨by omega, by omega⟩⟩
    go_upto_region 2 with fail
    go_cut [7] (fun c wx => ∃ dB : Nat, c = .pointer (some ⟨dB, 0, none⟩) ∧ Blk wx dB #[.int .i64 (G.x - (g.seat i).place.x), .int .i64 (G.y - (g.seat i).place.y), .int .i64 (G.z - (g.seat i).place.z)] 33 ∧ Below W.heap.size W wx)
    case first =>
      go_region_held3 (fun w' => (w'.cell? ⟨b, 66 + i * 119 + 43, none⟩ = some (.int .i64 (g.seat i).place.x) ∧ w'.cell? ⟨b, 66 + i * 119 + 44, none⟩ = some (.int .i64 (g.seat i).place.y) ∧ w'.cell? ⟨b, 66 + i * 119 + 45, none⟩ = some (.int .i64 (g.seat i).place.z)) ∧ w'.cell? ⟨gB, 0, none⟩ = some (.int .i64 G.x) ∧ w'.cell? ⟨gB, 1, none⟩ = some (.int .i64 G.y) ∧ w'.cell? ⟨gB, 2, none⟩ = some (.int .i64 G.z)) (go_keep)
        (first | (go_at_call 85; refine (minus_any G (g.seat i).place (W.alloc (.cells #[.int .i64 0, .int .i64 0, .int .i64 0] 33)).drew (by have := HBD.out; omega) (by have := HBD.out; omega) (by have := HBD.out; omega) (by have := HBD.out; omega) (by have := HBD.out; omega) (by have := HBD.out; omega)).mono ?_; rintro e w2 ⟨rfl, hb2⟩; have B2 : Below W.heap.size W w2 := bl (by go_grown) hb2; have y0 := ((PW.out.after B2).se hi).c43; have y1 := ((PW.out.after B2).se hi).c44; have y2 := ((PW.out.after B2).se hi).c45; obtain ⟨z0, z1, z2, zf, zl⟩ := (HQG.out.after B2).three; have e1 : w2.heap.size ≠ b := (by have := B2.size; omega); have e2 : w2.heap.size ≠ gB := (by have := B2.size; omega); have qg := (show Blk (W.alloc (.cells #[.int .i64 0, .int .i64 0, .int .i64 0] 33)).drew W.heap.size #[.int .i64 0, .int .i64 0, .int .i64 0] 33 from Blk.drew (Blk.new rfl)).after hb2; obtain ⟨h0, h1, h2, hf, hl'⟩ := qg.three) | (go_at_call 85; refine (minus_any G (g.seat i).place W.drew (by have := HBD.out; omega) (by have := HBD.out; omega) (by have := HBD.out; omega) (by have := HBD.out; omega) (by have := HBD.out; omega) (by have := HBD.out; omega)).mono ?_; rintro e w2 ⟨rfl, hb2⟩; have B2 : Below W.heap.size W w2 := bl (by go_grown) hb2; have y0 := ((PW.out.after B2).se hi).c43; have y1 := ((PW.out.after B2).se hi).c44; have y2 := ((PW.out.after B2).se hi).c45; obtain ⟨z0, z1, z2, zf, zl⟩ := (HQG.out.after B2).three; have e1 : w2.heap.size ≠ b := (by have := B2.size; omega); have e2 : w2.heap.size ≠ gB := (by have := B2.size; omega)))
      all_goals
        go_wp2_with fail
        go_meet
        first | exact ⟨w2.heap.size, rfl, Blk.new rfl, by have := B2.size; go_grown⟩ | exact ⟨W.heap.size, rfl, ((qg.set 0 _).set 1 _).set 2 _, by have := B2.size; go_grown⟩
    case rest =>
      obtain ⟨dB, rfl, QD, BX⟩ := hcut
      generalize wc = X at *
      have PX := hid (PW.out.after BX)
      have OX := hid (own_of OW.out (fun k hk => BX.block k (own_lt OW.out hk)))
      have QGX := hid (HQG.out.after BX)
      have QDX := hid QD
      have BXw := hid (bl BWw.out BX)
      clear PW OW HQG HBW BWw QD BX c43 c44 c45 g0 g1 g2 gf gl e3 e4 hltW hgW HBD
      have c43 := (PX.out.se hi).c43
      have c44 := (PX.out.se hi).c44
      have c45 := (PX.out.se hi).c45
      obtain ⟨g0, g1, g2, gf, gl⟩ := QGX.out.three
      obtain ⟨d0, d1, d2, df, dl⟩ := QDX.out.three
      obtain ⟨L, hL⟩ : ∃ L, (cellsOf 65 (mapC (.slice x n cap) ps)).toList = L := ⟨_, rfl⟩
      have hLn : L.length = 65 := by rw [← hL]; simp [cellsOf]
      have HL0 := hid (show L.toArray[0]? = some (.slice x n cap) from by rw [← hL]; simp [cellsOf, mapC])
      have hrg := hid (show ∀ W' : World, Below X.heap.size X W' → W'.rangeAt b 0 L from fun W' hB j v hv => by
        rw [← hL, Array.getElem?_toList] at hv
        have hj : j < 65 := by
          have := (Array.getElem?_eq_some_iff.1 hv).1
          simpa [cellsOf] using this
        rw [cellsOf_get _ hj] at hv
        rw [(PX.out.after hB).cm j hj]
        exact hv)
      have hbig : ∀ W' : World, W'.rangeAt b 0 L → (big 65 ⟨b, 0, none⟩).run Try.prog W' = .ok L.toArray W' := fun W' h => by
        have := run_loadCells_list (P := Try.prog) W' ⟨b, 0, none⟩ L (fun j v hv => by rw [Addr.add_mid]; exact h j v hv)
        rw [hLn] at this
        exact this
      have rg0 := hrg.out X (Below.refl _ _)
      have ka : ∀ (W' : World) (o : Obj), W'.rangeAt b 0 L → (W'.alloc o).rangeAt b 0 L := fun W' o h => World.rangeAt_alloc h o
      have ks : ∀ (W' : World) (q k : Nat) (v : Value), q ≠ b → W'.rangeAt b 0 L → (W'.setCell ⟨q, k, none⟩ v).rangeAt b 0 L := fun W' q k v hq h j u hu => by rw [cell_set_blk _ _ _ _ _ _ hq]; exact h j u hu
      have hun : Try.prog.underlying 70 = some _ := Try.underlying70
      have hin : (Try.prog.info? 70).map (·.size) = some L.length := by rw [hLn]; kernel_rfl
      have HN1 := hid (show (g.seat i).place.Near from by obtain ⟨b1, b2, b3, b4, b5, b6⟩ := HI.out; simp only [M.cubeLo, M.cubeHi] at b1 b2 b3 b4 b5 b6; exact ⟨by omega, by omega, by omega, by omega, by omega, by omega⟩)
      have HN2 := hid (show (⟨G.x - (g.seat i).place.x, G.y - (g.seat i).place.y, G.z - (g.seat i).place.z⟩ : M.V3).Near from by
        have a := goal_in (g.seat i).place m
        rw [HG.out] at a
        obtain ⟨a1, a2, a3, a4, a5, a6⟩ := a
        obtain ⟨b1, b2, b3, b4, b5, b6⟩ := HI.out
        simp only [M.cubeLo, M.cubeHi] at a1 a2 a3 a4 a5 a6 b1 b2 b3 b4 b5 b6
        exact ⟨by dsimp only; omega, by dsimp only; omega, by dsimp only; omega, by dsimp only; omega, by dsimp only; omega, by dsimp only; omega⟩)
      have hltX := PX.out.lt
      have hdX : dB < X.heap.size := QDX.out.lt
      have e3 : X.heap.size ≠ b := by omega
      have e4 : X.heap.size ≠ dB := by omega
      clear hL hLn
      go_upto_region 3 with fail
      go_cut [8] (fun c wx => ∃ f : Bool, c = .bool f ∧ M.hitB (g.seat i).place ⟨G.x - (g.seat i).place.x, G.y - (g.seat i).place.y, G.z - (g.seat i).place.z⟩ ls = f ∧ Below X.heap.size X wx)
      case first =>
        go_region_held3 (fun w' => (w'.rangeAt b 0 L) ∧ (w'.cell? ⟨b, 66 + i * 119 + 43, none⟩ = some (.int .i64 (g.seat i).place.x) ∧ w'.cell? ⟨b, 66 + i * 119 + 44, none⟩ = some (.int .i64 (g.seat i).place.y) ∧ w'.cell? ⟨b, 66 + i * 119 + 45, none⟩ = some (.int .i64 (g.seat i).place.z)) ∧ w'.cell? ⟨dB, 0, none⟩ = some (.int .i64 (G.x - (g.seat i).place.x)) ∧ w'.cell? ⟨dB, 1, none⟩ = some (.int .i64 (G.y - (g.seat i).place.y)) ∧ w'.cell? ⟨dB, 2, none⟩ = some (.int .i64 (G.z - (g.seat i).place.z))) (go_keep)
          (first | (go_at_call 86; refine (mapTrace_any L.toArray x n cap 0 ls (g.seat i).place ⟨G.x - (g.seat i).place.x, G.y - (g.seat i).place.y, G.z - (g.seat i).place.z⟩ (X.alloc (.cells #[.int .i64 0, .int .i64 0] 140)).drew HL0.out (own_of OX.out (fun k hk => Below.heap_alloc X _ k (own_lt OX.out hk))) hl HN1.out HN2.out HC.out).mono ?_; rintro e w2 ⟨f, a, k, rfl, hG2, hb2⟩; have B2 : Below X.heap.size X w2 := bl (by go_grown) hb2; have y0 := ((PX.out.after B2).se hi).c43; have y1 := ((PX.out.after B2).se hi).c44; have y2 := ((PX.out.after B2).se hi).c45; obtain ⟨z0, z1, z2, zf, zl⟩ := (QDX.out.after B2).three; have rg2 := hrg.out w2 B2; have e1 : w2.heap.size ≠ b := (by have := B2.size; omega); have e2 : w2.heap.size ≠ dB := (by have := B2.size; omega); have HG2 := hid hG2; clear hG2; have qg := (show Blk (X.alloc (.cells #[.int .i64 0, .int .i64 0] 140)).drew X.heap.size #[.int .i64 0, .int .i64 0] 140 from Blk.drew (Blk.new rfl)).after hb2; obtain ⟨h0, h1, hf, hl'⟩ := qg.two) | (go_at_call 86; refine (mapTrace_any L.toArray x n cap 0 ls (g.seat i).place ⟨G.x - (g.seat i).place.x, G.y - (g.seat i).place.y, G.z - (g.seat i).place.z⟩ X.drew HL0.out (own_of OX.out (fun k hk => rfl)) hl HN1.out HN2.out HC.out).mono ?_; rintro e w2 ⟨f, a, k, rfl, hG2, hb2⟩; have B2 : Below X.heap.size X w2 := bl (by go_grown) hb2; have y0 := ((PX.out.after B2).se hi).c43; have y1 := ((PX.out.after B2).se hi).c44; have y2 := ((PX.out.after B2).se hi).c45; obtain ⟨z0, z1, z2, zf, zl⟩ := (QDX.out.after B2).three; have rg2 := hrg.out w2 B2; have e1 : w2.heap.size ≠ b := (by have := B2.size; omega); have e2 : w2.heap.size ≠ dB := (by have := B2.size; omega); have HG2 := hid hG2; clear hG2))
        all_goals
          go_wp2_with fail
          go_meet
          exact ⟨f, rfl, M.hitB_is HG2.out, by have := B2.size; go_grown⟩
      case rest =>
        obtain ⟨f, rfl, hh, BY⟩ := hcut
        generalize wc = Y at *
        have PY := hid (PX.out.after BY)
        have BYw := hid (bl BXw.out BY)
        have QGY := hid (QGX.out.after BY)
        have HH : Hid (M.hitB (g.seat i).place (M.subV (M.goalP (g.seat i).place m) (g.seat i).place) ls = f) := by unfold Hid; rw [HG.out]; exact hh
        clear PX BXw QGX QDX OX BY hh c43 c44 c45 g0 g1 g2 gf gl d0 d1 d2 df dl rg0 ka ks hun hin hrg hbig e3 e4 hltX hdX HN1 HN2 HL0
        have c43 := (PY.out.se hi).c43
        have c44 := (PY.out.se hi).c44
        have c45 := (PY.out.se hi).c45
        have fr := PY.out.free
        obtain ⟨g0, g1, g2, gf, gl⟩ := QGY.out.three
        cases f
        · have HM : Hid ((g.seat i).moved ls m = { g.seat i with place := G }) := by unfold Hid M.PSeat.moved; rw [HH.out, HG.out, if_neg (by simp)]
          clear HH
          have R0 : Range Y b (66 + i * 119) 119 (pseatC (g.seat i)) := fun k hk => PY.out.cs i k hi hk
          have R3 := hid ((((R0.set1 43 (.int .i64 G.x)).set1 44 (.int .i64 G.y)).set1 45 (.int .i64 G.z)).congr (fun j hj => place_cell (g.seat i) G j))
          have O3 := hid (((OnR.set (b := b) (o := 66 + i * 119) (n := 119) Y 43 (by omega) (.int .i64 G.x)).trans (OnR.set _ 44 (by omega) (.int .i64 G.y))).trans (OnR.set _ 45 (by omega) (.int .i64 G.z)))
          clear R0
          go_wp2
          go_end0
          exact ⟨rfl, by rw [HM.out]; exact PY.out.put hi R3.out O3.out, (On.below BYw.out).trans O3.out.on⟩
        · have HM : Hid ((g.seat i).moved ls m = g.seat i) := by unfold Hid M.PSeat.moved; rw [HH.out, if_pos rfl]
          clear HH
          go_wp2
          go_end0
          exact ⟨rfl, by rw [HM.out, put_same]; exact PY.out, On.below BYw.out⟩

end Go.Proofs.Ytonmihojfcjmjab
