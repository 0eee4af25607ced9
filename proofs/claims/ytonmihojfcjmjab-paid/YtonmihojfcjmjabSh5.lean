import Derived.Test.YtonmihojfcjmjabSh3
import Derived.Test.YtonmihojfcjmjabSh4
/- Contracts of the program's shots: the first that is entered. -/
namespace Go.Proofs.Ytonmihojfcjmjab
open Go.RowKit
set_option linter.unusedVariables false
attribute [local go_sem] cell_set_off cell_set_blk
attribute [local go_sem ↓] big65 big65'

/-- What a shot needs of a slot. -/
structure M.PSeat.Shown (s : M.PSeat) : Prop where
  n1 : 0 < s.health → 1 ≤ s.count
  n2 : s.count ≤ 17
  tr : ∀ i : Nat, (i : Int) < s.count → M.Ok (s.track i)

theorem Blk.apart4 {W : World} {b k : Nat} {cs : Array Value} {t : TypeId} (h : Blk W k cs t) (hne : k ≠ b) (y0 y1 y2 y3 : Value) : Blk ((((W.setCell ⟨b, 0, none⟩ y0).setCell ⟨b, 1, none⟩ y1).setCell ⟨b, 2, none⟩ y2).setCell ⟨b, 3, none⟩ y3) k cs t :=
  h.on ((((On.set b 0 W y0).trans (On.set b 1 _ y1)).trans (On.set b 2 _ y2)).trans (On.set b 3 _ y3)) hne
theorem cube_inB {p : M.V3} (h : M.Cube p) : M.InB M.cubeLo M.cubeHi p := by
  obtain ⟨a1, a2, a3, a4, a5, a6⟩ := h
  exact ⟨a1, a2, a3, a4, a5, a6⟩
theorem poseF_in (t : Int) : ∀ (rs : List M.Rec) (a : M.Rec), M.Ok a → 256 * a.tick ≤ t → (∀ r ∈ rs, M.Ok r) → M.InB M.cubeLo M.cubeHi (M.poseF a t rs)
  | [], a, ha, _, _ => cube_inB ha.c
  | r :: rs, a, ha, h1, hok => by
    have hr := hok r (List.mem_cons_self ..)
    unfold M.poseF
    split
    · rename_i h2
      obtain ⟨a1, a2, a3, a4, a5, a6⟩ := ha.c
      obtain ⟨b1, b2, b3, b4, b5, b6⟩ := hr.c
      have x := M.blend_bd a1 a2 b1 b2 (show 0 ≤ t - 256 * a.tick by omega) (show 0 ≤ 256 * r.tick - t by omega) (by omega)
      have y := M.blend_bd a3 a4 b3 b4 (show 0 ≤ t - 256 * a.tick by omega) (show 0 ≤ 256 * r.tick - t by omega) (by omega)
      have z := M.blend_bd a5 a6 b5 b6 (show 0 ≤ t - 256 * a.tick by omega) (show 0 ≤ 256 * r.tick - t by omega) (by omega)
      exact ⟨x.1, x.2, y.1, y.2, z.1, z.2⟩
    · rename_i h2
      exact poseF_in t rs r hr (by omega) (fun x hx => hok x (List.mem_cons_of_mem _ hx))
theorem pose_in {rs : List M.Rec} (hok : ∀ r ∈ rs, M.Ok r) (hn : 0 < rs.length) (t : Int) : M.InB M.cubeLo M.cubeHi (M.pose t rs) := by
  match rs, hn with
  | r :: rs, _ =>
    have hr := hok r (List.mem_cons_self ..)
    show M.InB _ _ (if t ≤ 256 * r.tick then r.pos else M.poseF r t (r :: rs))
    split
    · exact cube_inB hr.c
    · exact poseF_in t (r :: rs) r hr (by omega) hok
theorem poseAt_in {s : M.PSeat} (h : s.Shown) (hl : 0 < s.health) (t : Int) : M.InB M.cubeLo M.cubeHi (s.poseAt t) := by
  have n1 := h.n1 hl
  refine pose_in (fun r hr => ?_) (by rw [recs_len]; omega) t
  obtain ⟨i, hi⟩ := List.mem_iff_getElem?.1 hr
  obtain ⟨h1, h2⟩ := recs_at s hi
  rw [← h2]; exact h.tr i (by omega)
theorem first_skip {g : M.PGame} {sh : Nat} {p d : M.V3} {t : Int} {j : Nat} (h : j = sh ∨ ¬ 0 < (g.seat j).health) : g.firstTo sh p d t (j + 1) = g.firstTo sh p d t j := by
  show g.look sh p d t j _ = _
  unfold M.PGame.look; rw [if_pos h]
theorem first_new {g : M.PGame} {sh : Nat} {p d : M.V3} {t : Int} {j : Nat} (h : ¬ (j = sh ∨ ¬ 0 < (g.seat j).health)) {H : M.Hit} (hH : M.hitAt p d ((g.seat j).poseAt t) = H) :
    g.firstTo sh p d t (j + 1) = if M.Hit.ahead H (g.firstTo sh p d t j).2 = true then (j, H) else g.firstTo sh p d t j := by
  show g.look sh p d t j _ = _
  unfold M.PGame.look; rw [if_neg h, hH]
theorem first_ok (g : M.PGame) (sh : Nat) (p d : M.V3) (t : Int) : ∀ n, HitOk (g.firstTo sh p d t n).2
  | 0 => HitOk.none
  | n + 1 => by
    show HitOk (g.look sh p d t n _).2
    unfold M.PGame.look
    split
    · exact first_ok g sh p d t n
    · split
      · exact hitAt_ok _ _ _
      · exact first_ok g sh p d t n

set_option maxRecDepth 100000 in
set_option maxHeartbeats 4000000 in
theorem pFirst_any (b sh : Nat) (mv : Value) (ps : Nat → Bool) (g : M.PGame) (p d : M.V3) (t : Int) (w : World) (h : Pg w b mv ps g) (hsh : sh < 8) (hp : p.Near) (hd : d.Near) (t0 : 0 ≤ t) (t1 : t ≤ 16777215) (hs : ∀ j, j < 8 → (g.seat j).Shown) :
    Calls Try.prog 73 #[.pointer (some ⟨b, 0, none⟩), .int .i64 sh, .agg #[.int .i64 p.x, .int .i64 p.y, .int .i64 p.z, .int .i64 d.x, .int .i64 d.y, .int .i64 d.z, .int .i64 t]] w fun e w' => e = .returned (.tuple #[.int .i64 (g.firstTo sh p d t 8).1, hitV (g.firstTo sh p d t 8).2]) ∧ Below w.heap.size w w' := by
  have HP := hid h
  have HS := hid hs
  have hlt := h.lt
  clear h hs
  have HN := hid (And.intro hp hd)
  clear hp hd
  go_enter Try.func73, Try.ntmps73
  go_wp2_with fail
  go_loopg [8, 10, 11, 12, 13, 15] 9 (fun k u8 u10 u11 u12 u13 u15 wr => ∃ j : Nat, u15 = .int .i64 j ∧ j ≤ 8 ∧ k + j = 9 ∧ ∃ (F : Nat × M.Hit) (s1 : Bool) (x1 x2 x3 : Int), Hid (g.firstTo sh p d t j = F) ∧ u8 = .int .i64 F.1 ∧ Hid (hitV F.2 = .agg #[.bool s1, .int .i64 x1, .int .i64 x2, .int .i64 x3]) ∧ Hid (Blk wr w.heap.size #[.int .i64 p.x, .int .i64 p.y, .int .i64 p.z, .int .i64 d.x, .int .i64 d.y, .int .i64 d.z, .int .i64 t] 138) ∧ Hid (Blk wr (w.heap.size + 1) #[.bool false, .int .i64 0, .int .i64 0, .int .i64 0] 142) ∧ Hid (Blk wr (w.heap.size + 1 + 1) #[.bool s1, .int .i64 x1, .int .i64 x2, .int .i64 x3] 142) ∧ Hid (Below w.heap.size w wr))
  case atStart => exact ⟨0, rfl, by omega, rfl, (0, none), _, _, _, _, rfl, rfl, rfl, hid (by repeat' (first | (with_reducible assumption) | (refine Blk.new ?_; (first | (simp; done) | rfl); done) | (with_reducible refine Blk.alloc ?_) | (with_reducible refine Blk.drew ?_) | (with_reducible refine Blk.drewN ?_))), hid (by repeat' (first | (with_reducible assumption) | (refine Blk.new ?_; (first | (simp; done) | rfl); done) | (with_reducible refine Blk.alloc ?_) | (with_reducible refine Blk.drew ?_) | (with_reducible refine Blk.drewN ?_))), hid (by repeat' (first | (with_reducible assumption) | (refine Blk.new ?_; (first | (simp; done) | rfl); done) | (with_reducible refine Blk.alloc ?_) | (with_reducible refine Blk.drew ?_) | (with_reducible refine Blk.drewN ?_))), by unfold Hid; go_grown⟩
  case round =>
    obtain ⟨j, rfl, hj, hk, F, s1, x1, x2, x3, HF, rfl, HV, QS, QZ, QL, BW⟩ := hrel
    have PW := hid (HP.out.after BW.out)
    have hltW := PW.out.lt
    by_cases hlt8 : j < 8
    · have j0 : (0 : Int) ≤ (j : Int) := by omega
      have j1 : (j : Int) < 8 := by omega
      have c46 := (PW.out.se hlt8).c46
      by_cases hsj : j = sh
      · have z : ((j : Int) == (sh : Int)) = true := by simp [hsj]
        have HF2 : Hid (g.firstTo sh p d t (j + 1) = F) := by unfold Hid; rw [first_skip (.inl hsj)]; exact HF.out
        clear hsj HF
        go_wp2
        go_roundg (gk - 1)
        case measure => omega
        case rel => exact ⟨j + 1, by go_num, by omega, by omega, F, s1, x1, x2, x3, HF2, rfl, HV, QS, QZ, QL, BW⟩
      · have z : ((j : Int) == (sh : Int)) = false := by simp; omega
        by_cases hl : 0 < (g.seat j).health
        · have HL : Hid (decide (0 < (g.seat j).health) = true) := decide_eq_true hl
          obtain ⟨q, hq⟩ : ∃ q, (g.seat j).poseAt t = q := ⟨_, rfl⟩
          obtain ⟨H, hH⟩ : ∃ H, M.hitAt p d ((g.seat j).poseAt t) = H := ⟨_, rfl⟩
          have HF2 : Hid (g.firstTo sh p d t (j + 1) = if M.Hit.ahead H F.2 = true then (j, H) else F) := by unfold Hid; rw [first_new (by simp [hsj, hl]) hH, HF.out]
          obtain ⟨B, hB⟩ : ∃ B, M.Hit.ahead H F.2 = B := ⟨_, rfl⟩
          rw [hB] at HF2
          have OH := hid (show HitOk H from hH ▸ hitAt_ok _ _ _)
          have OF := hid (show HitOk F.2 from HF.out ▸ first_ok g sh p d t j)
          have sj := (HS.out j hlt8)
          have T1 := hid (fun (W : World) (hR : Range W b (66 + j * 119) 119 (pseatC (g.seat j))) (hb : b < W.heap.size) => trPose_any b (66 + j * 119) (g.seat j) t W hR hb (sj.n1 hl) sj.n2 sj.tr t0 t1 q hq)
          have T2 := hid (fun W => shEnter_any p d q t W HN.out.1 HN.out.2 (hq ▸ poseAt_in sj hl t) H (hq ▸ hH))
          have T3 := hid (fun W => ahead_any H F.2 W OH.out OF.out B hB)
          obtain ⟨s2, y1, y2, y3, e2⟩ := hitV_lit H
          have E2 := hid e2
          rw [e2] at T2 T3
          rw [HV.out] at T3
          clear hl HF hsj hq hH hB sj OH OF e2
          have hcs := hid (fun (W : World) (hB : Below wr.heap.size wr W) (k : Nat) (hk : k < 119) => ((PW.out.after hB).cs j k hlt8 hk))
          go_wp2_with fail
          refine (live_any b (66 + j * 119 + 40) _ (g.seat j).health c46 true HL).mono ?_
          rintro e w1 ⟨rfl, rfl⟩
          obtain ⟨c0, c1, c2, c3, c4, c5, c6, cf, cl⟩ := QS.out.seven7
          have e3 : w1.heap.size ≠ w.heap.size := by omega
          have e5 : w1.heap.size ≠ b := by omega
          go_upto_region 8 with fail
          go_cut [12] (fun c wx => ∃ gB : Nat, c = .pointer (some ⟨gB, 0, none⟩) ∧ Blk wx gB #[.int .i64 q.x, .int .i64 q.y, .int .i64 q.z] 33 ∧ Below w1.heap.size w1 wx)
          case first =>
            go_region_held3 (fun w' => w'.cell? ⟨w.heap.size, 6, none⟩ = some (.int .i64 t)) (go_keep)
              (first | (go_at_call 88; refine (T1.out (w1.alloc (.cells #[.int .i64 0, .int .i64 0, .int .i64 0] 33)).drew (fun k hk => hcs.out _ (by go_grown) k hk) (by simp; omega)).mono ?_; rintro e w2 ⟨rfl, hb2⟩; have B2 : Below w1.heap.size w1 w2 := bl (by go_grown) hb2; obtain ⟨d0, d1, d2, d3, d4, d5, d6, df, dl⟩ := (QS.out.after B2).seven7; have e1 : w2.heap.size ≠ w.heap.size := (by have := B2.size; omega); have qg := (show Blk (w1.alloc (.cells #[.int .i64 0, .int .i64 0, .int .i64 0] 33)).drew w1.heap.size #[.int .i64 0, .int .i64 0, .int .i64 0] 33 from Blk.drew (Blk.new rfl)).after hb2; obtain ⟨g0, g1, g2, gf, gl⟩ := qg.three) | (go_at_call 88; refine (T1.out w1.drew (fun k hk => hcs.out _ (by go_grown) k hk) (by simpa using hltW)).mono ?_; rintro e w2 ⟨rfl, hb2⟩; have B2 : Below w1.heap.size w1 w2 := bl (by go_grown) hb2; obtain ⟨d0, d1, d2, d3, d4, d5, d6, df, dl⟩ := (QS.out.after B2).seven7; have e1 : w2.heap.size ≠ w.heap.size := (by have := B2.size; omega)))
            all_goals
              go_wp2_with fail
              go_meet
              first | exact ⟨w2.heap.size, rfl, Blk.new rfl, by have := B2.size; go_grown⟩ | exact ⟨w1.heap.size, rfl, ((qg.set 0 _).set 1 _).set 2 _, by have := B2.size; go_grown⟩
          case rest =>
            obtain ⟨gB, rfl, QG, BX⟩ := hcut
            generalize wc = X at *
            have QSX := hid (QS.out.after BX)
            have QZX := hid (QZ.out.after BX)
            have QLX := hid (QL.out.after BX)
            have BXw := hid (bl BW.out BX)
            have zX := BX.size
            have HG := hid QG
            clear QS QZ QL BW BX QG c0 c1 c2 c3 c4 c5 c6 cf cl e3 e5 T1 hcs c46 PW
            obtain ⟨c0, c1, c2, c3, c4, c5, c6, cf, cl⟩ := QSX.out.seven7
            obtain ⟨g0, g1, g2, gf, gl⟩ := HG.out.three
            go_wp2_with fail
            refine (T2.out _).mono ?_
            rintro e w3 ⟨rfl, hb3⟩
            have QS3 := hid (QSX.out.after hb3)
            have QZ3 := hid (QZX.out.after hb3)
            have QL3 := hid (QLX.out.after hb3)
            have lq := QL3.out.lt
            have B3 := hid (bl BXw.out hb3)
            have z3 := hb3.size
            clear QSX QZX QLX BXw HG hb3 c0 c1 c2 c3 c4 c5 c6 cf cl g0 g1 g2 gf gl T2
            obtain ⟨l0, l1, l2, l3, lf, ll⟩ := QL3.out.four
            go_wp2_with fail
            refine (T3.out _).mono ?_
            rintro e w4 ⟨rfl, hb4⟩
            have QS4 := hid ((show Blk _ w.heap.size #[.int .i64 p.x, .int .i64 p.y, .int .i64 p.z, .int .i64 d.x, .int .i64 d.y, .int .i64 d.z, .int .i64 t] 138 from Blk.alloc QS3.out).after hb4)
            have QZ4 := hid ((show Blk _ (w.heap.size + 1) #[.bool false, .int .i64 0, .int .i64 0, .int .i64 0] 142 from Blk.alloc QZ3.out).after hb4)
            have QL4 := hid ((show Blk _ (w.heap.size + 1 + 1) #[.bool s1, .int .i64 x1, .int .i64 x2, .int .i64 x3] 142 from Blk.alloc QL3.out).after hb4)
            have QH4 := hid ((show Blk _ w3.heap.size #[.bool s2, .int .i64 y1, .int .i64 y2, .int .i64 y3] 142 from Blk.new rfl).after hb4)
            have B4 := hid (show Below w.heap.size w w4 from bl (by have := B3.out; go_grown) hb4)
            have z4 := hb4.size
            clear QS3 QZ3 QL3 B3 hb4 l0 l1 l2 l3 lf ll T3
            obtain ⟨l0, l1, l2, l3, lf, ll⟩ := QL4.out.four
            obtain ⟨h0, h1, h2, h3, hf, hl'⟩ := QH4.out.four
            have lz := QS4.out.lt
            have n1 : w3.heap.size ≠ w.heap.size + 1 + 1 := by omega
            cases B
            · go_wp2
              go_roundg (gk - 1)
              case measure => omega
              case rel => exact ⟨j + 1, by go_num, by omega, by omega, F, s1, x1, x2, x3, HF2, rfl, HV, QS4, QZ4, QL4, B4⟩
            · go_wp2
              go_roundg (gk - 1)
              case measure => omega
              case rel => exact ⟨j + 1, by go_num, by omega, by omega, (j, H), s2, y1, y2, y3, HF2, rfl, E2, hid (QS4.out.apart4 (by omega) _ _ _ _), hid (QZ4.out.apart4 (by omega) _ _ _ _), hid (QL4.out.set4 _ _ _ _), by have := B4.out; unfold Hid; go_grown⟩
        · have HL : Hid (decide (0 < (g.seat j).health) = false) := decide_eq_false hl
          have HF2 : Hid (g.firstTo sh p d t (j + 1) = F) := by unfold Hid; rw [first_skip (.inr hl)]; exact HF.out
          clear hl HF hsj
          go_wp2_with fail
          refine (live_any b (66 + j * 119 + 40) _ (g.seat j).health c46 false HL).mono ?_
          rintro e w1 ⟨rfl, rfl⟩
          go_wp2
          go_roundg (gk - 1)
          case measure => omega
          case rel => exact ⟨j + 1, by go_num, by omega, by omega, F, s1, x1, x2, x3, HF2, rfl, HV, QS, QZ, QL, BW⟩
    · have j1 : ¬ (j : Int) < 8 := by omega
      obtain rfl : j = 8 := by omega
      have HFo := hid HF.out
      obtain ⟨r0, r1, r2, r3, rf, rl⟩ := QZ.out.four
      obtain ⟨l0, l1, l2, l3, lf, ll⟩ := QL.out.four
      go_wp2_with fail
      go_region
      all_goals go_wp2
      all_goals exact bodyPost_ret (v := .tuple #[.int .i64 F.1, .agg #[.bool s1, .int .i64 x1, .int .i64 x2, .int .i64 x3]]) (by simp [results, Try.results73, go_sem, *]) rfl ⟨by rw [HFo.out, HV.out], by have := BW.out; go_grown⟩

end Go.Proofs.Ytonmihojfcjmjab
