/- The law Seen. -/
import Derived.Test.YtonmihojfcjmjaaSe2
import Derived.Test.YtonmihojfcjmjaaSe4
import Derived.Test.YtonmihojfcjmjaaBk1
import Derived.Deep.DeepCutAuto
import Derived.OpenShut
namespace Go.Proofs.Ytonmihojfcjmjaa
open Go.RowKit
set_option linter.unusedVariables false
attribute [local go_sem] cell_set_off cell_set_blk
attribute [local go_sem ↓] big65 big65'

/-- Fits an int. -/
structure M.Fit (p : M.V3) : Prop where
  x1 : -9223372036854775808 ≤ p.x
  x2 : p.x ≤ 9223372036854775807
  y1 : -9223372036854775808 ≤ p.y
  y2 : p.y ≤ 9223372036854775807
  z1 : -9223372036854775808 ≤ p.z
  z2 : p.z ≤ 9223372036854775807

/-- pick, of 4097 things. -/
def M.pickV (c : Int) : Int := if c < 0 then -(c + 1).tmod 4097 else c % 4097
theorem M.pickV_bd (c : Int) : 0 ≤ M.pickV c ∧ M.pickV c ≤ 4096 := by
  unfold M.pickV
  split
  · rename_i h; have := tmod_pick (n := 4097) (by omega) h; omega
  · omega

set_option maxHeartbeats 1000000 in
theorem pick_at (c : Int) (w : World) (h1 : -9223372036854775808 ≤ c) (h2 : c ≤ 9223372036854775807) (r : Int) (hr : Hid (M.pickV c = r)) :
    Calls Try.prog 22 #[.int .i64 c, .int .i64 4097] w fun e w' => e = .returned (.int .i64 r) ∧ w' = w := by
  by_cases h : c < 0
  · have e : -(c + 1).tmod 4097 = r := by rw [← hr.out]; unfold M.pickV; rw [if_pos h]
    have E := hid e
    clear e hr
    go_enter Try.func22, Try.ntmps22
    go_wp2
    go_ret
    exact ⟨ret_int E.out, rfl⟩
  · have e : c % 4097 = r := by rw [← hr.out]; unfold M.pickV; rw [if_neg h]
    have E := hid e
    clear e hr
    go_enter Try.func22, Try.ntmps22
    go_wp2
    go_ret
    exact ⟨ret_int E.out, rfl⟩

theorem pick_v (c : Int) (w : World) (h1 : -9223372036854775808 ≤ c ∧ c ≤ 9223372036854775807) :
    Calls Try.prog 22 #[.int .i64 c, .int .i64 4097] w fun e w' => e = .returned (.int .i64 (M.pickV c)) ∧ w' = w := pick_at c w h1.1 h1.2 _ rfl

set_option maxRecDepth 100000 in
set_option maxHeartbeats 8000000 in
theorem seen_any (at_ : Int) (linked : Bool) (p q : M.V3) (w : World) (h1 : -9223372036854775808 ≤ at_) (h2 : at_ ≤ 9223372036854775807) (hp : M.Fit p) (hq : M.Fit q) :
    Calls Try.prog 11 #[.int .i64 at_, .bool linked, .agg #[.int .i64 p.x, .int .i64 p.y, .int .i64 p.z], .agg #[.int .i64 q.x, .int .i64 q.y, .int .i64 q.z]] w fun e w' => e = .returned (.bool true) ∧ Below w.heap.size w w' := by
  have FP := hid hp
  have FQ := hid hq
  clear hp hq
  go_enter Try.func11, Try.ntmps11
  go_wp2_with fail
  refine (pick255 at_ _ h1 h2).mono ?_
  rintro rr wz ⟨⟨r1, rfl, r10, r11⟩, rfl⟩
  go_wp2_with fail
  obtain ⟨k, hk⟩ : ∃ k, 1 + r1 = k := ⟨_, rfl⟩
  rw [hk]
  have k1 : 1 ≤ k := by omega
  have k2 : k ≤ 255 := by omega
  clear hk r10 r11 h1 h2
  refine (digits_any k _ (by omega) k2).mono ?_
  rintro rr w1 ⟨b1, b2, rfl, g1, g2, hb⟩
  have G1 : Hid (M.hexV (b1.toNat : Int) = k / 16) := g1
  have G2 : Hid (M.hexV (b2.toNat : Int) = k % 16) := g2
  have q0 := (show Blk _ w.heap.size #[.int .i64 p.x, .int .i64 p.y, .int .i64 p.z] 27 from (by repeat' (first | (with_reducible assumption) | (refine Blk.new ?_; (first | (simp; done) | rfl); done) | (with_reducible refine Blk.alloc ?_) | (with_reducible refine Blk.drew ?_) | (with_reducible refine Blk.drewN ?_)))).after hb
  have q1 := (show Blk _ (w.heap.size + 1) #[.int .i64 q.x, .int .i64 q.y, .int .i64 q.z] 27 from (by repeat' (first | (with_reducible assumption) | (refine Blk.new ?_; (first | (simp; done) | rfl); done) | (with_reducible refine Blk.alloc ?_) | (with_reducible refine Blk.drew ?_) | (with_reducible refine Blk.drewN ?_)))).after hb
  have B1 : Below w.heap.size w w1 := bl (by go_grown) hb
  clear hb g1 g2
  obtain ⟨x1, hx1⟩ : ∃ r, M.pickV p.x = r := ⟨_, rfl⟩
  obtain ⟨x2, hx2⟩ : ∃ r, M.pickV p.y = r := ⟨_, rfl⟩
  obtain ⟨x3, hx3⟩ : ∃ r, M.pickV p.z = r := ⟨_, rfl⟩
  obtain ⟨y1, hy1⟩ : ∃ r, M.pickV q.x = r := ⟨_, rfl⟩
  obtain ⟨y2, hy2⟩ : ∃ r, M.pickV q.y = r := ⟨_, rfl⟩
  obtain ⟨y3, hy3⟩ : ∃ r, M.pickV q.z = r := ⟨_, rfl⟩
  have X1 := hid hx1
  have X2 := hid hx2
  have X3 := hid hx3
  have Y1 := hid hy1
  have Y2 := hid hy2
  have Y3 := hid hy3
  clear hx1 hx2 hx3 hy1 hy2 hy3
  have Q0 := hid q0
  have Q1 := hid q1
  have HB1 := hid B1
  have hlw : w.heap.size + 1 < w1.heap.size := q1.lt
  obtain ⟨a0, a1, a2, af, al⟩ := q0.three
  have HK := hid (And.intro k1 k2)
  clear q0 q1 B1 k1 k2
  have c0 := Q1.out.cell 0
  have c1 := Q1.out.cell 1
  have c2 := Q1.out.cell 2
  simp only [List.getElem?_toArray, List.getElem?_cons_zero, List.getElem?_cons_succ] at c0 c1 c2
  cases linked
  · go_upto_region 6 with fail
    go_cut [12] (fun c wx => c = .pointer (some ⟨w1.heap.size, 0, none⟩) ∧ wx = (w1.alloc (.cells #[.int .i64 (M.pickV p.x), .int .i64 (M.pickV p.y), .int .i64 (M.pickV p.z)] 27)).drew)
    case first =>
      go_region_held3 (fun w' => w'.cell? ⟨w.heap.size, 0, none⟩ = some (.int .i64 p.x) ∧ w'.cell? ⟨w.heap.size, 1, none⟩ = some (.int .i64 p.y) ∧ w'.cell? ⟨w.heap.size, 2, none⟩ = some (.int .i64 p.z)) (go_keep)
        ((go_at_call 22; refine (pick_v _ _ (by first | exact ⟨FP.out.x1, FP.out.x2⟩ | exact ⟨FP.out.y1, FP.out.y2⟩ | exact ⟨FP.out.z1, FP.out.z2⟩)).mono ?_; rintro e wz ⟨rfl, rfl⟩))
      all_goals (go_wp2_with fail; go_meet; exact ⟨rfl, rfl⟩)
    case rest =>
      obtain ⟨rfl, rfl⟩ := hcut
      obtain ⟨V1, hV1⟩ : ∃ V, (w1.alloc (.cells #[.int .i64 (M.pickV p.x), .int .i64 (M.pickV p.y), .int .i64 (M.pickV p.z)] 27)).drew = V := ⟨_, rfl⟩
      have QA := hid (show Blk V1 w1.heap.size #[.int .i64 (M.pickV p.x), .int .i64 (M.pickV p.y), .int .i64 (M.pickV p.z)] 27 from by rw [← hV1]; exact (Blk.new rfl).drew)
      have QQ := hid (show Blk V1 (w.heap.size + 1) #[.int .i64 q.x, .int .i64 q.y, .int .i64 q.z] 27 from by rw [← hV1]; exact (Q1.out.alloc).drew)
      have HBV := hid (show Below w.heap.size w V1 from by rw [← hV1]; exact ((HB1.out).alloc (by have := HB1.out.size; omega) _).drew)
      have hlv : w1.heap.size < V1.heap.size := QA.out.lt
      rw [hV1]
      rw [X1.out, X2.out, X3.out] at QA
      clear hV1 a0 a1 a2 af al c0 c1 c2 Q0 Q1 HB1
      obtain ⟨c0, c1, c2, cf, cl⟩ := QQ.out.three
      go_upto_region 7 with fail
      go_cut [13] (fun c wx => c = .pointer (some ⟨V1.heap.size, 0, none⟩) ∧ wx = (V1.alloc (.cells #[.int .i64 (M.pickV q.x), .int .i64 (M.pickV q.y), .int .i64 (M.pickV q.z)] 27)).drew)
      case first =>
        go_region_held3 (fun w' => w'.cell? ⟨w.heap.size + 1, 0, none⟩ = some (.int .i64 q.x) ∧ w'.cell? ⟨w.heap.size + 1, 1, none⟩ = some (.int .i64 q.y) ∧ w'.cell? ⟨w.heap.size + 1, 2, none⟩ = some (.int .i64 q.z)) (go_keep)
          ((go_at_call 22; refine (pick_v _ _ (by first | exact ⟨FQ.out.x1, FQ.out.x2⟩ | exact ⟨FQ.out.y1, FQ.out.y2⟩ | exact ⟨FQ.out.z1, FQ.out.z2⟩)).mono ?_; rintro e wz ⟨rfl, rfl⟩))
        all_goals (go_wp2_with fail; go_meet; exact ⟨rfl, rfl⟩)
      case rest =>
        obtain ⟨rfl, rfl⟩ := hcut
        obtain ⟨V2, hV2⟩ : ∃ V, (V1.alloc (.cells #[.int .i64 (M.pickV q.x), .int .i64 (M.pickV q.y), .int .i64 (M.pickV q.z)] 27)).drew = V := ⟨_, rfl⟩
        have QB := hid (show Blk V2 V1.heap.size #[.int .i64 (M.pickV q.x), .int .i64 (M.pickV q.y), .int .i64 (M.pickV q.z)] 27 from by rw [← hV2]; exact (Blk.new rfl).drew)
        have QA2 := hid (show Blk V2 w1.heap.size #[.int .i64 x1, .int .i64 x2, .int .i64 x3] 27 from by rw [← hV2]; exact (QA.out.alloc).drew)
        have HBW := hid (show Below w.heap.size w V2 from by rw [← hV2]; exact ((HBV.out).alloc (by have := HBV.out.size; omega) _).drew)
        rw [hV2]
        rw [Y1.out, Y2.out, Y3.out] at QB
        clear hV2 c0 c1 c2 cf cl QQ QA HBV
        obtain ⟨a0, a1, a2, af, al⟩ := QA2.out.three
        obtain ⟨c0, c1, c2, cf, cl⟩ := QB.out.three
        have hS : (({ data := #[120] } ++ { data := #[b1, b2] } ++ { data := #[51, 48] } : ByteArray)) = M.seS b1 b2 := by
          apply ByteArray.ext
          simp [M.seS, ByteArray.data_append]
        have HSS := hid hS
        have HTop := hid (M.se_top HK.out.1 HK.out.2 G1.out G2.out)
        have HErr := hid (M.se_err HTop.out)
        have HPr := hid (M.se_prs HTop.out)
        clear hS
        have IA := hid (show M.InB M.cubeLo M.cubeHi (⟨x1, x2, x3⟩ : M.V3) from by rw [← X1.out, ← X2.out, ← X3.out]; exact ⟨(M.pickV_bd _).1, (M.pickV_bd _).2, (M.pickV_bd _).1, (M.pickV_bd _).2, (M.pickV_bd _).1, (M.pickV_bd _).2⟩)
        have IB := hid (show M.InB M.cubeLo M.cubeHi (⟨y1, y2, y3⟩ : M.V3) from by rw [← Y1.out, ← Y2.out, ← Y3.out]; exact ⟨(M.pickV_bd _).1, (M.pickV_bd _).2, (M.pickV_bd _).1, (M.pickV_bd _).2, (M.pickV_bd _).1, (M.pickV_bd _).2⟩)
        clear X1 X2 X3 Y1 Y2 Y3 FP FQ
        go_wp2_with fail
        rw [HSS.out]
        refine (pairOf_any (M.seS b1 b2) ⟨x1, x2, x3⟩ ⟨y1, y2, y3⟩ _ (by show 5 ≤ 512; omega) HErr.out (M.seL k) (by rw [HTop.out]) (by show 2 ≤ 512; omega) (by rw [(M.inCube_iff _).2 IA.out, M.se_zone HK.out.1 HK.out.2 IA.out, Bool.true_and]; split <;> rfl) (by rw [(M.inCube_iff _).2 IB.out, M.se_zone HK.out.1 HK.out.2 IB.out, Bool.true_and]; split <;> rfl)).mono ?_
        rintro rr V3 ⟨hb, b, x, n, cap, rfl, hP, hO⟩
        rw [HPr.out] at hP
        have HP := hid hP
        have HO := hid hO
        have QB3 := hid (QB.out.after hb)
        have QA3 := hid (QA2.out.after hb)
        have HB3 := hid (bl HBW.out hb)
        clear hb hP hO HBW QB QA2 a0 a1 a2 af al c0 c1 c2 cf cl HSS HErr HTop
        obtain ⟨a0, a1, a2, af, al⟩ := QA3.out.three
        obtain ⟨c0, c1, c2, cf, cl⟩ := QB3.out.three
        obtain ⟨p1, p2, p3, p4, p5, p6⟩ := IA.out
        obtain ⟨e1, e2, e3, e4, e5, e6⟩ := IB.out
        simp only [M.cubeLo, M.cubeHi] at p1 p2 p3 p4 p5 p6 e1 e2 e3 e4 e5 e6
        obtain ⟨s10, s11⟩ := sq_bd (a := x1 - y1) (by omega) (by omega)
        obtain ⟨s20, s21⟩ := sq_bd (a := x2 - y2) (by omega) (by omega)
        obtain ⟨s30, s31⟩ := sq_bd (a := x3 - y3) (by omega) (by omega)
        have k1 := HK.out.1
        have k2 := HK.out.2
        go_wp2_with fail
        refine (entry_any 0 ⟨x1, x2, x3⟩ _ (by omega) IA.out).mono ?_
        rintro rr V4 ⟨rfl, hb⟩
        have HP4 := hid (HP.out.after hb)
        have HO4 := hid (own_of HO.out (fun g hg => hb.block g (own_lt HO.out hg)))
        have QB4 := hid (QB3.out.after hb)
        have HB4 := hid (bl HB3.out hb)
        clear hb HP HO QB3 QA3 HB3 a0 a1 a2 af al c0 c1 c2 cf cl
        obtain ⟨c0, c1, c2, cf, cl⟩ := QB4.out.three
        go_wp2_with fail
        refine (entry_any 1 ⟨y1, y2, y3⟩ _ (by omega) IB.out).mono ?_
        rintro rr V5 ⟨rfl, hb⟩
        have HP5 := hid (HP4.out.after hb)
        have HO5 := hid (own_of HO4.out (fun g hg => hb.block g (own_lt HO4.out hg)))
        have HB5 := hid (bl HB4.out hb)
        clear hb HP4 HO4 QB4 HB4 c0 c1 c2 cf cl s10 s11 s20 s21 s30 s31 p1 p2 p3 p4 p5 p6 e1 e2 e3 e4 e5 e6
        have hc1 := bytes_back (W := (V5.alloc (.cells #[.int .u8 83, .int .u8 0, .int .u8 0, .int .u8 0, .int .u8 1, .int .u8 100, .int .u8 6, .int .u8 0, .int .u8 1] 5))) (g := V5.heap.size) (xs := [83, 0, 0, 0, 1, 100, 6, 0, 1]) (Blk.new (by simp)) (by intro x hx; simp at hx; omega) 9 rfl
        have hc2 := bytes_back (W := ((V5.alloc (.cells #[.int .u8 83, .int .u8 0, .int .u8 0, .int .u8 0, .int .u8 1, .int .u8 100, .int .u8 6, .int .u8 0, .int .u8 1] 5)).alloc (.cells #[.int .u8 83, .int .u8 0, .int .u8 0, .int .u8 1, .int .u8 1, .int .u8 100, .int .u8 6, .int .u8 0, .int .u8 1] 5))) (g := V5.heap.size + 1) (xs := [83, 0, 0, 1, 1, 100, 6, 0, 1]) (Blk.new (by simp)) (by intro x hx; simp at hx; omega) 9 rfl
        have hc3 := bytes_back (W := (((V5.alloc (.cells #[.int .u8 83, .int .u8 0, .int .u8 0, .int .u8 0, .int .u8 1, .int .u8 100, .int .u8 6, .int .u8 0, .int .u8 1] 5)).alloc (.cells #[.int .u8 83, .int .u8 0, .int .u8 0, .int .u8 1, .int .u8 1, .int .u8 100, .int .u8 6, .int .u8 0, .int .u8 1] 5)).alloc (.cells #[.int .u8 83, .int .u8 0, .int .u8 0, .int .u8 0, .int .u8 1, .int .u8 100, .int .u8 6, .int .u8 0, .int .u8 2] 5))) (g := V5.heap.size + 1 + 1) (xs := [83, 0, 0, 0, 1, 100, 6, 0, 2]) (Blk.new (by simp)) (by intro x hx; simp at hx; omega) 9 rfl
        have hc4 := bytes_back (W := ((((V5.alloc (.cells #[.int .u8 83, .int .u8 0, .int .u8 0, .int .u8 0, .int .u8 1, .int .u8 100, .int .u8 6, .int .u8 0, .int .u8 1] 5)).alloc (.cells #[.int .u8 83, .int .u8 0, .int .u8 0, .int .u8 1, .int .u8 1, .int .u8 100, .int .u8 6, .int .u8 0, .int .u8 1] 5)).alloc (.cells #[.int .u8 83, .int .u8 0, .int .u8 0, .int .u8 0, .int .u8 1, .int .u8 100, .int .u8 6, .int .u8 0, .int .u8 2] 5)).alloc (.cells #[.int .u8 83, .int .u8 0, .int .u8 0, .int .u8 1, .int .u8 1, .int .u8 100, .int .u8 6, .int .u8 0, .int .u8 2] 5))) (g := V5.heap.size + 1 + 1 + 1) (xs := [83, 0, 0, 1, 1, 100, 6, 0, 2]) (Blk.new (by simp)) (by intro x hx; simp at hx; omega) 9 rfl
        have r0 : (⟨(((M.PSeat.empty 0).give ⟨x1, x2, x3⟩).row 0).toArray⟩ : ByteArray).size = 9 := rfl
        have r1 : (⟨(((M.PSeat.empty 0).give ⟨y1, y2, y3⟩).row 1).toArray⟩ : ByteArray).size = 9 := rfl
        obtain ⟨NB, hNB⟩ : ∃ N, decide ((x1 - y1) * (x1 - y1) + (x2 - y2) * (x2 - y2) + (x3 - y3) * (x3 - y3) ≤ 1048576) = N := ⟨_, rfl⟩
        rw [hNB]
        have HNB : Hid (M.nearP ⟨x1, x2, x3⟩ ⟨y1, y2, y3⟩ = NB) := hNB
        clear hNB
        cases NB
        · have SAB : Hid (M.showsP (M.seL k) M.noPairs (M.seat1 ⟨x1, x2, x3⟩) (M.seat1 ⟨y1, y2, y3⟩) = false) := by unfold Hid; rw [M.shows_no ⟨x1, x2, x3⟩ ⟨y1, y2, y3⟩ k k1 k2 IA.out IB.out, HNB.out]; rfl
          have SBA : Hid (M.showsP (M.seL k) M.noPairs (M.seat1 ⟨y1, y2, y3⟩) (M.seat1 ⟨x1, x2, x3⟩) = false) := by unfold Hid; rw [M.shows_no ⟨y1, y2, y3⟩ ⟨x1, x2, x3⟩ k k1 k2 IB.out IA.out, M.near_sym, HNB.out]; rfl
          have E0 := hid (M.mine_no ⟨x1, x2, x3⟩ ⟨y1, y2, y3⟩ (M.seL k) M.noPairs SAB.out)
          have E1 := hid (M.theirs_no ⟨x1, x2, x3⟩ ⟨y1, y2, y3⟩ (M.seL k) M.noPairs SBA.out)
          have BW : Below V5.heap.size V5 ((V5.alloc (.cells #[.int .u8 83, .int .u8 0, .int .u8 0, .int .u8 0, .int .u8 1, .int .u8 100, .int .u8 6, .int .u8 0, .int .u8 1] 5)).alloc (.cells #[.int .u8 83, .int .u8 0, .int .u8 0, .int .u8 1, .int .u8 1, .int .u8 100, .int .u8 6, .int .u8 0, .int .u8 1] 5)) := by go_grown
          have HPW := hid (HP5.out.after BW)
          have HOW := hid (own_of HO5.out (fun g hg => BW.block g (own_lt HO5.out hg)))
          have HBW2 := hid (bl HB5.out BW)
          have HSN := hid (M.duel_sane IA.out IB.out)
          clear BW HP5 HO5 HB5 SAB SBA
          go_wp2_with fail
          refine (sSnap_yes b 0 x n cap M.noPairs (M.seL k) (M.duel ⟨x1, x2, x3⟩ ⟨y1, y2, y3⟩) ((V5.alloc (.cells #[.int .u8 83, .int .u8 0, .int .u8 0, .int .u8 0, .int .u8 1, .int .u8 100, .int .u8 6, .int .u8 0, .int .u8 1] 5)).alloc (.cells #[.int .u8 83, .int .u8 0, .int .u8 0, .int .u8 1, .int .u8 1, .int .u8 100, .int .u8 6, .int .u8 0, .int .u8 1] 5)) HPW.out HOW.out (by show 2 ≤ 512; omega) (by omega) rfl HSN.out (by show (0 : Int) ≤ 0 + 3; decide) (by show (0 : Int) ≤ 0; decide) (by show (0 : Int) ≤ 3000; decide)).mono ?_
          rw [E0.out]
          rintro rr V6 ⟨rfl, hb⟩
          have HP6 := hid (HPW.out.after hb)
          have HO6 := hid (own_of HOW.out (fun g hg => hb.block g (own_lt HOW.out hg)))
          have HB6 := hid (bl HBW2.out hb)
          clear hb HPW HOW HBW2 hc1 hc2 hc3 hc4
          go_wp2_with fail
          refine (sSnap_yes b 1 x n cap M.noPairs (M.seL k) (M.duel ⟨x1, x2, x3⟩ ⟨y1, y2, y3⟩) V6 HP6.out HO6.out (by show 2 ≤ 512; omega) (by omega) rfl HSN.out (by show (0 : Int) ≤ 0 + 3; decide) (by show (0 : Int) ≤ 0; decide) (by show (0 : Int) ≤ 3000; decide)).mono ?_
          rw [E1.out]
          rintro rr V7 ⟨rfl, hb⟩
          have HB7 := hid (bl HB6.out hb)
          clear hb HP6 HO6 HB6
          simp only [M.lit]
          go_wp2
          go_ret
          exact ⟨rfl, HB7.out⟩
        · obtain ⟨SB, hSB⟩ : ∃ S, (decide (x1 < 16 * k) == decide (y1 < 16 * k)) = S := ⟨_, rfl⟩
          have HSB := hid hSB
          rw [hSB]
          clear hSB
          have HSB2 : Hid ((decide (y1 < 16 * k) == decide (x1 < 16 * k)) = SB) := by unfold Hid; rw [← HSB.out]; exact Bool.beq_comm
          cases SB
          · have SAB : Hid (M.showsP (M.seL k) M.noPairs (M.seat1 ⟨x1, x2, x3⟩) (M.seat1 ⟨y1, y2, y3⟩) = false) := by unfold Hid; rw [M.shows_no ⟨x1, x2, x3⟩ ⟨y1, y2, y3⟩ k k1 k2 IA.out IB.out, HNB.out]; exact HSB.out
            have SBA : Hid (M.showsP (M.seL k) M.noPairs (M.seat1 ⟨y1, y2, y3⟩) (M.seat1 ⟨x1, x2, x3⟩) = false) := by unfold Hid; rw [M.shows_no ⟨y1, y2, y3⟩ ⟨x1, x2, x3⟩ k k1 k2 IB.out IA.out, M.near_sym, HNB.out]; exact HSB2.out
            have E0 := hid (M.mine_no ⟨x1, x2, x3⟩ ⟨y1, y2, y3⟩ (M.seL k) M.noPairs SAB.out)
            have E1 := hid (M.theirs_no ⟨x1, x2, x3⟩ ⟨y1, y2, y3⟩ (M.seL k) M.noPairs SBA.out)
            have BW : Below V5.heap.size V5 ((V5.alloc (.cells #[.int .u8 83, .int .u8 0, .int .u8 0, .int .u8 0, .int .u8 1, .int .u8 100, .int .u8 6, .int .u8 0, .int .u8 1] 5)).alloc (.cells #[.int .u8 83, .int .u8 0, .int .u8 0, .int .u8 1, .int .u8 1, .int .u8 100, .int .u8 6, .int .u8 0, .int .u8 1] 5)) := by go_grown
            have HPW := hid (HP5.out.after BW)
            have HOW := hid (own_of HO5.out (fun g hg => BW.block g (own_lt HO5.out hg)))
            have HBW2 := hid (bl HB5.out BW)
            have HSN := hid (M.duel_sane IA.out IB.out)
            clear BW HP5 HO5 HB5 SAB SBA
            go_wp2_with fail
            refine (sSnap_yes b 0 x n cap M.noPairs (M.seL k) (M.duel ⟨x1, x2, x3⟩ ⟨y1, y2, y3⟩) ((V5.alloc (.cells #[.int .u8 83, .int .u8 0, .int .u8 0, .int .u8 0, .int .u8 1, .int .u8 100, .int .u8 6, .int .u8 0, .int .u8 1] 5)).alloc (.cells #[.int .u8 83, .int .u8 0, .int .u8 0, .int .u8 1, .int .u8 1, .int .u8 100, .int .u8 6, .int .u8 0, .int .u8 1] 5)) HPW.out HOW.out (by show 2 ≤ 512; omega) (by omega) rfl HSN.out (by show (0 : Int) ≤ 0 + 3; decide) (by show (0 : Int) ≤ 0; decide) (by show (0 : Int) ≤ 3000; decide)).mono ?_
            rw [E0.out]
            rintro rr V6 ⟨rfl, hb⟩
            have HP6 := hid (HPW.out.after hb)
            have HO6 := hid (own_of HOW.out (fun g hg => hb.block g (own_lt HOW.out hg)))
            have HB6 := hid (bl HBW2.out hb)
            clear hb HPW HOW HBW2 hc1 hc2 hc3 hc4
            go_wp2_with fail
            refine (sSnap_yes b 1 x n cap M.noPairs (M.seL k) (M.duel ⟨x1, x2, x3⟩ ⟨y1, y2, y3⟩) V6 HP6.out HO6.out (by show 2 ≤ 512; omega) (by omega) rfl HSN.out (by show (0 : Int) ≤ 0 + 3; decide) (by show (0 : Int) ≤ 0; decide) (by show (0 : Int) ≤ 3000; decide)).mono ?_
            rw [E1.out]
            rintro rr V7 ⟨rfl, hb⟩
            have HB7 := hid (bl HB6.out hb)
            clear hb HP6 HO6 HB6
            simp only [M.lit]
            go_wp2
            go_ret
            exact ⟨rfl, HB7.out⟩
          · have SAB : Hid (M.showsP (M.seL k) M.noPairs (M.seat1 ⟨x1, x2, x3⟩) (M.seat1 ⟨y1, y2, y3⟩) = true) := by unfold Hid; rw [M.shows_no ⟨x1, x2, x3⟩ ⟨y1, y2, y3⟩ k k1 k2 IA.out IB.out, HNB.out]; exact HSB.out
            have SBA : Hid (M.showsP (M.seL k) M.noPairs (M.seat1 ⟨y1, y2, y3⟩) (M.seat1 ⟨x1, x2, x3⟩) = true) := by unfold Hid; rw [M.shows_no ⟨y1, y2, y3⟩ ⟨x1, x2, x3⟩ k k1 k2 IB.out IA.out, M.near_sym, HNB.out]; exact HSB2.out
            have E0 := hid (M.mine_yes ⟨x1, x2, x3⟩ ⟨y1, y2, y3⟩ (M.seL k) M.noPairs SAB.out)
            have E1 := hid (M.theirs_yes ⟨x1, x2, x3⟩ ⟨y1, y2, y3⟩ (M.seL k) M.noPairs SBA.out)
            have BW : Below V5.heap.size V5 ((((V5.alloc (.cells #[.int .u8 83, .int .u8 0, .int .u8 0, .int .u8 0, .int .u8 1, .int .u8 100, .int .u8 6, .int .u8 0, .int .u8 1] 5)).alloc (.cells #[.int .u8 83, .int .u8 0, .int .u8 0, .int .u8 1, .int .u8 1, .int .u8 100, .int .u8 6, .int .u8 0, .int .u8 1] 5)).alloc (.cells #[.int .u8 83, .int .u8 0, .int .u8 0, .int .u8 0, .int .u8 1, .int .u8 100, .int .u8 6, .int .u8 0, .int .u8 2] 5)).alloc (.cells #[.int .u8 83, .int .u8 0, .int .u8 0, .int .u8 1, .int .u8 1, .int .u8 100, .int .u8 6, .int .u8 0, .int .u8 2] 5)) := by go_grown
            have HPW := hid (HP5.out.after BW)
            have HOW := hid (own_of HO5.out (fun g hg => BW.block g (own_lt HO5.out hg)))
            have HBW2 := hid (bl HB5.out BW)
            have HSN := hid (M.duel_sane IA.out IB.out)
            clear BW HP5 HO5 HB5 SAB SBA
            go_wp2_with fail
            refine (sSnap_yes b 0 x n cap M.noPairs (M.seL k) (M.duel ⟨x1, x2, x3⟩ ⟨y1, y2, y3⟩) ((((V5.alloc (.cells #[.int .u8 83, .int .u8 0, .int .u8 0, .int .u8 0, .int .u8 1, .int .u8 100, .int .u8 6, .int .u8 0, .int .u8 1] 5)).alloc (.cells #[.int .u8 83, .int .u8 0, .int .u8 0, .int .u8 1, .int .u8 1, .int .u8 100, .int .u8 6, .int .u8 0, .int .u8 1] 5)).alloc (.cells #[.int .u8 83, .int .u8 0, .int .u8 0, .int .u8 0, .int .u8 1, .int .u8 100, .int .u8 6, .int .u8 0, .int .u8 2] 5)).alloc (.cells #[.int .u8 83, .int .u8 0, .int .u8 0, .int .u8 1, .int .u8 1, .int .u8 100, .int .u8 6, .int .u8 0, .int .u8 2] 5)) HPW.out HOW.out (by show 2 ≤ 512; omega) (by omega) rfl HSN.out (by show (0 : Int) ≤ 0 + 3; decide) (by show (0 : Int) ≤ 0; decide) (by show (0 : Int) ≤ 3000; decide)).mono ?_
            rw [E0.out]
            rintro rr V6 ⟨rfl, hb⟩
            have HP6 := hid (HPW.out.after hb)
            have HO6 := hid (own_of HOW.out (fun g hg => hb.block g (own_lt HOW.out hg)))
            have HB6 := hid (bl HBW2.out hb)
            clear hb HPW HOW HBW2 hc1 hc2 hc3 hc4
            go_wp2_with fail
            refine (sSnap_yes b 1 x n cap M.noPairs (M.seL k) (M.duel ⟨x1, x2, x3⟩ ⟨y1, y2, y3⟩) V6 HP6.out HO6.out (by show 2 ≤ 512; omega) (by omega) rfl HSN.out (by show (0 : Int) ≤ 0 + 3; decide) (by show (0 : Int) ≤ 0; decide) (by show (0 : Int) ≤ 3000; decide)).mono ?_
            rw [E1.out]
            rintro rr V7 ⟨rfl, hb⟩
            have HB7 := hid (bl HB6.out hb)
            clear hb HP6 HO6 HB6
            simp only [M.lit]
            go_wp2
            go_ret
            exact ⟨rfl, HB7.out⟩
  · go_upto_region 6 with fail
    go_cut [12] (fun c wx => c = .pointer (some ⟨w1.heap.size, 0, none⟩) ∧ wx = (w1.alloc (.cells #[.int .i64 (M.pickV p.x), .int .i64 (M.pickV p.y), .int .i64 (M.pickV p.z)] 27)).drew)
    case first =>
      go_region_held3 (fun w' => w'.cell? ⟨w.heap.size, 0, none⟩ = some (.int .i64 p.x) ∧ w'.cell? ⟨w.heap.size, 1, none⟩ = some (.int .i64 p.y) ∧ w'.cell? ⟨w.heap.size, 2, none⟩ = some (.int .i64 p.z)) (go_keep)
        ((go_at_call 22; refine (pick_v _ _ (by first | exact ⟨FP.out.x1, FP.out.x2⟩ | exact ⟨FP.out.y1, FP.out.y2⟩ | exact ⟨FP.out.z1, FP.out.z2⟩)).mono ?_; rintro e wz ⟨rfl, rfl⟩))
      all_goals (go_wp2_with fail; go_meet; exact ⟨rfl, rfl⟩)
    case rest =>
      obtain ⟨rfl, rfl⟩ := hcut
      obtain ⟨V1, hV1⟩ : ∃ V, (w1.alloc (.cells #[.int .i64 (M.pickV p.x), .int .i64 (M.pickV p.y), .int .i64 (M.pickV p.z)] 27)).drew = V := ⟨_, rfl⟩
      have QA := hid (show Blk V1 w1.heap.size #[.int .i64 (M.pickV p.x), .int .i64 (M.pickV p.y), .int .i64 (M.pickV p.z)] 27 from by rw [← hV1]; exact (Blk.new rfl).drew)
      have QQ := hid (show Blk V1 (w.heap.size + 1) #[.int .i64 q.x, .int .i64 q.y, .int .i64 q.z] 27 from by rw [← hV1]; exact (Q1.out.alloc).drew)
      have HBV := hid (show Below w.heap.size w V1 from by rw [← hV1]; exact ((HB1.out).alloc (by have := HB1.out.size; omega) _).drew)
      have hlv : w1.heap.size < V1.heap.size := QA.out.lt
      rw [hV1]
      rw [X1.out, X2.out, X3.out] at QA
      clear hV1 a0 a1 a2 af al c0 c1 c2 Q0 Q1 HB1
      obtain ⟨c0, c1, c2, cf, cl⟩ := QQ.out.three
      go_upto_region 7 with fail
      go_cut [13] (fun c wx => c = .pointer (some ⟨V1.heap.size, 0, none⟩) ∧ wx = (V1.alloc (.cells #[.int .i64 (M.pickV q.x), .int .i64 (M.pickV q.y), .int .i64 (M.pickV q.z)] 27)).drew)
      case first =>
        go_region_held3 (fun w' => w'.cell? ⟨w.heap.size + 1, 0, none⟩ = some (.int .i64 q.x) ∧ w'.cell? ⟨w.heap.size + 1, 1, none⟩ = some (.int .i64 q.y) ∧ w'.cell? ⟨w.heap.size + 1, 2, none⟩ = some (.int .i64 q.z)) (go_keep)
          ((go_at_call 22; refine (pick_v _ _ (by first | exact ⟨FQ.out.x1, FQ.out.x2⟩ | exact ⟨FQ.out.y1, FQ.out.y2⟩ | exact ⟨FQ.out.z1, FQ.out.z2⟩)).mono ?_; rintro e wz ⟨rfl, rfl⟩))
        all_goals (go_wp2_with fail; go_meet; exact ⟨rfl, rfl⟩)
      case rest =>
        obtain ⟨rfl, rfl⟩ := hcut
        obtain ⟨V2, hV2⟩ : ∃ V, (V1.alloc (.cells #[.int .i64 (M.pickV q.x), .int .i64 (M.pickV q.y), .int .i64 (M.pickV q.z)] 27)).drew = V := ⟨_, rfl⟩
        have QB := hid (show Blk V2 V1.heap.size #[.int .i64 (M.pickV q.x), .int .i64 (M.pickV q.y), .int .i64 (M.pickV q.z)] 27 from by rw [← hV2]; exact (Blk.new rfl).drew)
        have QA2 := hid (show Blk V2 w1.heap.size #[.int .i64 x1, .int .i64 x2, .int .i64 x3] 27 from by rw [← hV2]; exact (QA.out.alloc).drew)
        have HBW := hid (show Below w.heap.size w V2 from by rw [← hV2]; exact ((HBV.out).alloc (by have := HBV.out.size; omega) _).drew)
        rw [hV2]
        rw [Y1.out, Y2.out, Y3.out] at QB
        clear hV2 c0 c1 c2 cf cl QQ QA HBV
        obtain ⟨a0, a1, a2, af, al⟩ := QA2.out.three
        obtain ⟨c0, c1, c2, cf, cl⟩ := QB.out.three
        have hS : (({ data := #[120] } ++ { data := #[b1, b2] } ++ { data := #[51, 48] } ++ { data := #[59, 48, 51] } : ByteArray)) = M.seT b1 b2 := by
          apply ByteArray.ext
          simp [M.seT, ByteArray.data_append]
        have HSS := hid hS
        have HTop := hid (M.se_top2 HK.out.1 HK.out.2 G1.out G2.out)
        have HErr := hid (M.se_err2 HTop.out)
        have HPr := hid (M.se_prs2 HTop.out)
        clear hS
        have IA := hid (show M.InB M.cubeLo M.cubeHi (⟨x1, x2, x3⟩ : M.V3) from by rw [← X1.out, ← X2.out, ← X3.out]; exact ⟨(M.pickV_bd _).1, (M.pickV_bd _).2, (M.pickV_bd _).1, (M.pickV_bd _).2, (M.pickV_bd _).1, (M.pickV_bd _).2⟩)
        have IB := hid (show M.InB M.cubeLo M.cubeHi (⟨y1, y2, y3⟩ : M.V3) from by rw [← Y1.out, ← Y2.out, ← Y3.out]; exact ⟨(M.pickV_bd _).1, (M.pickV_bd _).2, (M.pickV_bd _).1, (M.pickV_bd _).2, (M.pickV_bd _).1, (M.pickV_bd _).2⟩)
        clear X1 X2 X3 Y1 Y2 Y3 FP FQ
        go_wp2_with fail
        rw [HSS.out]
        refine (pairOf_any (M.seT b1 b2) ⟨x1, x2, x3⟩ ⟨y1, y2, y3⟩ _ (by show 8 ≤ 512; omega) HErr.out (M.seL k) (by rw [HTop.out]) (by show 2 ≤ 512; omega) (by rw [(M.inCube_iff _).2 IA.out, M.se_zone HK.out.1 HK.out.2 IA.out, Bool.true_and]; split <;> rfl) (by rw [(M.inCube_iff _).2 IB.out, M.se_zone HK.out.1 HK.out.2 IB.out, Bool.true_and]; split <;> rfl)).mono ?_
        rintro rr V3 ⟨hb, b, x, n, cap, rfl, hP, hO⟩
        rw [HPr.out] at hP
        have HP := hid hP
        have HO := hid hO
        have QB3 := hid (QB.out.after hb)
        have QA3 := hid (QA2.out.after hb)
        have HB3 := hid (bl HBW.out hb)
        clear hb hP hO HBW QB QA2 a0 a1 a2 af al c0 c1 c2 cf cl HSS HErr HTop
        obtain ⟨a0, a1, a2, af, al⟩ := QA3.out.three
        obtain ⟨c0, c1, c2, cf, cl⟩ := QB3.out.three
        obtain ⟨p1, p2, p3, p4, p5, p6⟩ := IA.out
        obtain ⟨e1, e2, e3, e4, e5, e6⟩ := IB.out
        simp only [M.cubeLo, M.cubeHi] at p1 p2 p3 p4 p5 p6 e1 e2 e3 e4 e5 e6
        obtain ⟨s10, s11⟩ := sq_bd (a := x1 - y1) (by omega) (by omega)
        obtain ⟨s20, s21⟩ := sq_bd (a := x2 - y2) (by omega) (by omega)
        obtain ⟨s30, s31⟩ := sq_bd (a := x3 - y3) (by omega) (by omega)
        have k1 := HK.out.1
        have k2 := HK.out.2
        go_wp2_with fail
        refine (entry_any 0 ⟨x1, x2, x3⟩ _ (by omega) IA.out).mono ?_
        rintro rr V4 ⟨rfl, hb⟩
        have HP4 := hid (HP.out.after hb)
        have HO4 := hid (own_of HO.out (fun g hg => hb.block g (own_lt HO.out hg)))
        have QB4 := hid (QB3.out.after hb)
        have HB4 := hid (bl HB3.out hb)
        clear hb HP HO QB3 QA3 HB3 a0 a1 a2 af al c0 c1 c2 cf cl
        obtain ⟨c0, c1, c2, cf, cl⟩ := QB4.out.three
        go_wp2_with fail
        refine (entry_any 1 ⟨y1, y2, y3⟩ _ (by omega) IB.out).mono ?_
        rintro rr V5 ⟨rfl, hb⟩
        have HP5 := hid (HP4.out.after hb)
        have HO5 := hid (own_of HO4.out (fun g hg => hb.block g (own_lt HO4.out hg)))
        have HB5 := hid (bl HB4.out hb)
        clear hb HP4 HO4 QB4 HB4 c0 c1 c2 cf cl s10 s11 s20 s21 s30 s31 p1 p2 p3 p4 p5 p6 e1 e2 e3 e4 e5 e6
        have hc1 := bytes_back (W := (V5.alloc (.cells #[.int .u8 83, .int .u8 0, .int .u8 0, .int .u8 0, .int .u8 1, .int .u8 100, .int .u8 6, .int .u8 0, .int .u8 1] 5))) (g := V5.heap.size) (xs := [83, 0, 0, 0, 1, 100, 6, 0, 1]) (Blk.new (by simp)) (by intro x hx; simp at hx; omega) 9 rfl
        have hc2 := bytes_back (W := ((V5.alloc (.cells #[.int .u8 83, .int .u8 0, .int .u8 0, .int .u8 0, .int .u8 1, .int .u8 100, .int .u8 6, .int .u8 0, .int .u8 1] 5)).alloc (.cells #[.int .u8 83, .int .u8 0, .int .u8 0, .int .u8 1, .int .u8 1, .int .u8 100, .int .u8 6, .int .u8 0, .int .u8 1] 5))) (g := V5.heap.size + 1) (xs := [83, 0, 0, 1, 1, 100, 6, 0, 1]) (Blk.new (by simp)) (by intro x hx; simp at hx; omega) 9 rfl
        have hc3 := bytes_back (W := (((V5.alloc (.cells #[.int .u8 83, .int .u8 0, .int .u8 0, .int .u8 0, .int .u8 1, .int .u8 100, .int .u8 6, .int .u8 0, .int .u8 1] 5)).alloc (.cells #[.int .u8 83, .int .u8 0, .int .u8 0, .int .u8 1, .int .u8 1, .int .u8 100, .int .u8 6, .int .u8 0, .int .u8 1] 5)).alloc (.cells #[.int .u8 83, .int .u8 0, .int .u8 0, .int .u8 0, .int .u8 1, .int .u8 100, .int .u8 6, .int .u8 0, .int .u8 2] 5))) (g := V5.heap.size + 1 + 1) (xs := [83, 0, 0, 0, 1, 100, 6, 0, 2]) (Blk.new (by simp)) (by intro x hx; simp at hx; omega) 9 rfl
        have hc4 := bytes_back (W := ((((V5.alloc (.cells #[.int .u8 83, .int .u8 0, .int .u8 0, .int .u8 0, .int .u8 1, .int .u8 100, .int .u8 6, .int .u8 0, .int .u8 1] 5)).alloc (.cells #[.int .u8 83, .int .u8 0, .int .u8 0, .int .u8 1, .int .u8 1, .int .u8 100, .int .u8 6, .int .u8 0, .int .u8 1] 5)).alloc (.cells #[.int .u8 83, .int .u8 0, .int .u8 0, .int .u8 0, .int .u8 1, .int .u8 100, .int .u8 6, .int .u8 0, .int .u8 2] 5)).alloc (.cells #[.int .u8 83, .int .u8 0, .int .u8 0, .int .u8 1, .int .u8 1, .int .u8 100, .int .u8 6, .int .u8 0, .int .u8 2] 5))) (g := V5.heap.size + 1 + 1 + 1) (xs := [83, 0, 0, 1, 1, 100, 6, 0, 2]) (Blk.new (by simp)) (by intro x hx; simp at hx; omega) 9 rfl
        have r0 : (⟨(((M.PSeat.empty 0).give ⟨x1, x2, x3⟩).row 0).toArray⟩ : ByteArray).size = 9 := rfl
        have r1 : (⟨(((M.PSeat.empty 0).give ⟨y1, y2, y3⟩).row 1).toArray⟩ : ByteArray).size = 9 := rfl
        obtain ⟨NB, hNB⟩ : ∃ N, decide ((x1 - y1) * (x1 - y1) + (x2 - y2) * (x2 - y2) + (x3 - y3) * (x3 - y3) ≤ 1048576) = N := ⟨_, rfl⟩
        rw [hNB]
        have HNB : Hid (M.nearP ⟨x1, x2, x3⟩ ⟨y1, y2, y3⟩ = NB) := hNB
        clear hNB
        cases NB
        · have SAB : Hid (M.showsP (M.seL k) (M.pset M.noPairs 0 3) (M.seat1 ⟨x1, x2, x3⟩) (M.seat1 ⟨y1, y2, y3⟩) = false) := by unfold Hid; rw [M.shows_pair ⟨x1, x2, x3⟩ ⟨y1, y2, y3⟩ k k1 k2 IA.out IB.out, HNB.out]
          have SBA : Hid (M.showsP (M.seL k) (M.pset M.noPairs 0 3) (M.seat1 ⟨y1, y2, y3⟩) (M.seat1 ⟨x1, x2, x3⟩) = false) := by unfold Hid; rw [M.shows_pair ⟨y1, y2, y3⟩ ⟨x1, x2, x3⟩ k k1 k2 IB.out IA.out, M.near_sym, HNB.out]
          have E0 := hid (M.mine_no ⟨x1, x2, x3⟩ ⟨y1, y2, y3⟩ (M.seL k) (M.pset M.noPairs 0 3) SAB.out)
          have E1 := hid (M.theirs_no ⟨x1, x2, x3⟩ ⟨y1, y2, y3⟩ (M.seL k) (M.pset M.noPairs 0 3) SBA.out)
          have BW : Below V5.heap.size V5 ((V5.alloc (.cells #[.int .u8 83, .int .u8 0, .int .u8 0, .int .u8 0, .int .u8 1, .int .u8 100, .int .u8 6, .int .u8 0, .int .u8 1] 5)).alloc (.cells #[.int .u8 83, .int .u8 0, .int .u8 0, .int .u8 1, .int .u8 1, .int .u8 100, .int .u8 6, .int .u8 0, .int .u8 1] 5)) := by go_grown
          have HPW := hid (HP5.out.after BW)
          have HOW := hid (own_of HO5.out (fun g hg => BW.block g (own_lt HO5.out hg)))
          have HBW2 := hid (bl HB5.out BW)
          have HSN := hid (M.duel_sane IA.out IB.out)
          clear BW HP5 HO5 HB5 SAB SBA
          go_wp2_with fail
          refine (sSnap_yes b 0 x n cap (M.pset M.noPairs 0 3) (M.seL k) (M.duel ⟨x1, x2, x3⟩ ⟨y1, y2, y3⟩) ((V5.alloc (.cells #[.int .u8 83, .int .u8 0, .int .u8 0, .int .u8 0, .int .u8 1, .int .u8 100, .int .u8 6, .int .u8 0, .int .u8 1] 5)).alloc (.cells #[.int .u8 83, .int .u8 0, .int .u8 0, .int .u8 1, .int .u8 1, .int .u8 100, .int .u8 6, .int .u8 0, .int .u8 1] 5)) HPW.out HOW.out (by show 2 ≤ 512; omega) (by omega) rfl HSN.out (by show (0 : Int) ≤ 0 + 3; decide) (by show (0 : Int) ≤ 0; decide) (by show (0 : Int) ≤ 3000; decide)).mono ?_
          rw [E0.out]
          rintro rr V6 ⟨rfl, hb⟩
          have HP6 := hid (HPW.out.after hb)
          have HO6 := hid (own_of HOW.out (fun g hg => hb.block g (own_lt HOW.out hg)))
          have HB6 := hid (bl HBW2.out hb)
          clear hb HPW HOW HBW2 hc1 hc2 hc3 hc4
          go_wp2_with fail
          refine (sSnap_yes b 1 x n cap (M.pset M.noPairs 0 3) (M.seL k) (M.duel ⟨x1, x2, x3⟩ ⟨y1, y2, y3⟩) V6 HP6.out HO6.out (by show 2 ≤ 512; omega) (by omega) rfl HSN.out (by show (0 : Int) ≤ 0 + 3; decide) (by show (0 : Int) ≤ 0; decide) (by show (0 : Int) ≤ 3000; decide)).mono ?_
          rw [E1.out]
          rintro rr V7 ⟨rfl, hb⟩
          have HB7 := hid (bl HB6.out hb)
          clear hb HP6 HO6 HB6
          simp only [M.lit]
          go_wp2
          go_ret
          exact ⟨rfl, HB7.out⟩
        · obtain ⟨SB, hSB⟩ : ∃ S, (decide (x1 < 16 * k) == decide (y1 < 16 * k)) = S := ⟨_, rfl⟩
          rw [hSB]
          clear hSB
          cases SB
          · have SAB : Hid (M.showsP (M.seL k) (M.pset M.noPairs 0 3) (M.seat1 ⟨x1, x2, x3⟩) (M.seat1 ⟨y1, y2, y3⟩) = true) := by unfold Hid; rw [M.shows_pair ⟨x1, x2, x3⟩ ⟨y1, y2, y3⟩ k k1 k2 IA.out IB.out, HNB.out]
            have SBA : Hid (M.showsP (M.seL k) (M.pset M.noPairs 0 3) (M.seat1 ⟨y1, y2, y3⟩) (M.seat1 ⟨x1, x2, x3⟩) = true) := by unfold Hid; rw [M.shows_pair ⟨y1, y2, y3⟩ ⟨x1, x2, x3⟩ k k1 k2 IB.out IA.out, M.near_sym, HNB.out]
            have E0 := hid (M.mine_yes ⟨x1, x2, x3⟩ ⟨y1, y2, y3⟩ (M.seL k) (M.pset M.noPairs 0 3) SAB.out)
            have E1 := hid (M.theirs_yes ⟨x1, x2, x3⟩ ⟨y1, y2, y3⟩ (M.seL k) (M.pset M.noPairs 0 3) SBA.out)
            have BW : Below V5.heap.size V5 ((((V5.alloc (.cells #[.int .u8 83, .int .u8 0, .int .u8 0, .int .u8 0, .int .u8 1, .int .u8 100, .int .u8 6, .int .u8 0, .int .u8 1] 5)).alloc (.cells #[.int .u8 83, .int .u8 0, .int .u8 0, .int .u8 1, .int .u8 1, .int .u8 100, .int .u8 6, .int .u8 0, .int .u8 1] 5)).alloc (.cells #[.int .u8 83, .int .u8 0, .int .u8 0, .int .u8 0, .int .u8 1, .int .u8 100, .int .u8 6, .int .u8 0, .int .u8 2] 5)).alloc (.cells #[.int .u8 83, .int .u8 0, .int .u8 0, .int .u8 1, .int .u8 1, .int .u8 100, .int .u8 6, .int .u8 0, .int .u8 2] 5)) := by go_grown
            have HPW := hid (HP5.out.after BW)
            have HOW := hid (own_of HO5.out (fun g hg => BW.block g (own_lt HO5.out hg)))
            have HBW2 := hid (bl HB5.out BW)
            have HSN := hid (M.duel_sane IA.out IB.out)
            clear BW HP5 HO5 HB5 SAB SBA
            go_wp2_with fail
            refine (sSnap_yes b 0 x n cap (M.pset M.noPairs 0 3) (M.seL k) (M.duel ⟨x1, x2, x3⟩ ⟨y1, y2, y3⟩) ((((V5.alloc (.cells #[.int .u8 83, .int .u8 0, .int .u8 0, .int .u8 0, .int .u8 1, .int .u8 100, .int .u8 6, .int .u8 0, .int .u8 1] 5)).alloc (.cells #[.int .u8 83, .int .u8 0, .int .u8 0, .int .u8 1, .int .u8 1, .int .u8 100, .int .u8 6, .int .u8 0, .int .u8 1] 5)).alloc (.cells #[.int .u8 83, .int .u8 0, .int .u8 0, .int .u8 0, .int .u8 1, .int .u8 100, .int .u8 6, .int .u8 0, .int .u8 2] 5)).alloc (.cells #[.int .u8 83, .int .u8 0, .int .u8 0, .int .u8 1, .int .u8 1, .int .u8 100, .int .u8 6, .int .u8 0, .int .u8 2] 5)) HPW.out HOW.out (by show 2 ≤ 512; omega) (by omega) rfl HSN.out (by show (0 : Int) ≤ 0 + 3; decide) (by show (0 : Int) ≤ 0; decide) (by show (0 : Int) ≤ 3000; decide)).mono ?_
            rw [E0.out]
            rintro rr V6 ⟨rfl, hb⟩
            have HP6 := hid (HPW.out.after hb)
            have HO6 := hid (own_of HOW.out (fun g hg => hb.block g (own_lt HOW.out hg)))
            have HB6 := hid (bl HBW2.out hb)
            clear hb HPW HOW HBW2 hc1 hc2 hc3 hc4
            go_wp2_with fail
            refine (sSnap_yes b 1 x n cap (M.pset M.noPairs 0 3) (M.seL k) (M.duel ⟨x1, x2, x3⟩ ⟨y1, y2, y3⟩) V6 HP6.out HO6.out (by show 2 ≤ 512; omega) (by omega) rfl HSN.out (by show (0 : Int) ≤ 0 + 3; decide) (by show (0 : Int) ≤ 0; decide) (by show (0 : Int) ≤ 3000; decide)).mono ?_
            rw [E1.out]
            rintro rr V7 ⟨rfl, hb⟩
            have HB7 := hid (bl HB6.out hb)
            clear hb HP6 HO6 HB6
            simp only [M.lit]
            go_wp2
            go_ret
            exact ⟨rfl, HB7.out⟩
          · have SAB : Hid (M.showsP (M.seL k) (M.pset M.noPairs 0 3) (M.seat1 ⟨x1, x2, x3⟩) (M.seat1 ⟨y1, y2, y3⟩) = true) := by unfold Hid; rw [M.shows_pair ⟨x1, x2, x3⟩ ⟨y1, y2, y3⟩ k k1 k2 IA.out IB.out, HNB.out]
            have SBA : Hid (M.showsP (M.seL k) (M.pset M.noPairs 0 3) (M.seat1 ⟨y1, y2, y3⟩) (M.seat1 ⟨x1, x2, x3⟩) = true) := by unfold Hid; rw [M.shows_pair ⟨y1, y2, y3⟩ ⟨x1, x2, x3⟩ k k1 k2 IB.out IA.out, M.near_sym, HNB.out]
            have E0 := hid (M.mine_yes ⟨x1, x2, x3⟩ ⟨y1, y2, y3⟩ (M.seL k) (M.pset M.noPairs 0 3) SAB.out)
            have E1 := hid (M.theirs_yes ⟨x1, x2, x3⟩ ⟨y1, y2, y3⟩ (M.seL k) (M.pset M.noPairs 0 3) SBA.out)
            have BW : Below V5.heap.size V5 ((((V5.alloc (.cells #[.int .u8 83, .int .u8 0, .int .u8 0, .int .u8 0, .int .u8 1, .int .u8 100, .int .u8 6, .int .u8 0, .int .u8 1] 5)).alloc (.cells #[.int .u8 83, .int .u8 0, .int .u8 0, .int .u8 1, .int .u8 1, .int .u8 100, .int .u8 6, .int .u8 0, .int .u8 1] 5)).alloc (.cells #[.int .u8 83, .int .u8 0, .int .u8 0, .int .u8 0, .int .u8 1, .int .u8 100, .int .u8 6, .int .u8 0, .int .u8 2] 5)).alloc (.cells #[.int .u8 83, .int .u8 0, .int .u8 0, .int .u8 1, .int .u8 1, .int .u8 100, .int .u8 6, .int .u8 0, .int .u8 2] 5)) := by go_grown
            have HPW := hid (HP5.out.after BW)
            have HOW := hid (own_of HO5.out (fun g hg => BW.block g (own_lt HO5.out hg)))
            have HBW2 := hid (bl HB5.out BW)
            have HSN := hid (M.duel_sane IA.out IB.out)
            clear BW HP5 HO5 HB5 SAB SBA
            go_wp2_with fail
            refine (sSnap_yes b 0 x n cap (M.pset M.noPairs 0 3) (M.seL k) (M.duel ⟨x1, x2, x3⟩ ⟨y1, y2, y3⟩) ((((V5.alloc (.cells #[.int .u8 83, .int .u8 0, .int .u8 0, .int .u8 0, .int .u8 1, .int .u8 100, .int .u8 6, .int .u8 0, .int .u8 1] 5)).alloc (.cells #[.int .u8 83, .int .u8 0, .int .u8 0, .int .u8 1, .int .u8 1, .int .u8 100, .int .u8 6, .int .u8 0, .int .u8 1] 5)).alloc (.cells #[.int .u8 83, .int .u8 0, .int .u8 0, .int .u8 0, .int .u8 1, .int .u8 100, .int .u8 6, .int .u8 0, .int .u8 2] 5)).alloc (.cells #[.int .u8 83, .int .u8 0, .int .u8 0, .int .u8 1, .int .u8 1, .int .u8 100, .int .u8 6, .int .u8 0, .int .u8 2] 5)) HPW.out HOW.out (by show 2 ≤ 512; omega) (by omega) rfl HSN.out (by show (0 : Int) ≤ 0 + 3; decide) (by show (0 : Int) ≤ 0; decide) (by show (0 : Int) ≤ 3000; decide)).mono ?_
            rw [E0.out]
            rintro rr V6 ⟨rfl, hb⟩
            have HP6 := hid (HPW.out.after hb)
            have HO6 := hid (own_of HOW.out (fun g hg => hb.block g (own_lt HOW.out hg)))
            have HB6 := hid (bl HBW2.out hb)
            clear hb HPW HOW HBW2 hc1 hc2 hc3 hc4
            go_wp2_with fail
            refine (sSnap_yes b 1 x n cap (M.pset M.noPairs 0 3) (M.seL k) (M.duel ⟨x1, x2, x3⟩ ⟨y1, y2, y3⟩) V6 HP6.out HO6.out (by show 2 ≤ 512; omega) (by omega) rfl HSN.out (by show (0 : Int) ≤ 0 + 3; decide) (by show (0 : Int) ≤ 0; decide) (by show (0 : Int) ≤ 3000; decide)).mono ?_
            rw [E1.out]
            rintro rr V7 ⟨rfl, hb⟩
            have HB7 := hid (bl HB6.out hb)
            clear hb HP6 HO6 HB6
            simp only [M.lit]
            go_wp2
            go_ret
            exact ⟨rfl, HB7.out⟩

theorem seen_wf (at_ : Int) (linked : Bool) (p q : M.V3) (w : World) (h : (Lit.int .i64 at_).wf = true) (hp : M.Fit p) (hq : M.Fit q) :
    Calls Try.prog 11 #[.int .i64 at_, .bool linked, .agg #[.int .i64 p.x, .int .i64 p.y, .int .i64 p.z], .agg #[.int .i64 q.x, .int .i64 q.y, .int .i64 q.z]] w fun e w' => e = .returned (.bool true) ∧ Below w.heap.size w w' :=
  seen_any at_ linked p q w (bounds_i64 h).1 (bounds_i64 h).2 hp hq

end Go.Proofs.Ytonmihojfcjmjaa
