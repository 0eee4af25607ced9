/- The law Blocks. -/
import Derived.Test.YtonmihojfcjmjaaBk1
import Derived.Test.YtonmihojfcjmjaaBk2
namespace Go.Proofs.Ytonmihojfcjmjaa
open Go.RowKit
set_option linter.unusedVariables false
attribute [local go_sem] cell_set_off cell_set_blk

set_option maxRecDepth 100000 in
set_option maxHeartbeats 8000000 in
theorem blocks_any (a b : Int) (p d : M.V3) (w : World) (ha1 : -9223372036854775808 ≤ a) (ha2 : a ≤ 9223372036854775807) (hb1 : -9223372036854775808 ≤ b) (hb2 : b ≤ 9223372036854775807) :
    Calls Try.prog 7 #[.int .i64 a, .int .i64 b, .agg #[.int .i64 p.x, .int .i64 p.y, .int .i64 p.z], .agg #[.int .i64 d.x, .int .i64 d.y, .int .i64 d.z]] w fun e w' => e = .returned (.bool true) ∧ Below w.heap.size w w' := by
  go_enter Try.func7, Try.ntmps7
  go_wp2_with fail
  refine (pick_any a _ ha1 ha2).mono ?_
  rintro rr wz ⟨⟨r1, rfl, r10, r11⟩, rfl⟩
  go_wp2_with fail
  refine (pick_any b _ hb1 hb2).mono ?_
  rintro rr wz ⟨⟨r2, rfl, r20, r21⟩, rfl⟩
  clear ha1 ha2 hb1 hb2
  go_wp2_with fail
  obtain ⟨x, hx⟩ : ∃ x, 1 + r1 = x := ⟨_, rfl⟩
  obtain ⟨y, hy⟩ : ∃ x, 1 + r2 = x := ⟨_, rfl⟩
  rw [hx, hy]
  have x1 : 1 ≤ x := by omega
  have x2 : x ≤ 255 := by omega
  have y1 : 1 ≤ y := by omega
  have y2 : y ≤ 255 := by omega
  clear hx hy r10 r11 r20 r21
  refine (digits_any x _ (by omega) x2).mono ?_
  rintro rr w1 ⟨b1, b2, rfl, g1, g2, hb⟩
  have G1 : Hid (M.hexV (b1.toNat : Int) = x / 16) := g1
  have G2 : Hid (M.hexV (b2.toNat : Int) = x % 16) := g2
  have q0 := (show Blk _ w.heap.size #[.int .i64 p.x, .int .i64 p.y, .int .i64 p.z] 27 from (by repeat' (first | (with_reducible assumption) | (refine Blk.new ?_; (first | (simp; done) | rfl); done) | (with_reducible refine Blk.alloc ?_) | (with_reducible refine Blk.drew ?_) | (with_reducible refine Blk.drewN ?_)))).after hb
  have q1 := (show Blk _ (w.heap.size + 1) #[.int .i64 d.x, .int .i64 d.y, .int .i64 d.z] 27 from (by repeat' (first | (with_reducible assumption) | (refine Blk.new ?_; (first | (simp; done) | rfl); done) | (with_reducible refine Blk.alloc ?_) | (with_reducible refine Blk.drew ?_) | (with_reducible refine Blk.drewN ?_)))).after hb
  have B1 : Below w.heap.size w w1 := bl (by go_grown) hb
  clear hb g1 g2
  go_wp2_with fail
  refine (digits_any y _ (by omega) y2).mono ?_
  rintro rr w2 ⟨c1, c2, rfl, g1, g2, hb⟩
  have G3 : Hid (M.hexV (c1.toNat : Int) = y / 16) := g1
  have G4 : Hid (M.hexV (c2.toNat : Int) = y % 16) := g2
  replace q0 := q0.after hb
  replace q1 := q1.after hb
  have B2 : Below w.heap.size w w2 := bl B1 hb
  clear hb g1 g2 B1
  obtain ⟨a0, a1, a2, af, al⟩ := q0.three
  have al1 : w.heap.size < w2.heap.size + 1 := by omega
  have al2 : w.heap.size < w2.heap.size + 1 + 1 := by omega
  have hz2 := B2.size
  have hS : (({ data := #[120] } ++ { data := #[b1, b2] } ++ { data := #[35, 121] } ++ { data := #[c1, c2] } ++ { data := #[53, 35] } : ByteArray)) = M.bkS b1 b2 c1 c2 := by
    apply ByteArray.ext
    simp [M.bkS, ByteArray.data_append]
  have HSS : Hid ((({ data := #[120] } ++ { data := #[b1, b2] } ++ { data := #[35, 121] } ++ { data := #[c1, c2] } ++ { data := #[53, 35] } : ByteArray)) = M.bkS b1 b2 c1 c2) := hS
  have HTop : Hid (M.top (M.bkS b1 b2 c1 c2) = (true, ⟨9, 2, -1, M.bkL x y⟩)) := M.bk_top x1 x2 y1 y2 G1.out G2.out G3.out G4.out
  have HErr : Hid (M.errS (M.bkS b1 b2 c1 c2) = (0, 0)) := M.bk_err HTop.out
  have hsz : (M.bkS b1 b2 c1 c2).size ≤ maxLen := by show 9 ≤ maxLen; unfold maxLen; omega
  clear hS
  have N0 : (⟨0, 0, 0⟩ : M.V3).Near := by constructor <;> dsimp only <;> omega
  have N1 : (⟨16 * x, 4096, 4096⟩ : M.V3).Near := by constructor <;> dsimp only <;> omega
  have N2 : (⟨16 * x, 16 * y, 0⟩ : M.V3).Near := by constructor <;> dsimp only <;> omega
  have N3 : (⟨4096, 4096, 4096⟩ : M.V3).Near := by constructor <;> dsimp only <;> omega
  have O1 : Hid (M.ordB ⟨0, 0, 0⟩ ⟨16 * x, 4096, 4096⟩ = true) := by unfold Hid M.ordB; simp; omega
  have O2 : Hid (M.ordB ⟨16 * x, 16 * y, 0⟩ ⟨4096, 4096, 4096⟩ = true) := by unfold Hid M.ordB; simp; omega
  obtain ⟨Bp, hBp⟩ : ∃ B, M.nearB p = B := ⟨_, rfl⟩
  obtain ⟨Bd, hBd⟩ : ∃ B, M.nearB d = B := ⟨_, rfl⟩
  have HBp : Hid (M.nearB p = Bp) := hBp
  have HBd : Hid (M.nearB d = Bd) := hBd
  clear hBp hBd
  go_wp2_with fail
  rw [HSS.out]
  refine (zone_any (M.bkS b1 b2 c1 c2) p _ hsz).mono ?_
  rintro rr w3 ⟨z, e, rfl, hb, hZ⟩
  have ql := (show Blk _ w2.heap.size #[.int .i64 (16 * x), .int .i64 (16 * y), .int .i64 0] 27 from (by repeat' (first | (with_reducible assumption) | (refine Blk.new ?_; (first | (simp; done) | rfl); done) | (with_reducible refine Blk.alloc ?_) | (with_reducible refine Blk.drew ?_) | (with_reducible refine Blk.drewN ?_)))).after hb
  have qh := (show Blk _ (w2.heap.size + 1) #[.int .i64 (16 * x), .int .i64 4096, .int .i64 4096] 27 from (by repeat' (first | (with_reducible assumption) | (refine Blk.new ?_; (first | (simp; done) | rfl); done) | (with_reducible refine Blk.alloc ?_) | (with_reducible refine Blk.drew ?_) | (with_reducible refine Blk.drewN ?_)))).after hb
  have qe := (show Blk _ (w2.heap.size + 1 + 1) #[.int .i64 4096, .int .i64 4096, .int .i64 4096] 27 from (by repeat' (first | (with_reducible assumption) | (refine Blk.new ?_; (first | (simp; done) | rfl); done) | (with_reducible refine Blk.alloc ?_) | (with_reducible refine Blk.drew ?_) | (with_reducible refine Blk.drewN ?_)))).after hb
  replace q0 := q0.alloc.alloc.alloc.after hb
  replace q1 := q1.alloc.alloc.alloc.after hb
  have B3 : Below w.heap.size w w3 := bl (by go_grown) hb
  have HZ : Hid ((M.cubB p = false ∧ z = 0 ∧ e = 5) ∨ (M.cubB p = true ∧ z = M.zP p (M.bkL x y) (-1) ∧ e = 0)) := by
    rw [HErr.out, HTop.out] at hZ
    rcases hZ with ⟨t, _⟩ | ⟨_, t1, t2⟩ | ⟨_, t1, t2⟩
    · exact absurd rfl t
    · exact .inl ⟨t1, t2⟩
    · exact .inr ⟨t1, t2⟩
  clear hb hZ B2 a0 a1 a2 af al al1 al2 HSS
  obtain ⟨a0, a1, a2, af, al⟩ := q0.three
  go_wp2_with fail
  refine (from_any p 0 4096 _).mono ?_
  rintro rr w4 ⟨rfl, hb⟩
  clear a0 a1 a2 af al
  replace q0 := q0.after hb
  replace q1 := q1.after hb
  replace ql := ql.after hb
  replace qh := qh.after hb
  replace qe := qe.after hb
  have B4 : Below w.heap.size w w4 := bl B3 hb
  clear hb B3
  obtain ⟨C, hC⟩ : ∃ C, M.fromB p 0 4096 = C := ⟨_, rfl⟩
  rw [hC]
  have HC : Hid (M.cubB p = C) := hC
  clear hC
  cases C
  · have hR : z = 0 ∧ e = 5 := by
      rcases HZ.out with ⟨_, t⟩ | ⟨t, _⟩
      · exact t
      · rw [HC.out] at t; cases t
    obtain ⟨rfl, rfl⟩ := hR
    clear HZ
    by_cases X : p.x ≤ 16 * x
    · obtain ⟨a0, a1, a2, af, al⟩ := q0.three
      obtain ⟨d0, d1, d2, df, dl⟩ := q1.three
      obtain ⟨l0, l1, l2, lf, ll⟩ := ql.three
      obtain ⟨h0, h1, h2, hf, hl⟩ := qh.three
      obtain ⟨e0, e1, e2, ef, el⟩ := qe.three
      go_wp2_with fail
      refine (trace_any (M.bkS b1 b2 c1 c2) p d _ hsz).mono ?_
      rintro rr w5 ⟨f, n, k, er, rfl, hb, hT⟩
      have HT := hid hT
      clear hT
      clear a0 a1 a2 af al d0 d1 d2 df dl l0 l1 l2 lf ll h0 h1 h2 hf hl e0 e1 e2 ef el
      replace q0 := q0.after hb
      replace q1 := q1.after hb
      replace ql := ql.after hb
      replace qh := qh.after hb
      replace qe := qe.after hb
      have B5 : Below w.heap.size w w5 := bl B4 hb
      clear hb B4
      obtain ⟨a0, a1, a2, af, al⟩ := q0.three
      obtain ⟨d0, d1, d2, df, dl⟩ := q1.three
      obtain ⟨l0, l1, l2, lf, ll⟩ := ql.three
      obtain ⟨h0, h1, h2, hf, hl⟩ := qh.three
      obtain ⟨e0, e1, e2, ef, el⟩ := qe.three
      go_wp2_with fail
      refine (near_is p _ Bp HBp).mono ?_
      rintro rr w6 ⟨rfl, hb⟩
      clear a0 a1 a2 af al d0 d1 d2 df dl l0 l1 l2 lf ll h0 h1 h2 hf hl e0 e1 e2 ef el
      replace q0 := q0.after hb
      replace q1 := q1.after hb
      replace ql := ql.after hb
      replace qh := qh.after hb
      replace qe := qe.after hb
      have B6 : Below w.heap.size w w6 := bl B5 hb
      clear hb B5
      obtain ⟨a0, a1, a2, af, al⟩ := q0.three
      obtain ⟨d0, d1, d2, df, dl⟩ := q1.three
      obtain ⟨l0, l1, l2, lf, ll⟩ := ql.three
      obtain ⟨h0, h1, h2, hf, hl⟩ := qh.three
      obtain ⟨e0, e1, e2, ef, el⟩ := qe.three
      go_wp2_with fail
      refine (near_is d _ Bd HBd).mono ?_
      rintro rr w7 ⟨rfl, hb⟩
      clear a0 a1 a2 af al d0 d1 d2 df dl l0 l1 l2 lf ll h0 h1 h2 hf hl e0 e1 e2 ef el
      replace q0 := q0.after hb
      replace q1 := q1.after hb
      replace ql := ql.after hb
      replace qh := qh.after hb
      replace qe := qe.after hb
      have B7 : Below w.heap.size w w7 := bl B6 hb
      clear hb B6
      obtain ⟨a0, a1, a2, af, al⟩ := q0.three
      obtain ⟨d0, d1, d2, df, dl⟩ := q1.three
      obtain ⟨l0, l1, l2, lf, ll⟩ := ql.three
      obtain ⟨h0, h1, h2, hf, hl⟩ := qh.three
      obtain ⟨e0, e1, e2, ef, el⟩ := qe.three
      have HT2 : Hid (((Bp && Bd) = false ∧ f = false ∧ n = 0 ∧ k = 0 ∧ er = 5) ∨ ((Bp && Bd) = true ∧ M.EntG (M.US p d (M.bkL x y)) f n k ∧ er = 0)) := by
        have h9 := HT.out
        rw [HErr.out, HTop.out, HBp.out, HBd.out] at h9
        rcases h9 with ⟨z, _⟩ | ⟨_, z1, z2⟩ | ⟨_, z1, z2⟩
        · exact absurd rfl z
        · exact .inl ⟨z1, z2⟩
        · exact .inr ⟨z1, z2⟩
      clear HT
      by_cases hBB : (Bp && Bd) = true
      · have hpd : Bp = true ∧ Bd = true := by simpa using hBB
        obtain ⟨rfl, rfl⟩ := hpd
        have HG : Hid (M.EntG (M.US p d (M.bkL x y)) f n k) ∧ er = 0 := by
          rcases HT2.out with ⟨z, _⟩ | ⟨_, z1, z2⟩
          · cases z
          · exact ⟨z1, z2⟩
        obtain ⟨HG, rfl⟩ := HG
        clear HT2 hBB
        have hp : p.Near := (M.nearB_iff p).1 HBp.out
        have hd : d.Near := (M.nearB_iff d).1 HBd.out
        go_wp2_with fail
        refine (enter_good p d ⟨0, 0, 0⟩ ⟨16 * x, 4096, 4096⟩ _ hp hd N0 N1 O1).mono ?_
        rintro rr w8 ⟨i1, n1, k1, rfl, hE1, hb⟩
        have HE1 : Hid (M.EntG (M.lies p d ⟨0, 0, 0⟩ ⟨16 * x, 4096, 4096⟩) i1 n1 k1) := hE1.toG
        clear hE1
        clear a0 a1 a2 af al d0 d1 d2 df dl l0 l1 l2 lf ll h0 h1 h2 hf hl e0 e1 e2 ef el
        replace q0 := q0.after hb
        replace q1 := q1.after hb
        replace ql := ql.after hb
        replace qh := qh.after hb
        replace qe := qe.after hb
        have B8 : Below w.heap.size w w8 := bl B7 hb
        clear hb B7
        obtain ⟨a0, a1, a2, af, al⟩ := q0.three
        obtain ⟨d0, d1, d2, df, dl⟩ := q1.three
        obtain ⟨l0, l1, l2, lf, ll⟩ := ql.three
        obtain ⟨h0, h1, h2, hf, hl⟩ := qh.three
        obtain ⟨e0, e1, e2, ef, el⟩ := qe.three
        go_wp2_with fail
        refine (enter_good p d ⟨16 * x, 16 * y, 0⟩ ⟨4096, 4096, 4096⟩ _ hp hd N2 N3 O2).mono ?_
        rintro rr w9 ⟨i2, n2, k2, rfl, hE2, hb⟩
        have HE2 : Hid (M.EntG (M.lies p d ⟨16 * x, 16 * y, 0⟩ ⟨4096, 4096, 4096⟩) i2 n2 k2) := hE2.toG
        clear hE2
        have B9 : Below w.heap.size w w9 := bl B8 hb
        clear a0 a1 a2 af al d0 d1 d2 df dl l0 l1 l2 lf ll h0 h1 h2 hf hl e0 e1 e2 ef el
        clear hb B8 q0 q1 ql qh qe
        cases i1
        · cases i2
          · obtain ⟨u1, u2, u3⟩ := HG.out.one ((HE1.out.none HE2.out).congr (fun m k => M.bk_US m k))
            obtain ⟨v1, v2, _⟩ := HE2.out.no rfl
            obtain ⟨v3, v4, _⟩ := HE1.out.no rfl
            subst u1 v1 v2 v3 v4 u2 u3
            go_wp2; go_ret; exact ⟨rfl, B9⟩
          · obtain ⟨u1, u2, u3⟩ := HG.out.one ((HE1.out.new HE2.out).congr (fun m k => M.bk_US m k))
            subst u1 u2 u3
            clear HG
            go_wp2; go_ret; exact ⟨ret_bool (by simp), B9⟩
        · cases i2
          · obtain ⟨u1, u2, u3⟩ := HG.out.one ((HE1.out.none HE2.out).congr (fun m k => M.bk_US m k))
            subst u1 u2 u3
            clear HG
            go_wp2; go_ret; exact ⟨ret_bool (by simp), B9⟩
          · obtain ⟨v1, v2, v3, v4, _, _⟩ := HE1.out.yes rfl
            obtain ⟨t1, t2, t3, t4, _, _⟩ := HE2.out.yes rfl
            have m1 : wrap64 (n1 * k2) = n1 * k2 := wrap_mul (by omega) (by omega) (by omega) (by omega)
            have m2 : wrap64 (n2 * k1) = n2 * k1 := wrap_mul (by omega) (by omega) (by omega) (by omega)
            by_cases lt : n2 * k1 < n1 * k2
            · obtain ⟨u1, u2, u3⟩ := HG.out.one ((HE1.out.less HE2.out lt).congr (fun m k => M.bk_US m k))
              have m3 : decide (n1 * k2 ≤ n2 * k1) = false := by simp; omega
              subst u1 u2 u3
              clear HG
              go_wp2; go_ret; exact ⟨ret_bool (by simp), B9⟩
            · obtain ⟨u1, u2, u3⟩ := HG.out.one ((HE1.out.more HE2.out lt).congr (fun m k => M.bk_US m k))
              have m3 : decide (n1 * k2 ≤ n2 * k1) = true := by simp; omega
              subst u1 u2 u3
              clear HG
              go_wp2; go_ret; exact ⟨ret_bool (by simp), B9⟩
      · have hf2 : (Bp && Bd) = false := by simpa using hBB
        have HR : f = false ∧ n = 0 ∧ k = 0 ∧ er = 5 := by
          rcases HT2.out with ⟨_, z⟩ | ⟨z, _⟩
          · exact z
          · exact absurd z hBB
        obtain ⟨rfl, rfl, rfl, rfl⟩ := HR
        clear HT2 hBB
        cases Bp
        · go_wp2; go_ret; exact ⟨rfl, B7⟩
        · cases Bd
          · go_wp2; go_ret; exact ⟨rfl, B7⟩
          · cases hf2
    · by_cases Y : 16 * y ≤ p.y
      · obtain ⟨a0, a1, a2, af, al⟩ := q0.three
        obtain ⟨d0, d1, d2, df, dl⟩ := q1.three
        obtain ⟨l0, l1, l2, lf, ll⟩ := ql.three
        obtain ⟨h0, h1, h2, hf, hl⟩ := qh.three
        obtain ⟨e0, e1, e2, ef, el⟩ := qe.three
        go_wp2_with fail
        refine (trace_any (M.bkS b1 b2 c1 c2) p d _ hsz).mono ?_
        rintro rr w5 ⟨f, n, k, er, rfl, hb, hT⟩
        have HT := hid hT
        clear hT
        clear a0 a1 a2 af al d0 d1 d2 df dl l0 l1 l2 lf ll h0 h1 h2 hf hl e0 e1 e2 ef el
        replace q0 := q0.after hb
        replace q1 := q1.after hb
        replace ql := ql.after hb
        replace qh := qh.after hb
        replace qe := qe.after hb
        have B5 : Below w.heap.size w w5 := bl B4 hb
        clear hb B4
        obtain ⟨a0, a1, a2, af, al⟩ := q0.three
        obtain ⟨d0, d1, d2, df, dl⟩ := q1.three
        obtain ⟨l0, l1, l2, lf, ll⟩ := ql.three
        obtain ⟨h0, h1, h2, hf, hl⟩ := qh.three
        obtain ⟨e0, e1, e2, ef, el⟩ := qe.three
        go_wp2_with fail
        refine (near_is p _ Bp HBp).mono ?_
        rintro rr w6 ⟨rfl, hb⟩
        clear a0 a1 a2 af al d0 d1 d2 df dl l0 l1 l2 lf ll h0 h1 h2 hf hl e0 e1 e2 ef el
        replace q0 := q0.after hb
        replace q1 := q1.after hb
        replace ql := ql.after hb
        replace qh := qh.after hb
        replace qe := qe.after hb
        have B6 : Below w.heap.size w w6 := bl B5 hb
        clear hb B5
        obtain ⟨a0, a1, a2, af, al⟩ := q0.three
        obtain ⟨d0, d1, d2, df, dl⟩ := q1.three
        obtain ⟨l0, l1, l2, lf, ll⟩ := ql.three
        obtain ⟨h0, h1, h2, hf, hl⟩ := qh.three
        obtain ⟨e0, e1, e2, ef, el⟩ := qe.three
        go_wp2_with fail
        refine (near_is d _ Bd HBd).mono ?_
        rintro rr w7 ⟨rfl, hb⟩
        clear a0 a1 a2 af al d0 d1 d2 df dl l0 l1 l2 lf ll h0 h1 h2 hf hl e0 e1 e2 ef el
        replace q0 := q0.after hb
        replace q1 := q1.after hb
        replace ql := ql.after hb
        replace qh := qh.after hb
        replace qe := qe.after hb
        have B7 : Below w.heap.size w w7 := bl B6 hb
        clear hb B6
        obtain ⟨a0, a1, a2, af, al⟩ := q0.three
        obtain ⟨d0, d1, d2, df, dl⟩ := q1.three
        obtain ⟨l0, l1, l2, lf, ll⟩ := ql.three
        obtain ⟨h0, h1, h2, hf, hl⟩ := qh.three
        obtain ⟨e0, e1, e2, ef, el⟩ := qe.three
        have HT2 : Hid (((Bp && Bd) = false ∧ f = false ∧ n = 0 ∧ k = 0 ∧ er = 5) ∨ ((Bp && Bd) = true ∧ M.EntG (M.US p d (M.bkL x y)) f n k ∧ er = 0)) := by
          have h9 := HT.out
          rw [HErr.out, HTop.out, HBp.out, HBd.out] at h9
          rcases h9 with ⟨z, _⟩ | ⟨_, z1, z2⟩ | ⟨_, z1, z2⟩
          · exact absurd rfl z
          · exact .inl ⟨z1, z2⟩
          · exact .inr ⟨z1, z2⟩
        clear HT
        by_cases hBB : (Bp && Bd) = true
        · have hpd : Bp = true ∧ Bd = true := by simpa using hBB
          obtain ⟨rfl, rfl⟩ := hpd
          have HG : Hid (M.EntG (M.US p d (M.bkL x y)) f n k) ∧ er = 0 := by
            rcases HT2.out with ⟨z, _⟩ | ⟨_, z1, z2⟩
            · cases z
            · exact ⟨z1, z2⟩
          obtain ⟨HG, rfl⟩ := HG
          clear HT2 hBB
          have hp : p.Near := (M.nearB_iff p).1 HBp.out
          have hd : d.Near := (M.nearB_iff d).1 HBd.out
          go_wp2_with fail
          refine (enter_good p d ⟨0, 0, 0⟩ ⟨16 * x, 4096, 4096⟩ _ hp hd N0 N1 O1).mono ?_
          rintro rr w8 ⟨i1, n1, k1, rfl, hE1, hb⟩
          have HE1 : Hid (M.EntG (M.lies p d ⟨0, 0, 0⟩ ⟨16 * x, 4096, 4096⟩) i1 n1 k1) := hE1.toG
          clear hE1
          clear a0 a1 a2 af al d0 d1 d2 df dl l0 l1 l2 lf ll h0 h1 h2 hf hl e0 e1 e2 ef el
          replace q0 := q0.after hb
          replace q1 := q1.after hb
          replace ql := ql.after hb
          replace qh := qh.after hb
          replace qe := qe.after hb
          have B8 : Below w.heap.size w w8 := bl B7 hb
          clear hb B7
          obtain ⟨a0, a1, a2, af, al⟩ := q0.three
          obtain ⟨d0, d1, d2, df, dl⟩ := q1.three
          obtain ⟨l0, l1, l2, lf, ll⟩ := ql.three
          obtain ⟨h0, h1, h2, hf, hl⟩ := qh.three
          obtain ⟨e0, e1, e2, ef, el⟩ := qe.three
          go_wp2_with fail
          refine (enter_good p d ⟨16 * x, 16 * y, 0⟩ ⟨4096, 4096, 4096⟩ _ hp hd N2 N3 O2).mono ?_
          rintro rr w9 ⟨i2, n2, k2, rfl, hE2, hb⟩
          have HE2 : Hid (M.EntG (M.lies p d ⟨16 * x, 16 * y, 0⟩ ⟨4096, 4096, 4096⟩) i2 n2 k2) := hE2.toG
          clear hE2
          have B9 : Below w.heap.size w w9 := bl B8 hb
          clear a0 a1 a2 af al d0 d1 d2 df dl l0 l1 l2 lf ll h0 h1 h2 hf hl e0 e1 e2 ef el
          clear hb B8 q0 q1 ql qh qe
          cases i1
          · cases i2
            · obtain ⟨u1, u2, u3⟩ := HG.out.one ((HE1.out.none HE2.out).congr (fun m k => M.bk_US m k))
              obtain ⟨v1, v2, _⟩ := HE2.out.no rfl
              obtain ⟨v3, v4, _⟩ := HE1.out.no rfl
              subst u1 v1 v2 v3 v4 u2 u3
              go_wp2; go_ret; exact ⟨rfl, B9⟩
            · obtain ⟨u1, u2, u3⟩ := HG.out.one ((HE1.out.new HE2.out).congr (fun m k => M.bk_US m k))
              subst u1 u2 u3
              clear HG
              go_wp2; go_ret; exact ⟨ret_bool (by simp), B9⟩
          · cases i2
            · obtain ⟨u1, u2, u3⟩ := HG.out.one ((HE1.out.none HE2.out).congr (fun m k => M.bk_US m k))
              subst u1 u2 u3
              clear HG
              go_wp2; go_ret; exact ⟨ret_bool (by simp), B9⟩
            · obtain ⟨v1, v2, v3, v4, _, _⟩ := HE1.out.yes rfl
              obtain ⟨t1, t2, t3, t4, _, _⟩ := HE2.out.yes rfl
              have m1 : wrap64 (n1 * k2) = n1 * k2 := wrap_mul (by omega) (by omega) (by omega) (by omega)
              have m2 : wrap64 (n2 * k1) = n2 * k1 := wrap_mul (by omega) (by omega) (by omega) (by omega)
              by_cases lt : n2 * k1 < n1 * k2
              · obtain ⟨u1, u2, u3⟩ := HG.out.one ((HE1.out.less HE2.out lt).congr (fun m k => M.bk_US m k))
                have m3 : decide (n1 * k2 ≤ n2 * k1) = false := by simp; omega
                subst u1 u2 u3
                clear HG
                go_wp2; go_ret; exact ⟨ret_bool (by simp), B9⟩
              · obtain ⟨u1, u2, u3⟩ := HG.out.one ((HE1.out.more HE2.out lt).congr (fun m k => M.bk_US m k))
                have m3 : decide (n1 * k2 ≤ n2 * k1) = true := by simp; omega
                subst u1 u2 u3
                clear HG
                go_wp2; go_ret; exact ⟨ret_bool (by simp), B9⟩
        · have hf2 : (Bp && Bd) = false := by simpa using hBB
          have HR : f = false ∧ n = 0 ∧ k = 0 ∧ er = 5 := by
            rcases HT2.out with ⟨_, z⟩ | ⟨z, _⟩
            · exact z
            · exact absurd z hBB
          obtain ⟨rfl, rfl, rfl, rfl⟩ := HR
          clear HT2 hBB
          cases Bp
          · go_wp2; go_ret; exact ⟨rfl, B7⟩
          · cases Bd
            · go_wp2; go_ret; exact ⟨rfl, B7⟩
            · cases hf2
      · obtain ⟨a0, a1, a2, af, al⟩ := q0.three
        obtain ⟨d0, d1, d2, df, dl⟩ := q1.three
        obtain ⟨l0, l1, l2, lf, ll⟩ := ql.three
        obtain ⟨h0, h1, h2, hf, hl⟩ := qh.three
        obtain ⟨e0, e1, e2, ef, el⟩ := qe.three
        go_wp2_with fail
        refine (trace_any (M.bkS b1 b2 c1 c2) p d _ hsz).mono ?_
        rintro rr w5 ⟨f, n, k, er, rfl, hb, hT⟩
        have HT := hid hT
        clear hT
        clear a0 a1 a2 af al d0 d1 d2 df dl l0 l1 l2 lf ll h0 h1 h2 hf hl e0 e1 e2 ef el
        replace q0 := q0.after hb
        replace q1 := q1.after hb
        replace ql := ql.after hb
        replace qh := qh.after hb
        replace qe := qe.after hb
        have B5 : Below w.heap.size w w5 := bl B4 hb
        clear hb B4
        obtain ⟨a0, a1, a2, af, al⟩ := q0.three
        obtain ⟨d0, d1, d2, df, dl⟩ := q1.three
        obtain ⟨l0, l1, l2, lf, ll⟩ := ql.three
        obtain ⟨h0, h1, h2, hf, hl⟩ := qh.three
        obtain ⟨e0, e1, e2, ef, el⟩ := qe.three
        go_wp2_with fail
        refine (near_is p _ Bp HBp).mono ?_
        rintro rr w6 ⟨rfl, hb⟩
        clear a0 a1 a2 af al d0 d1 d2 df dl l0 l1 l2 lf ll h0 h1 h2 hf hl e0 e1 e2 ef el
        replace q0 := q0.after hb
        replace q1 := q1.after hb
        replace ql := ql.after hb
        replace qh := qh.after hb
        replace qe := qe.after hb
        have B6 : Below w.heap.size w w6 := bl B5 hb
        clear hb B5
        obtain ⟨a0, a1, a2, af, al⟩ := q0.three
        obtain ⟨d0, d1, d2, df, dl⟩ := q1.three
        obtain ⟨l0, l1, l2, lf, ll⟩ := ql.three
        obtain ⟨h0, h1, h2, hf, hl⟩ := qh.three
        obtain ⟨e0, e1, e2, ef, el⟩ := qe.three
        go_wp2_with fail
        refine (near_is d _ Bd HBd).mono ?_
        rintro rr w7 ⟨rfl, hb⟩
        clear a0 a1 a2 af al d0 d1 d2 df dl l0 l1 l2 lf ll h0 h1 h2 hf hl e0 e1 e2 ef el
        replace q0 := q0.after hb
        replace q1 := q1.after hb
        replace ql := ql.after hb
        replace qh := qh.after hb
        replace qe := qe.after hb
        have B7 : Below w.heap.size w w7 := bl B6 hb
        clear hb B6
        obtain ⟨a0, a1, a2, af, al⟩ := q0.three
        obtain ⟨d0, d1, d2, df, dl⟩ := q1.three
        obtain ⟨l0, l1, l2, lf, ll⟩ := ql.three
        obtain ⟨h0, h1, h2, hf, hl⟩ := qh.three
        obtain ⟨e0, e1, e2, ef, el⟩ := qe.three
        have HT2 : Hid (((Bp && Bd) = false ∧ f = false ∧ n = 0 ∧ k = 0 ∧ er = 5) ∨ ((Bp && Bd) = true ∧ M.EntG (M.US p d (M.bkL x y)) f n k ∧ er = 0)) := by
          have h9 := HT.out
          rw [HErr.out, HTop.out, HBp.out, HBd.out] at h9
          rcases h9 with ⟨z, _⟩ | ⟨_, z1, z2⟩ | ⟨_, z1, z2⟩
          · exact absurd rfl z
          · exact .inl ⟨z1, z2⟩
          · exact .inr ⟨z1, z2⟩
        clear HT
        by_cases hBB : (Bp && Bd) = true
        · have hpd : Bp = true ∧ Bd = true := by simpa using hBB
          obtain ⟨rfl, rfl⟩ := hpd
          have HG : Hid (M.EntG (M.US p d (M.bkL x y)) f n k) ∧ er = 0 := by
            rcases HT2.out with ⟨z, _⟩ | ⟨_, z1, z2⟩
            · cases z
            · exact ⟨z1, z2⟩
          obtain ⟨HG, rfl⟩ := HG
          clear HT2 hBB
          have hp : p.Near := (M.nearB_iff p).1 HBp.out
          have hd : d.Near := (M.nearB_iff d).1 HBd.out
          go_wp2_with fail
          refine (enter_good p d ⟨0, 0, 0⟩ ⟨16 * x, 4096, 4096⟩ _ hp hd N0 N1 O1).mono ?_
          rintro rr w8 ⟨i1, n1, k1, rfl, hE1, hb⟩
          have HE1 : Hid (M.EntG (M.lies p d ⟨0, 0, 0⟩ ⟨16 * x, 4096, 4096⟩) i1 n1 k1) := hE1.toG
          clear hE1
          clear a0 a1 a2 af al d0 d1 d2 df dl l0 l1 l2 lf ll h0 h1 h2 hf hl e0 e1 e2 ef el
          replace q0 := q0.after hb
          replace q1 := q1.after hb
          replace ql := ql.after hb
          replace qh := qh.after hb
          replace qe := qe.after hb
          have B8 : Below w.heap.size w w8 := bl B7 hb
          clear hb B7
          obtain ⟨a0, a1, a2, af, al⟩ := q0.three
          obtain ⟨d0, d1, d2, df, dl⟩ := q1.three
          obtain ⟨l0, l1, l2, lf, ll⟩ := ql.three
          obtain ⟨h0, h1, h2, hf, hl⟩ := qh.three
          obtain ⟨e0, e1, e2, ef, el⟩ := qe.three
          go_wp2_with fail
          refine (enter_good p d ⟨16 * x, 16 * y, 0⟩ ⟨4096, 4096, 4096⟩ _ hp hd N2 N3 O2).mono ?_
          rintro rr w9 ⟨i2, n2, k2, rfl, hE2, hb⟩
          have HE2 : Hid (M.EntG (M.lies p d ⟨16 * x, 16 * y, 0⟩ ⟨4096, 4096, 4096⟩) i2 n2 k2) := hE2.toG
          clear hE2
          have B9 : Below w.heap.size w w9 := bl B8 hb
          clear a0 a1 a2 af al d0 d1 d2 df dl l0 l1 l2 lf ll h0 h1 h2 hf hl e0 e1 e2 ef el
          clear hb B8 q0 q1 ql qh qe
          cases i1
          · cases i2
            · obtain ⟨u1, u2, u3⟩ := HG.out.one ((HE1.out.none HE2.out).congr (fun m k => M.bk_US m k))
              obtain ⟨v1, v2, _⟩ := HE2.out.no rfl
              obtain ⟨v3, v4, _⟩ := HE1.out.no rfl
              subst u1 v1 v2 v3 v4 u2 u3
              go_wp2; go_ret; exact ⟨rfl, B9⟩
            · obtain ⟨u1, u2, u3⟩ := HG.out.one ((HE1.out.new HE2.out).congr (fun m k => M.bk_US m k))
              subst u1 u2 u3
              clear HG
              go_wp2; go_ret; exact ⟨ret_bool (by simp), B9⟩
          · cases i2
            · obtain ⟨u1, u2, u3⟩ := HG.out.one ((HE1.out.none HE2.out).congr (fun m k => M.bk_US m k))
              subst u1 u2 u3
              clear HG
              go_wp2; go_ret; exact ⟨ret_bool (by simp), B9⟩
            · obtain ⟨v1, v2, v3, v4, _, _⟩ := HE1.out.yes rfl
              obtain ⟨t1, t2, t3, t4, _, _⟩ := HE2.out.yes rfl
              have m1 : wrap64 (n1 * k2) = n1 * k2 := wrap_mul (by omega) (by omega) (by omega) (by omega)
              have m2 : wrap64 (n2 * k1) = n2 * k1 := wrap_mul (by omega) (by omega) (by omega) (by omega)
              by_cases lt : n2 * k1 < n1 * k2
              · obtain ⟨u1, u2, u3⟩ := HG.out.one ((HE1.out.less HE2.out lt).congr (fun m k => M.bk_US m k))
                have m3 : decide (n1 * k2 ≤ n2 * k1) = false := by simp; omega
                subst u1 u2 u3
                clear HG
                go_wp2; go_ret; exact ⟨ret_bool (by simp), B9⟩
              · obtain ⟨u1, u2, u3⟩ := HG.out.one ((HE1.out.more HE2.out lt).congr (fun m k => M.bk_US m k))
                have m3 : decide (n1 * k2 ≤ n2 * k1) = true := by simp; omega
                subst u1 u2 u3
                clear HG
                go_wp2; go_ret; exact ⟨ret_bool (by simp), B9⟩
        · have hf2 : (Bp && Bd) = false := by simpa using hBB
          have HR : f = false ∧ n = 0 ∧ k = 0 ∧ er = 5 := by
            rcases HT2.out with ⟨_, z⟩ | ⟨z, _⟩
            · exact z
            · exact absurd z hBB
          obtain ⟨rfl, rfl, rfl, rfl⟩ := HR
          clear HT2 hBB
          cases Bp
          · go_wp2; go_ret; exact ⟨rfl, B7⟩
          · cases Bd
            · go_wp2; go_ret; exact ⟨rfl, B7⟩
            · cases hf2
  · have hR : z = (if p.x ≤ 16 * x ∨ 16 * y ≤ p.y then -1 else 5) ∧ e = 0 := by
      rcases HZ.out with ⟨t, _⟩ | ⟨t, t1, t2⟩
      · rw [HC.out] at t; cases t
      · exact ⟨by rw [t1]; exact M.bk_zone x1 x2 y1 y2 (cub_in HC.out), t2⟩
    obtain ⟨hzz, rfl⟩ := hR
    clear HZ
    by_cases X : p.x ≤ 16 * x
    · rw [if_pos (.inl X)] at hzz
      subst hzz
      obtain ⟨a0, a1, a2, af, al⟩ := q0.three
      obtain ⟨d0, d1, d2, df, dl⟩ := q1.three
      obtain ⟨l0, l1, l2, lf, ll⟩ := ql.three
      obtain ⟨h0, h1, h2, hf, hl⟩ := qh.three
      obtain ⟨e0, e1, e2, ef, el⟩ := qe.three
      go_wp2_with fail
      refine (trace_any (M.bkS b1 b2 c1 c2) p d _ hsz).mono ?_
      rintro rr w5 ⟨f, n, k, er, rfl, hb, hT⟩
      have HT := hid hT
      clear hT
      clear a0 a1 a2 af al d0 d1 d2 df dl l0 l1 l2 lf ll h0 h1 h2 hf hl e0 e1 e2 ef el
      replace q0 := q0.after hb
      replace q1 := q1.after hb
      replace ql := ql.after hb
      replace qh := qh.after hb
      replace qe := qe.after hb
      have B5 : Below w.heap.size w w5 := bl B4 hb
      clear hb B4
      obtain ⟨a0, a1, a2, af, al⟩ := q0.three
      obtain ⟨d0, d1, d2, df, dl⟩ := q1.three
      obtain ⟨l0, l1, l2, lf, ll⟩ := ql.three
      obtain ⟨h0, h1, h2, hf, hl⟩ := qh.three
      obtain ⟨e0, e1, e2, ef, el⟩ := qe.three
      go_wp2_with fail
      refine (near_is p _ Bp HBp).mono ?_
      rintro rr w6 ⟨rfl, hb⟩
      clear a0 a1 a2 af al d0 d1 d2 df dl l0 l1 l2 lf ll h0 h1 h2 hf hl e0 e1 e2 ef el
      replace q0 := q0.after hb
      replace q1 := q1.after hb
      replace ql := ql.after hb
      replace qh := qh.after hb
      replace qe := qe.after hb
      have B6 : Below w.heap.size w w6 := bl B5 hb
      clear hb B5
      obtain ⟨a0, a1, a2, af, al⟩ := q0.three
      obtain ⟨d0, d1, d2, df, dl⟩ := q1.three
      obtain ⟨l0, l1, l2, lf, ll⟩ := ql.three
      obtain ⟨h0, h1, h2, hf, hl⟩ := qh.three
      obtain ⟨e0, e1, e2, ef, el⟩ := qe.three
      go_wp2_with fail
      refine (near_is d _ Bd HBd).mono ?_
      rintro rr w7 ⟨rfl, hb⟩
      clear a0 a1 a2 af al d0 d1 d2 df dl l0 l1 l2 lf ll h0 h1 h2 hf hl e0 e1 e2 ef el
      replace q0 := q0.after hb
      replace q1 := q1.after hb
      replace ql := ql.after hb
      replace qh := qh.after hb
      replace qe := qe.after hb
      have B7 : Below w.heap.size w w7 := bl B6 hb
      clear hb B6
      obtain ⟨a0, a1, a2, af, al⟩ := q0.three
      obtain ⟨d0, d1, d2, df, dl⟩ := q1.three
      obtain ⟨l0, l1, l2, lf, ll⟩ := ql.three
      obtain ⟨h0, h1, h2, hf, hl⟩ := qh.three
      obtain ⟨e0, e1, e2, ef, el⟩ := qe.three
      have HT2 : Hid (((Bp && Bd) = false ∧ f = false ∧ n = 0 ∧ k = 0 ∧ er = 5) ∨ ((Bp && Bd) = true ∧ M.EntG (M.US p d (M.bkL x y)) f n k ∧ er = 0)) := by
        have h9 := HT.out
        rw [HErr.out, HTop.out, HBp.out, HBd.out] at h9
        rcases h9 with ⟨z, _⟩ | ⟨_, z1, z2⟩ | ⟨_, z1, z2⟩
        · exact absurd rfl z
        · exact .inl ⟨z1, z2⟩
        · exact .inr ⟨z1, z2⟩
      clear HT
      by_cases hBB : (Bp && Bd) = true
      · have hpd : Bp = true ∧ Bd = true := by simpa using hBB
        obtain ⟨rfl, rfl⟩ := hpd
        have HG : Hid (M.EntG (M.US p d (M.bkL x y)) f n k) ∧ er = 0 := by
          rcases HT2.out with ⟨z, _⟩ | ⟨_, z1, z2⟩
          · cases z
          · exact ⟨z1, z2⟩
        obtain ⟨HG, rfl⟩ := HG
        clear HT2 hBB
        have hp : p.Near := (M.nearB_iff p).1 HBp.out
        have hd : d.Near := (M.nearB_iff d).1 HBd.out
        go_wp2_with fail
        refine (enter_good p d ⟨0, 0, 0⟩ ⟨16 * x, 4096, 4096⟩ _ hp hd N0 N1 O1).mono ?_
        rintro rr w8 ⟨i1, n1, k1, rfl, hE1, hb⟩
        have HE1 : Hid (M.EntG (M.lies p d ⟨0, 0, 0⟩ ⟨16 * x, 4096, 4096⟩) i1 n1 k1) := hE1.toG
        clear hE1
        clear a0 a1 a2 af al d0 d1 d2 df dl l0 l1 l2 lf ll h0 h1 h2 hf hl e0 e1 e2 ef el
        replace q0 := q0.after hb
        replace q1 := q1.after hb
        replace ql := ql.after hb
        replace qh := qh.after hb
        replace qe := qe.after hb
        have B8 : Below w.heap.size w w8 := bl B7 hb
        clear hb B7
        obtain ⟨a0, a1, a2, af, al⟩ := q0.three
        obtain ⟨d0, d1, d2, df, dl⟩ := q1.three
        obtain ⟨l0, l1, l2, lf, ll⟩ := ql.three
        obtain ⟨h0, h1, h2, hf, hl⟩ := qh.three
        obtain ⟨e0, e1, e2, ef, el⟩ := qe.three
        go_wp2_with fail
        refine (enter_good p d ⟨16 * x, 16 * y, 0⟩ ⟨4096, 4096, 4096⟩ _ hp hd N2 N3 O2).mono ?_
        rintro rr w9 ⟨i2, n2, k2, rfl, hE2, hb⟩
        have HE2 : Hid (M.EntG (M.lies p d ⟨16 * x, 16 * y, 0⟩ ⟨4096, 4096, 4096⟩) i2 n2 k2) := hE2.toG
        clear hE2
        have B9 : Below w.heap.size w w9 := bl B8 hb
        clear a0 a1 a2 af al d0 d1 d2 df dl l0 l1 l2 lf ll h0 h1 h2 hf hl e0 e1 e2 ef el
        clear hb B8 q0 q1 ql qh qe
        cases i1
        · cases i2
          · obtain ⟨u1, u2, u3⟩ := HG.out.one ((HE1.out.none HE2.out).congr (fun m k => M.bk_US m k))
            obtain ⟨v1, v2, _⟩ := HE2.out.no rfl
            obtain ⟨v3, v4, _⟩ := HE1.out.no rfl
            subst u1 v1 v2 v3 v4 u2 u3
            go_wp2; go_ret; exact ⟨rfl, B9⟩
          · obtain ⟨u1, u2, u3⟩ := HG.out.one ((HE1.out.new HE2.out).congr (fun m k => M.bk_US m k))
            subst u1 u2 u3
            clear HG
            go_wp2; go_ret; exact ⟨ret_bool (by simp), B9⟩
        · cases i2
          · obtain ⟨u1, u2, u3⟩ := HG.out.one ((HE1.out.none HE2.out).congr (fun m k => M.bk_US m k))
            subst u1 u2 u3
            clear HG
            go_wp2; go_ret; exact ⟨ret_bool (by simp), B9⟩
          · obtain ⟨v1, v2, v3, v4, _, _⟩ := HE1.out.yes rfl
            obtain ⟨t1, t2, t3, t4, _, _⟩ := HE2.out.yes rfl
            have m1 : wrap64 (n1 * k2) = n1 * k2 := wrap_mul (by omega) (by omega) (by omega) (by omega)
            have m2 : wrap64 (n2 * k1) = n2 * k1 := wrap_mul (by omega) (by omega) (by omega) (by omega)
            by_cases lt : n2 * k1 < n1 * k2
            · obtain ⟨u1, u2, u3⟩ := HG.out.one ((HE1.out.less HE2.out lt).congr (fun m k => M.bk_US m k))
              have m3 : decide (n1 * k2 ≤ n2 * k1) = false := by simp; omega
              subst u1 u2 u3
              clear HG
              go_wp2; go_ret; exact ⟨ret_bool (by simp), B9⟩
            · obtain ⟨u1, u2, u3⟩ := HG.out.one ((HE1.out.more HE2.out lt).congr (fun m k => M.bk_US m k))
              have m3 : decide (n1 * k2 ≤ n2 * k1) = true := by simp; omega
              subst u1 u2 u3
              clear HG
              go_wp2; go_ret; exact ⟨ret_bool (by simp), B9⟩
      · have hf2 : (Bp && Bd) = false := by simpa using hBB
        have HR : f = false ∧ n = 0 ∧ k = 0 ∧ er = 5 := by
          rcases HT2.out with ⟨_, z⟩ | ⟨z, _⟩
          · exact z
          · exact absurd z hBB
        obtain ⟨rfl, rfl, rfl, rfl⟩ := HR
        clear HT2 hBB
        cases Bp
        · go_wp2; go_ret; exact ⟨rfl, B7⟩
        · cases Bd
          · go_wp2; go_ret; exact ⟨rfl, B7⟩
          · cases hf2
    · by_cases Y : 16 * y ≤ p.y
      · rw [if_pos (.inr Y)] at hzz
        subst hzz
        obtain ⟨a0, a1, a2, af, al⟩ := q0.three
        obtain ⟨d0, d1, d2, df, dl⟩ := q1.three
        obtain ⟨l0, l1, l2, lf, ll⟩ := ql.three
        obtain ⟨h0, h1, h2, hf, hl⟩ := qh.three
        obtain ⟨e0, e1, e2, ef, el⟩ := qe.three
        go_wp2_with fail
        refine (trace_any (M.bkS b1 b2 c1 c2) p d _ hsz).mono ?_
        rintro rr w5 ⟨f, n, k, er, rfl, hb, hT⟩
        have HT := hid hT
        clear hT
        clear a0 a1 a2 af al d0 d1 d2 df dl l0 l1 l2 lf ll h0 h1 h2 hf hl e0 e1 e2 ef el
        replace q0 := q0.after hb
        replace q1 := q1.after hb
        replace ql := ql.after hb
        replace qh := qh.after hb
        replace qe := qe.after hb
        have B5 : Below w.heap.size w w5 := bl B4 hb
        clear hb B4
        obtain ⟨a0, a1, a2, af, al⟩ := q0.three
        obtain ⟨d0, d1, d2, df, dl⟩ := q1.three
        obtain ⟨l0, l1, l2, lf, ll⟩ := ql.three
        obtain ⟨h0, h1, h2, hf, hl⟩ := qh.three
        obtain ⟨e0, e1, e2, ef, el⟩ := qe.three
        go_wp2_with fail
        refine (near_is p _ Bp HBp).mono ?_
        rintro rr w6 ⟨rfl, hb⟩
        clear a0 a1 a2 af al d0 d1 d2 df dl l0 l1 l2 lf ll h0 h1 h2 hf hl e0 e1 e2 ef el
        replace q0 := q0.after hb
        replace q1 := q1.after hb
        replace ql := ql.after hb
        replace qh := qh.after hb
        replace qe := qe.after hb
        have B6 : Below w.heap.size w w6 := bl B5 hb
        clear hb B5
        obtain ⟨a0, a1, a2, af, al⟩ := q0.three
        obtain ⟨d0, d1, d2, df, dl⟩ := q1.three
        obtain ⟨l0, l1, l2, lf, ll⟩ := ql.three
        obtain ⟨h0, h1, h2, hf, hl⟩ := qh.three
        obtain ⟨e0, e1, e2, ef, el⟩ := qe.three
        go_wp2_with fail
        refine (near_is d _ Bd HBd).mono ?_
        rintro rr w7 ⟨rfl, hb⟩
        clear a0 a1 a2 af al d0 d1 d2 df dl l0 l1 l2 lf ll h0 h1 h2 hf hl e0 e1 e2 ef el
        replace q0 := q0.after hb
        replace q1 := q1.after hb
        replace ql := ql.after hb
        replace qh := qh.after hb
        replace qe := qe.after hb
        have B7 : Below w.heap.size w w7 := bl B6 hb
        clear hb B6
        obtain ⟨a0, a1, a2, af, al⟩ := q0.three
        obtain ⟨d0, d1, d2, df, dl⟩ := q1.three
        obtain ⟨l0, l1, l2, lf, ll⟩ := ql.three
        obtain ⟨h0, h1, h2, hf, hl⟩ := qh.three
        obtain ⟨e0, e1, e2, ef, el⟩ := qe.three
        have HT2 : Hid (((Bp && Bd) = false ∧ f = false ∧ n = 0 ∧ k = 0 ∧ er = 5) ∨ ((Bp && Bd) = true ∧ M.EntG (M.US p d (M.bkL x y)) f n k ∧ er = 0)) := by
          have h9 := HT.out
          rw [HErr.out, HTop.out, HBp.out, HBd.out] at h9
          rcases h9 with ⟨z, _⟩ | ⟨_, z1, z2⟩ | ⟨_, z1, z2⟩
          · exact absurd rfl z
          · exact .inl ⟨z1, z2⟩
          · exact .inr ⟨z1, z2⟩
        clear HT
        by_cases hBB : (Bp && Bd) = true
        · have hpd : Bp = true ∧ Bd = true := by simpa using hBB
          obtain ⟨rfl, rfl⟩ := hpd
          have HG : Hid (M.EntG (M.US p d (M.bkL x y)) f n k) ∧ er = 0 := by
            rcases HT2.out with ⟨z, _⟩ | ⟨_, z1, z2⟩
            · cases z
            · exact ⟨z1, z2⟩
          obtain ⟨HG, rfl⟩ := HG
          clear HT2 hBB
          have hp : p.Near := (M.nearB_iff p).1 HBp.out
          have hd : d.Near := (M.nearB_iff d).1 HBd.out
          go_wp2_with fail
          refine (enter_good p d ⟨0, 0, 0⟩ ⟨16 * x, 4096, 4096⟩ _ hp hd N0 N1 O1).mono ?_
          rintro rr w8 ⟨i1, n1, k1, rfl, hE1, hb⟩
          have HE1 : Hid (M.EntG (M.lies p d ⟨0, 0, 0⟩ ⟨16 * x, 4096, 4096⟩) i1 n1 k1) := hE1.toG
          clear hE1
          clear a0 a1 a2 af al d0 d1 d2 df dl l0 l1 l2 lf ll h0 h1 h2 hf hl e0 e1 e2 ef el
          replace q0 := q0.after hb
          replace q1 := q1.after hb
          replace ql := ql.after hb
          replace qh := qh.after hb
          replace qe := qe.after hb
          have B8 : Below w.heap.size w w8 := bl B7 hb
          clear hb B7
          obtain ⟨a0, a1, a2, af, al⟩ := q0.three
          obtain ⟨d0, d1, d2, df, dl⟩ := q1.three
          obtain ⟨l0, l1, l2, lf, ll⟩ := ql.three
          obtain ⟨h0, h1, h2, hf, hl⟩ := qh.three
          obtain ⟨e0, e1, e2, ef, el⟩ := qe.three
          go_wp2_with fail
          refine (enter_good p d ⟨16 * x, 16 * y, 0⟩ ⟨4096, 4096, 4096⟩ _ hp hd N2 N3 O2).mono ?_
          rintro rr w9 ⟨i2, n2, k2, rfl, hE2, hb⟩
          have HE2 : Hid (M.EntG (M.lies p d ⟨16 * x, 16 * y, 0⟩ ⟨4096, 4096, 4096⟩) i2 n2 k2) := hE2.toG
          clear hE2
          have B9 : Below w.heap.size w w9 := bl B8 hb
          clear a0 a1 a2 af al d0 d1 d2 df dl l0 l1 l2 lf ll h0 h1 h2 hf hl e0 e1 e2 ef el
          clear hb B8 q0 q1 ql qh qe
          cases i1
          · cases i2
            · obtain ⟨u1, u2, u3⟩ := HG.out.one ((HE1.out.none HE2.out).congr (fun m k => M.bk_US m k))
              obtain ⟨v1, v2, _⟩ := HE2.out.no rfl
              obtain ⟨v3, v4, _⟩ := HE1.out.no rfl
              subst u1 v1 v2 v3 v4 u2 u3
              go_wp2; go_ret; exact ⟨rfl, B9⟩
            · obtain ⟨u1, u2, u3⟩ := HG.out.one ((HE1.out.new HE2.out).congr (fun m k => M.bk_US m k))
              subst u1 u2 u3
              clear HG
              go_wp2; go_ret; exact ⟨ret_bool (by simp), B9⟩
          · cases i2
            · obtain ⟨u1, u2, u3⟩ := HG.out.one ((HE1.out.none HE2.out).congr (fun m k => M.bk_US m k))
              subst u1 u2 u3
              clear HG
              go_wp2; go_ret; exact ⟨ret_bool (by simp), B9⟩
            · obtain ⟨v1, v2, v3, v4, _, _⟩ := HE1.out.yes rfl
              obtain ⟨t1, t2, t3, t4, _, _⟩ := HE2.out.yes rfl
              have m1 : wrap64 (n1 * k2) = n1 * k2 := wrap_mul (by omega) (by omega) (by omega) (by omega)
              have m2 : wrap64 (n2 * k1) = n2 * k1 := wrap_mul (by omega) (by omega) (by omega) (by omega)
              by_cases lt : n2 * k1 < n1 * k2
              · obtain ⟨u1, u2, u3⟩ := HG.out.one ((HE1.out.less HE2.out lt).congr (fun m k => M.bk_US m k))
                have m3 : decide (n1 * k2 ≤ n2 * k1) = false := by simp; omega
                subst u1 u2 u3
                clear HG
                go_wp2; go_ret; exact ⟨ret_bool (by simp), B9⟩
              · obtain ⟨u1, u2, u3⟩ := HG.out.one ((HE1.out.more HE2.out lt).congr (fun m k => M.bk_US m k))
                have m3 : decide (n1 * k2 ≤ n2 * k1) = true := by simp; omega
                subst u1 u2 u3
                clear HG
                go_wp2; go_ret; exact ⟨ret_bool (by simp), B9⟩
        · have hf2 : (Bp && Bd) = false := by simpa using hBB
          have HR : f = false ∧ n = 0 ∧ k = 0 ∧ er = 5 := by
            rcases HT2.out with ⟨_, z⟩ | ⟨z, _⟩
            · exact z
            · exact absurd z hBB
          obtain ⟨rfl, rfl, rfl, rfl⟩ := HR
          clear HT2 hBB
          cases Bp
          · go_wp2; go_ret; exact ⟨rfl, B7⟩
          · cases Bd
            · go_wp2; go_ret; exact ⟨rfl, B7⟩
            · cases hf2
      · rw [if_neg (by omega)] at hzz
        subst hzz
        obtain ⟨a0, a1, a2, af, al⟩ := q0.three
        obtain ⟨d0, d1, d2, df, dl⟩ := q1.three
        obtain ⟨l0, l1, l2, lf, ll⟩ := ql.three
        obtain ⟨h0, h1, h2, hf, hl⟩ := qh.three
        obtain ⟨e0, e1, e2, ef, el⟩ := qe.three
        go_wp2_with fail
        refine (trace_any (M.bkS b1 b2 c1 c2) p d _ hsz).mono ?_
        rintro rr w5 ⟨f, n, k, er, rfl, hb, hT⟩
        have HT := hid hT
        clear hT
        clear a0 a1 a2 af al d0 d1 d2 df dl l0 l1 l2 lf ll h0 h1 h2 hf hl e0 e1 e2 ef el
        replace q0 := q0.after hb
        replace q1 := q1.after hb
        replace ql := ql.after hb
        replace qh := qh.after hb
        replace qe := qe.after hb
        have B5 : Below w.heap.size w w5 := bl B4 hb
        clear hb B4
        obtain ⟨a0, a1, a2, af, al⟩ := q0.three
        obtain ⟨d0, d1, d2, df, dl⟩ := q1.three
        obtain ⟨l0, l1, l2, lf, ll⟩ := ql.three
        obtain ⟨h0, h1, h2, hf, hl⟩ := qh.three
        obtain ⟨e0, e1, e2, ef, el⟩ := qe.three
        go_wp2_with fail
        refine (near_is p _ Bp HBp).mono ?_
        rintro rr w6 ⟨rfl, hb⟩
        clear a0 a1 a2 af al d0 d1 d2 df dl l0 l1 l2 lf ll h0 h1 h2 hf hl e0 e1 e2 ef el
        replace q0 := q0.after hb
        replace q1 := q1.after hb
        replace ql := ql.after hb
        replace qh := qh.after hb
        replace qe := qe.after hb
        have B6 : Below w.heap.size w w6 := bl B5 hb
        clear hb B5
        obtain ⟨a0, a1, a2, af, al⟩ := q0.three
        obtain ⟨d0, d1, d2, df, dl⟩ := q1.three
        obtain ⟨l0, l1, l2, lf, ll⟩ := ql.three
        obtain ⟨h0, h1, h2, hf, hl⟩ := qh.three
        obtain ⟨e0, e1, e2, ef, el⟩ := qe.three
        go_wp2_with fail
        refine (near_is d _ Bd HBd).mono ?_
        rintro rr w7 ⟨rfl, hb⟩
        clear a0 a1 a2 af al d0 d1 d2 df dl l0 l1 l2 lf ll h0 h1 h2 hf hl e0 e1 e2 ef el
        replace q0 := q0.after hb
        replace q1 := q1.after hb
        replace ql := ql.after hb
        replace qh := qh.after hb
        replace qe := qe.after hb
        have B7 : Below w.heap.size w w7 := bl B6 hb
        clear hb B6
        obtain ⟨a0, a1, a2, af, al⟩ := q0.three
        obtain ⟨d0, d1, d2, df, dl⟩ := q1.three
        obtain ⟨l0, l1, l2, lf, ll⟩ := ql.three
        obtain ⟨h0, h1, h2, hf, hl⟩ := qh.three
        obtain ⟨e0, e1, e2, ef, el⟩ := qe.three
        have HT2 : Hid (((Bp && Bd) = false ∧ f = false ∧ n = 0 ∧ k = 0 ∧ er = 5) ∨ ((Bp && Bd) = true ∧ M.EntG (M.US p d (M.bkL x y)) f n k ∧ er = 0)) := by
          have h9 := HT.out
          rw [HErr.out, HTop.out, HBp.out, HBd.out] at h9
          rcases h9 with ⟨z, _⟩ | ⟨_, z1, z2⟩ | ⟨_, z1, z2⟩
          · exact absurd rfl z
          · exact .inl ⟨z1, z2⟩
          · exact .inr ⟨z1, z2⟩
        clear HT
        by_cases hBB : (Bp && Bd) = true
        · have hpd : Bp = true ∧ Bd = true := by simpa using hBB
          obtain ⟨rfl, rfl⟩ := hpd
          have HG : Hid (M.EntG (M.US p d (M.bkL x y)) f n k) ∧ er = 0 := by
            rcases HT2.out with ⟨z, _⟩ | ⟨_, z1, z2⟩
            · cases z
            · exact ⟨z1, z2⟩
          obtain ⟨HG, rfl⟩ := HG
          clear HT2 hBB
          have hp : p.Near := (M.nearB_iff p).1 HBp.out
          have hd : d.Near := (M.nearB_iff d).1 HBd.out
          go_wp2_with fail
          refine (enter_good p d ⟨0, 0, 0⟩ ⟨16 * x, 4096, 4096⟩ _ hp hd N0 N1 O1).mono ?_
          rintro rr w8 ⟨i1, n1, k1, rfl, hE1, hb⟩
          have HE1 : Hid (M.EntG (M.lies p d ⟨0, 0, 0⟩ ⟨16 * x, 4096, 4096⟩) i1 n1 k1) := hE1.toG
          clear hE1
          clear a0 a1 a2 af al d0 d1 d2 df dl l0 l1 l2 lf ll h0 h1 h2 hf hl e0 e1 e2 ef el
          replace q0 := q0.after hb
          replace q1 := q1.after hb
          replace ql := ql.after hb
          replace qh := qh.after hb
          replace qe := qe.after hb
          have B8 : Below w.heap.size w w8 := bl B7 hb
          clear hb B7
          obtain ⟨a0, a1, a2, af, al⟩ := q0.three
          obtain ⟨d0, d1, d2, df, dl⟩ := q1.three
          obtain ⟨l0, l1, l2, lf, ll⟩ := ql.three
          obtain ⟨h0, h1, h2, hf, hl⟩ := qh.three
          obtain ⟨e0, e1, e2, ef, el⟩ := qe.three
          go_wp2_with fail
          refine (enter_good p d ⟨16 * x, 16 * y, 0⟩ ⟨4096, 4096, 4096⟩ _ hp hd N2 N3 O2).mono ?_
          rintro rr w9 ⟨i2, n2, k2, rfl, hE2, hb⟩
          have HE2 : Hid (M.EntG (M.lies p d ⟨16 * x, 16 * y, 0⟩ ⟨4096, 4096, 4096⟩) i2 n2 k2) := hE2.toG
          clear hE2
          have B9 : Below w.heap.size w w9 := bl B8 hb
          clear a0 a1 a2 af al d0 d1 d2 df dl l0 l1 l2 lf ll h0 h1 h2 hf hl e0 e1 e2 ef el
          clear hb B8 q0 q1 ql qh qe
          cases i1
          · cases i2
            · obtain ⟨u1, u2, u3⟩ := HG.out.one ((HE1.out.none HE2.out).congr (fun m k => M.bk_US m k))
              obtain ⟨v1, v2, _⟩ := HE2.out.no rfl
              obtain ⟨v3, v4, _⟩ := HE1.out.no rfl
              subst u1 v1 v2 v3 v4 u2 u3
              go_wp2; go_ret; exact ⟨rfl, B9⟩
            · obtain ⟨u1, u2, u3⟩ := HG.out.one ((HE1.out.new HE2.out).congr (fun m k => M.bk_US m k))
              subst u1 u2 u3
              clear HG
              go_wp2; go_ret; exact ⟨ret_bool (by simp), B9⟩
          · cases i2
            · obtain ⟨u1, u2, u3⟩ := HG.out.one ((HE1.out.none HE2.out).congr (fun m k => M.bk_US m k))
              subst u1 u2 u3
              clear HG
              go_wp2; go_ret; exact ⟨ret_bool (by simp), B9⟩
            · obtain ⟨v1, v2, v3, v4, _, _⟩ := HE1.out.yes rfl
              obtain ⟨t1, t2, t3, t4, _, _⟩ := HE2.out.yes rfl
              have m1 : wrap64 (n1 * k2) = n1 * k2 := wrap_mul (by omega) (by omega) (by omega) (by omega)
              have m2 : wrap64 (n2 * k1) = n2 * k1 := wrap_mul (by omega) (by omega) (by omega) (by omega)
              by_cases lt : n2 * k1 < n1 * k2
              · obtain ⟨u1, u2, u3⟩ := HG.out.one ((HE1.out.less HE2.out lt).congr (fun m k => M.bk_US m k))
                have m3 : decide (n1 * k2 ≤ n2 * k1) = false := by simp; omega
                subst u1 u2 u3
                clear HG
                go_wp2; go_ret; exact ⟨ret_bool (by simp), B9⟩
              · obtain ⟨u1, u2, u3⟩ := HG.out.one ((HE1.out.more HE2.out lt).congr (fun m k => M.bk_US m k))
                have m3 : decide (n1 * k2 ≤ n2 * k1) = true := by simp; omega
                subst u1 u2 u3
                clear HG
                go_wp2; go_ret; exact ⟨ret_bool (by simp), B9⟩
        · have hf2 : (Bp && Bd) = false := by simpa using hBB
          have HR : f = false ∧ n = 0 ∧ k = 0 ∧ er = 5 := by
            rcases HT2.out with ⟨_, z⟩ | ⟨z, _⟩
            · exact z
            · exact absurd z hBB
          obtain ⟨rfl, rfl, rfl, rfl⟩ := HR
          clear HT2 hBB
          cases Bp
          · go_wp2; go_ret; exact ⟨rfl, B7⟩
          · cases Bd
            · go_wp2; go_ret; exact ⟨rfl, B7⟩
            · cases hf2

end Go.Proofs.Ytonmihojfcjmjaa
