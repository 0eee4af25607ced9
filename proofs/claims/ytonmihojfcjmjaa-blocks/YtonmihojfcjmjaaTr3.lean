/- Trace, the document's trace and Trace; the law Traces. -/
import Derived.Test.YtonmihojfcjmjaaTr1
import Derived.Test.YtonmihojfcjmjaaTr2
import Derived.Test.YtonmihojfcjmjaaZn4
import Derived.Deep.DrawnRows
namespace Go.Proofs.Ytonmihojfcjmjaa
open Go.RowKit
set_option linter.unusedVariables false
attribute [local go_sem] cell_set_off cell_set_blk
attribute [local go_sem ↓] big65 big65'
attribute [local go_sem ↓] Go.wp_at_zero Go.wp_at_succ


/-- What trace gives back. -/
def RTrPost (p d : M.V3) (ls : List M.Lf) (w : World) (r : Ending) (w' : World) : Prop := ∃ (f : Bool) (n e : Int), r = .returned (.tuple #[.bool f, .int .i64 n, .int .i64 e]) ∧ M.EntG (M.US p d ls) f n e ∧ Below w.heap.size w w'

set_option maxRecDepth 100000 in
set_option maxHeartbeats 4000000 in
theorem rtrace_any (x : Option Addr) (n0 cap base : Nat) (ls : List M.Lf) (p d : M.V3) (w : World) (hown : w.ownsRow base 114 7 (.slice x n0 cap) ls.length (flat ls)) (hl : ls.length ≤ 512) (hp : p.Near) (hd : d.Near) (hc : ∀ l ∈ ls, l.lo.Cub ∧ l.hi.Cub ∧ -1 ≤ l.zone ∧ l.zone ≤ 7) :
    Calls Try.prog 49 #[.slice x n0 cap, .agg #[.int .i64 p.x, .int .i64 p.y, .int .i64 p.z], .agg #[.int .i64 d.x, .int .i64 d.y, .int .i64 d.z]] w (RTrPost p d ls w) := by
  have HO : Hid (w.ownsRow base 114 7 (.slice x n0 cap) ls.length (flat ls)) := hown
  have HC : Hid (∀ l ∈ ls, l.lo.Cub ∧ l.hi.Cub ∧ -1 ≤ l.zone ∧ l.zone ≤ 7) := hc
  clear hc
  rcases own_form hown rfl with ⟨rfl, rfl, rfl, rfl⟩ | ⟨g, rfl, rfl, hg⟩
  · have HE : Hid (M.EntG (M.US p d []) false 0 0) := M.US_nil
    clear hown HO hl hp hd HC
    go_enter Try.func49, Try.ntmps49
    go_wp2_with fail
    refine wp_loop_rounds 1 ?_
    rw [rounds_succ]
    go_wp2
    go_ret3
    exact ⟨false, 0, 0, rfl, HE.out, by go_grown⟩
  · clear hown
    go_enter Try.func49, Try.ntmps49
    go_wp2_with fail
    obtain ⟨W0, hW0⟩ : ∃ W0, ((w.alloc (.cells #[.int .i64 p.x, .int .i64 p.y, .int .i64 p.z] 27)).alloc (.cells #[.int .i64 d.x, .int .i64 d.y, .int .i64 d.z] 27)) = W0 := ⟨_, rfl⟩
    have q1 : Blk W0 w.heap.size #[.int .i64 p.x, .int .i64 p.y, .int .i64 p.z] 27 := by rw [← hW0]; exact (by repeat' (first | (with_reducible assumption) | (refine Blk.new ?_; (first | (simp; done) | rfl); done) | (with_reducible refine Blk.alloc ?_) | (with_reducible refine Blk.drew ?_) | (with_reducible refine Blk.drewN ?_)))
    have q2 : Blk W0 (w.heap.size + 1) #[.int .i64 d.x, .int .i64 d.y, .int .i64 d.z] 27 := by rw [← hW0]; exact (by repeat' (first | (with_reducible assumption) | (refine Blk.new ?_; (first | (simp; done) | rfl); done) | (with_reducible refine Blk.alloc ?_) | (with_reducible refine Blk.drew ?_) | (with_reducible refine Blk.drewN ?_)))
    have B0 : Below w.heap.size w W0 := by rw [← hW0]; go_grown
    have O0 : Hid (W0.ownsRow base 114 7 (.slice (some ⟨g, 0, none⟩) ls.length cap) ls.length (flat ls)) := own_of HO.out (fun k hk => B0.block k (own_lt HO.out hk))
    rw [hW0]
    clear hW0 HO
    have hg0 : g < W0.heap.size := by have := B0.size; omega
    go_loopg [9, 10, 11, 12] (ls.length + 1) (fun k u9 u10 u11 u12 wr => ∃ (j : Nat) (f : Bool) (n e : Int), u9 = .bool f ∧ u10 = .int .i64 n ∧ u11 = .int .i64 e ∧ u12 = .int .i64 j ∧ j ≤ ls.length ∧ k + j = ls.length + 1 ∧ Hid (M.EntG (M.US p d (ls.take j)) f n e) ∧ Below W0.heap.size W0 wr)
    case atStart => exact ⟨0, false, 0, 0, rfl, rfl, rfl, rfl, Nat.zero_le _, by omega, M.US_nil, Below.refl _ _⟩
    case round =>
      obtain ⟨j, f, n, e, rfl, rfl, rfl, rfl, hj, hk, hE, hB⟩ := hrel
      by_cases hlt : j < ls.length
      · obtain ⟨l, hl2⟩ : ∃ l, ls[j]? = some l := ⟨ls[j], List.getElem?_eq_getElem hlt⟩
        have O1 := own_of (W' := wr) O0.out (fun k hk => hB.block k (own_lt O0.out hk))
        obtain ⟨⟨k0, k1, k2, k3, k4, k5, k6⟩, hcap, hcm⟩ := own_leaf O1 hl2
        have HT : Hid (ls.take (j + 1) = ls.take j ++ [l]) := take_snoc hl2
        obtain ⟨cl1, cl2, cl3, cl4⟩ : l.lo.Cub ∧ l.hi.Cub ∧ -1 ≤ l.zone ∧ l.zone ≤ 7 := HC.out l (List.mem_of_getElem? hl2)
        have HL2 : Hid (ls[j]? = some l) := hl2
        unfold maxLen at hcm
        clear O1 hl2
        have j0 : (0 : Int) ≤ (j : Int) := by omega
        have j1 : (j : Int) < (ls.length : Int) := by omega
        have j2 : (ls.length : Int) ≤ 512 := by omega
        have hsz : W0.heap.size ≤ wr.heap.size := hB.size
        have hgl : g < wr.heap.size := by omega
        by_cases hz : l.zone = -1
        · have HZ : Hid (l.zone = -1) := hz
          have t1 : ¬ 0 ≤ l.zone := by omega
          clear hz
          obtain ⟨a0, a1, a2, af, al⟩ := (q1.after hB).three
          obtain ⟨b0, b1, b2, bf, bz⟩ := (q2.after hB).three
          go_wp2_with fail
          go_region_held3 (fun w' => w'.cell? ⟨g, j * 7, none⟩ = some (.int .i64 l.lo.x) ∧ w'.cell? ⟨g, j * 7 + 1, none⟩ = some (.int .i64 l.lo.y) ∧ w'.cell? ⟨g, j * 7 + 2, none⟩ = some (.int .i64 l.lo.z) ∧ w'.cell? ⟨g, j * 7 + 3, none⟩ = some (.int .i64 l.hi.x) ∧ w'.cell? ⟨g, j * 7 + 4, none⟩ = some (.int .i64 l.hi.y) ∧ w'.cell? ⟨g, j * 7 + 5, none⟩ = some (.int .i64 l.hi.z) ∧
              w'.cell? ⟨w.heap.size, 0, none⟩ = some (.int .i64 p.x) ∧ w'.cell? ⟨w.heap.size, 1, none⟩ = some (.int .i64 p.y) ∧ w'.cell? ⟨w.heap.size, 2, none⟩ = some (.int .i64 p.z) ∧ w'.cell? ⟨w.heap.size + 1, 0, none⟩ = some (.int .i64 d.x) ∧ w'.cell? ⟨w.heap.size + 1, 1, none⟩ = some (.int .i64 d.y) ∧ w'.cell? ⟨w.heap.size + 1, 2, none⟩ = some (.int .i64 d.z)) (go_keep)
            ((go_at_call 70; refine (renter_any p d l.lo l.hi _ hp hd cl1.near cl2.near).mono ?_; rintro rr w1 ⟨i, a, b, rfl, hE1, hb1⟩; have HE1 : Hid (M.EntG (M.lies p d l.lo l.hi) i a b) := hE1.toG; have B1 : Below W0.heap.size W0 w1 := bl (by go_grown) hb1; clear hb1 hE1; obtain ⟨⟨m0, m1, m2, m3, m4, m5, m6⟩, _, _⟩ := own_leaf (own_of (W' := w1) O0.out (fun k hk => B1.block k (own_lt O0.out hk))) HL2.out; obtain ⟨n1, n2, n3, nf, nl⟩ := (q1.after B1).three; obtain ⟨o1, o2, o3, of, ol⟩ := (q2.after B1).three))
          clear k0 k1 k2 k3 k4 k5 k6 a0 a1 a2 af al b0 b1 b2 bf bz m0 m1 m2 m3 m4 m5 m6 n1 n2 n3 nf nl o1 o2 o3 of ol
          cases i
          · have HX : Hid (M.EntG (M.US p d (ls.take (j + 1))) f n e) := by unfold Hid; rw [HT.out]; exact (hE.out.none HE1.out).congr (M.US_solid HZ.out)
            go_wp2
            go_roundg (gk - 1)
            case measure => omega
            case rel => exact ⟨j + 1, f, n, e, rfl, rfl, rfl, by go_num, hlt, by omega, HX, B1⟩
          · cases f
            · have HX : Hid (M.EntG (M.US p d (ls.take (j + 1))) true a b) := by unfold Hid; rw [HT.out]; exact (hE.out.new HE1.out).congr (M.US_solid HZ.out)
              go_wp2
              go_roundg (gk - 1)
              case measure => omega
              case rel => exact ⟨j + 1, true, a, b, rfl, rfl, rfl, by go_num, hlt, by omega, HX, B1⟩
            · obtain ⟨x1, x2, x3, x4, _, _⟩ := hE.out.yes rfl
              obtain ⟨y1, y2, y3, y4, _, _⟩ := HE1.out.yes rfl
              have v1 : wrap64 (a * e) = a * e := wrap_mul (by omega) (by omega) (by omega) (by omega)
              have v2 : wrap64 (n * b) = n * b := wrap_mul (by omega) (by omega) (by omega) (by omega)
              by_cases hx : a * e < n * b
              · have HX : Hid (M.EntG (M.US p d (ls.take (j + 1))) true a b) := by unfold Hid; rw [HT.out]; exact (hE.out.less HE1.out hx).congr (M.US_solid HZ.out)
                have v3 : decide (a * e < n * b) = true := by simpa using hx
                clear hx
                go_wp2
                go_roundg (gk - 1)
                case measure => omega
                case rel => exact ⟨j + 1, true, a, b, rfl, rfl, rfl, by go_num, hlt, by omega, HX, B1⟩
              · have HX : Hid (M.EntG (M.US p d (ls.take (j + 1))) true n e) := by unfold Hid; rw [HT.out]; exact (hE.out.more HE1.out hx).congr (M.US_solid HZ.out)
                have v3 : decide (a * e < n * b) = false := by simpa using hx
                clear hx
                go_wp2
                go_roundg (gk - 1)
                case measure => omega
                case rel => exact ⟨j + 1, true, n, e, rfl, rfl, rfl, by go_num, hlt, by omega, HX, B1⟩
        · have HX : Hid (M.EntG (M.US p d (ls.take (j + 1))) f n e) := by unfold Hid; rw [HT.out]; exact hE.out.congr (M.US_open hz)
          have t1 : 0 ≤ l.zone := by omega
          clear hz
          go_wp2
          go_roundg (gk - 1)
          case measure => omega
          case rel => exact ⟨j + 1, f, n, e, rfl, rfl, rfl, by go_num, hlt, by omega, HX, hB⟩
      · have HX : Hid (M.EntG (M.US p d ls) f n e) := by have := hE.out; rw [List.take_of_length_le (by omega)] at this; exact this
        have j1 : ¬ (j : Int) < (ls.length : Int) := by omega
        clear hE
        go_wp2
        go_ret3
        exact ⟨f, n, e, rfl, HX.out, bl B0 hB⟩

/-- What Trace gives back. -/
def TrPost (s : ByteArray) (p d : M.V3) (w : World) (r : Ending) (w' : World) : Prop := ∃ (f : Bool) (n k e : Int), r = .returned (.tuple #[.bool f, .int .i64 n, .int .i64 k, .int .i64 e]) ∧ Below w.heap.size w w' ∧
  (((M.errS s).1 ≠ 0 ∧ f = false ∧ n = 0 ∧ k = 0 ∧ e = (M.errS s).1) ∨ ((M.errS s).1 = 0 ∧ (M.nearB p && M.nearB d) = false ∧ f = false ∧ n = 0 ∧ k = 0 ∧ e = 5) ∨ ((M.errS s).1 = 0 ∧ (M.nearB p && M.nearB d) = true ∧ M.EntG (M.US p d (M.top s).2.leaves) f n k ∧ e = 0))

set_option maxHeartbeats 2000000 in
theorem trace_any (s : ByteArray) (p d : M.V3) (w : World) (hm : s.size ≤ maxLen) :
    Calls Try.prog 20 #[.string s, .agg #[.int .i64 p.x, .int .i64 p.y, .int .i64 p.z], .agg #[.int .i64 d.x, .int .i64 d.y, .int .i64 d.z]] w (TrPost s p d w) := by
  go_enter Try.func20, Try.ntmps20
  go_wp2_with fail
  refine (read_any s _ hm).mono ?_
  rintro rr w1 ⟨e, k, cs, rfl, hsz, hE, hO, hb⟩
  have E : Hid (M.errS s = (e, k)) := hE
  have q0 := (show Blk _ w.heap.size #[.int .i64 p.x, .int .i64 p.y, .int .i64 p.z] 27 from (by repeat' (first | (with_reducible assumption) | (refine Blk.new ?_; (first | (simp; done) | rfl); done) | (with_reducible refine Blk.alloc ?_) | (with_reducible refine Blk.drew ?_) | (with_reducible refine Blk.drewN ?_)))).after hb
  have q1 := (show Blk _ (w.heap.size + 1) #[.int .i64 d.x, .int .i64 d.y, .int .i64 d.z] 27 from (by repeat' (first | (with_reducible assumption) | (refine Blk.new ?_; (first | (simp; done) | rfl); done) | (with_reducible refine Blk.alloc ?_) | (with_reducible refine Blk.drew ?_) | (with_reducible refine Blk.drewN ?_)))).after hb
  have B1 : Below w.heap.size w w1 := bl (by go_grown) hb
  clear hb hE
  obtain ⟨v1, hst, qm, hbv, hlv⟩ := keep_map w1 cs hsz
  have hs65 := hsz.1
  replace q0 := q0.after hbv
  replace q1 := q1.after hbv
  have B1v : Below w.heap.size w v1 := bl B1 hbv
  have hz := B1v.size
  by_cases he : e = 0
  · subst he
    obtain ⟨x, n, cap, hcs, hown⟩ := hO rfl
    have c00 : cs[0]? = some (.slice x n cap) := hcs.at0
    have HO : Hid (v1.ownsRow 0 117 7 (.slice x n cap) (M.top s).2.leaves.length (flat (M.top s).2.leaves)) := own_of hown (fun g hg => hbv.block g (own_lt hown hg))
    clear hown hcs
    obtain ⟨hs, _, _, _⟩ := errS_ok E.out
    clear hO
    obtain ⟨B, hB⟩ : ∃ B, (M.nearB p && M.nearB d) = B := ⟨_, rfl⟩
    have HB : Hid ((M.nearB p && M.nearB d) = B) := hB
    clear hB
    obtain ⟨a0, a1, a2, af, al⟩ := q0.three
    obtain ⟨b0, b1, b2, bf, bz⟩ := q1.three
    go_wp2_with fail
    refine (within_is p d _ B HB).mono ?_
    rintro rr w2 ⟨rfl, hb⟩
    have q2 := qm.after hb
    replace q0 := q0.after hb
    replace q1 := q1.after hb
    have O2 : Hid (w2.ownsRow 0 117 7 (.slice x n cap) (M.top s).2.leaves.length (flat (M.top s).2.leaves)) := own_of HO.out (fun g hg => hb.block g (own_lt HO.out hg))
    have B2 : Below w.heap.size w w2 := bl B1v hb
    clear hb HO B1 a0 a1 a2 af al b0 b1 b2 bf bz
    obtain ⟨a0, a1, a2, af, al⟩ := q0.three
    obtain ⟨b0, b1, b2, bf, bz⟩ := q1.three
    have c0 := big_blk (P := Try.prog) q2 hs65
    cases B
    · go_wp2
      exact bodyPost_ret (v := .tuple #[.bool false, .int .i64 0, .int .i64 0, .int .i64 5]) (by simp [results, Try.results20, go_sem]) rfl ⟨false, 0, 0, 5, rfl, B2, .inr (.inl ⟨by rw [E.out], HB.out, rfl, rfl, rfl, rfl⟩)⟩
    · have hpd : M.nearB p = true ∧ M.nearB d = true := by have := HB.out; simpa using this
      have hp := (M.nearB_iff p).1 hpd.1
      have hd := (M.nearB_iff d).1 hpd.2
      clear hpd
      go_wp2_with fail
      refine (mapTrace_any cs x n cap 0 (M.top s).2.leaves p d _ c00 O2.out (leaves_le hs) hp hd (fun l hm => ⟨((M.top_inv s).bx l hm).1, ((M.top_inv s).bx l hm).2.1⟩)).mono ?_
      rintro rr w3 ⟨f, a, b, rfl, hG, hb⟩
      have HG : Hid (M.EntG (M.US p d (M.top s).2.leaves) f a b) := hG
      have B3 : Below w.heap.size w w3 := bl B2 hb
      clear hb B2 O2 a0 a1 a2 af al b0 b1 b2 bf bz c0 q0 q1 q2 hG
      have hz3 := B3.size
      go_wp2
      go_quiet (fail)
      go_wp2
      exact bodyPost_ret (v := .tuple #[.bool f, .int .i64 a, .int .i64 b, .int .i64 0]) (by simp [results, Try.results20, go_sem]) rfl ⟨f, a, b, 0, rfl, below_drewN (by go_grown) _, .inr (.inr ⟨by rw [E.out], HB.out, HG.out, rfl⟩)⟩
  · have t : (e != 0) = true := by rw [bne_iff_ne]; exact he
    have HE : Hid (e ≠ 0) := he
    clear he hO
    clear qm
    go_wp2
    exact bodyPost_ret (v := .tuple #[.bool false, .int .i64 0, .int .i64 0, .int .i64 e]) (by simp [results, Try.results20, go_sem]) rfl ⟨false, 0, 0, e, rfl, B1v, .inl ⟨by rw [E.out]; exact HE.out, rfl, rfl, rfl, by rw [E.out]⟩⟩

set_option maxHeartbeats 2000000 in
theorem rtrace2_any (s : ByteArray) (p d : M.V3) (w : World) (hm : s.size ≤ maxLen) :
    Calls Try.prog 21 #[.string s, .agg #[.int .i64 p.x, .int .i64 p.y, .int .i64 p.z], .agg #[.int .i64 d.x, .int .i64 d.y, .int .i64 d.z]] w (TrPost s p d w) := by
  go_enter Try.func21, Try.ntmps21
  go_wp2_with fail
  refine (rcheck_any s _ hm).mono ?_
  rintro rr w1 ⟨e, k, rfl, hE, hb⟩
  have E : Hid (M.errS s = (e, k)) := hE
  have q0 := (show Blk _ w.heap.size #[.int .i64 p.x, .int .i64 p.y, .int .i64 p.z] 27 from (by repeat' (first | (with_reducible assumption) | (refine Blk.new ?_; (first | (simp; done) | rfl); done) | (with_reducible refine Blk.alloc ?_) | (with_reducible refine Blk.drew ?_) | (with_reducible refine Blk.drewN ?_)))).after hb
  have q1 := (show Blk _ (w.heap.size + 1) #[.int .i64 d.x, .int .i64 d.y, .int .i64 d.z] 27 from (by repeat' (first | (with_reducible assumption) | (refine Blk.new ?_; (first | (simp; done) | rfl); done) | (with_reducible refine Blk.alloc ?_) | (with_reducible refine Blk.drew ?_) | (with_reducible refine Blk.drewN ?_)))).after hb
  have B1 : Below w.heap.size w w1 := bl (by go_grown) hb
  clear hb hE
  have hz := B1.size
  by_cases he : e = 0
  · subst he
    have HK : Hid (s.size ≤ 512 ∧ (M.top s).1 = true ∧ (M.top s).2.wrong < 0 ∧ k = 0) := errS_ok E.out
    obtain ⟨Bp, hBp⟩ : ∃ B, M.nearB p = B := ⟨_, rfl⟩
    obtain ⟨Bd, hBd⟩ : ∃ B, M.nearB d = B := ⟨_, rfl⟩
    have HBp : Hid (M.nearB p = Bp) := hBp
    have HBd : Hid (M.nearB d = Bd) := hBd
    clear hBp hBd
    obtain ⟨a0, a1, a2, af, al⟩ := q0.three
    go_wp2_with fail
    refine (bounded_is p _ Bp HBp).mono ?_
    rintro rr w2 ⟨rfl, hb⟩
    replace q0 := q0.after hb
    replace q1 := q1.after hb
    have B2 : Below w.heap.size w w2 := bl B1 hb
    clear hb B1 a0 a1 a2 af al
    obtain ⟨b0, b1, b2, bf, bz⟩ := q1.three
    go_wp2_with fail
    refine (bounded_is d _ Bd HBd).mono ?_
    rintro rr w3 ⟨rfl, hb⟩
    replace q0 := q0.after hb
    replace q1 := q1.after hb
    have B3 : Below w.heap.size w w3 := bl B2 hb
    clear hb B2 b0 b1 b2 bf bz
    cases Bp
    · go_wp2
      exact bodyPost_ret (v := .tuple #[.bool false, .int .i64 0, .int .i64 0, .int .i64 5]) (by simp [results, Try.results21, go_sem]) rfl ⟨false, 0, 0, 5, rfl, B3, .inr (.inl ⟨by rw [E.out], by rw [HBp.out]; rfl, rfl, rfl, rfl, rfl⟩)⟩
    cases Bd
    · go_wp2
      exact bodyPost_ret (v := .tuple #[.bool false, .int .i64 0, .int .i64 0, .int .i64 5]) (by simp [results, Try.results21, go_sem]) rfl ⟨false, 0, 0, 5, rfl, B3, .inr (.inl ⟨by rw [E.out], by rw [HBp.out, HBd.out]; rfl, rfl, rfl, rfl, rfl⟩)⟩
    have hp := (M.nearB_iff p).1 HBp.out
    have hd := (M.nearB_iff d).1 HBd.out
    go_wp2_with fail
    refine (leaves_any s _ HK.out.1 HK.out.2.1).mono ?_
    rintro rr w4 ⟨x, n, cap, rfl, hO, hb⟩
    have O4 : Hid (w4.ownsRow w3.heap.size 114 7 (.slice x n cap) (M.top s).2.leaves.length (flat (M.top s).2.leaves)) := hO
    replace q0 := q0.after hb
    replace q1 := q1.after hb
    have B4 : Below w.heap.size w w4 := bl B3 hb
    clear hb B3 hO
    obtain ⟨a0, a1, a2, af, al⟩ := q0.three
    obtain ⟨b0, b1, b2, bf, bz⟩ := q1.three
    go_wp2_with fail
    refine (rtrace_any x n cap _ (M.top s).2.leaves p d _ O4.out (leaves_le HK.out.1) hp hd (M.top_inv s).bx).mono ?_
    rintro rr w5 ⟨f, a, b, rfl, hG, hb⟩
    have HG : Hid (M.EntG (M.US p d (M.top s).2.leaves) f a b) := hG
    have B5 : Below w.heap.size w w5 := bl B4 hb
    clear hb B4 O4 a0 a1 a2 af al b0 b1 b2 bf bz q0 q1 hG
    go_wp2
    exact bodyPost_ret (v := .tuple #[.bool f, .int .i64 a, .int .i64 b, .int .i64 0]) (by simp [results, Try.results21, go_sem]) rfl ⟨f, a, b, 0, rfl, B5, .inr (.inr ⟨by rw [E.out], by rw [HBp.out, HBd.out]; rfl, HG.out, rfl⟩)⟩
  · have t : (e != 0) = true := by rw [bne_iff_ne]; exact he
    have HE : Hid (e ≠ 0) := he
    clear he
    go_wp2
    exact bodyPost_ret (v := .tuple #[.bool false, .int .i64 0, .int .i64 0, .int .i64 e]) (by simp [results, Try.results21, go_sem]) rfl ⟨false, 0, 0, e, rfl, B1, .inl ⟨by rw [E.out]; exact HE.out, rfl, rfl, rfl, by rw [E.out]⟩⟩

set_option maxHeartbeats 2000000 in
theorem traces_any (s : ByteArray) (p d : M.V3) (w : World) (hm : s.size ≤ maxLen) :
    Calls Try.prog 6 #[.string s, .agg #[.int .i64 p.x, .int .i64 p.y, .int .i64 p.z], .agg #[.int .i64 d.x, .int .i64 d.y, .int .i64 d.z]] w fun e w' => e = .returned (.bool true) ∧ Below w.heap.size w w' := by
  go_enter Try.func6, Try.ntmps6
  go_wp2_with fail
  refine (trace_any s p d _ hm).mono ?_
  rintro rr w1 ⟨f, n, k, e, rfl, hb, h1⟩
  have q0 := (show Blk _ w.heap.size #[.int .i64 p.x, .int .i64 p.y, .int .i64 p.z] 27 from (by repeat' (first | (with_reducible assumption) | (refine Blk.new ?_; (first | (simp; done) | rfl); done) | (with_reducible refine Blk.alloc ?_) | (with_reducible refine Blk.drew ?_) | (with_reducible refine Blk.drewN ?_)))).after hb
  have q1 := (show Blk _ (w.heap.size + 1) #[.int .i64 d.x, .int .i64 d.y, .int .i64 d.z] 27 from (by repeat' (first | (with_reducible assumption) | (refine Blk.new ?_; (first | (simp; done) | rfl); done) | (with_reducible refine Blk.alloc ?_) | (with_reducible refine Blk.drew ?_) | (with_reducible refine Blk.drewN ?_)))).after hb
  have B1 : Below w.heap.size w w1 := bl (by go_grown) hb
  obtain ⟨a0, a1, a2, af, al⟩ := q0.three
  obtain ⟨b0, b1, b2, bf, bz⟩ := q1.three
  have H1 := hid h1
  clear hb h1
  go_wp2_with fail
  refine (rtrace2_any s p d _ hm).mono ?_
  rintro rr w2 ⟨f2, n2, k2, e2, rfl, hb, h2⟩
  have B2 : Below w.heap.size w w2 := bl B1 hb
  have hzz : f = f2 ∧ n = n2 ∧ k = k2 ∧ e = e2 := by
    rcases H1.out with ⟨a, b, c, c', c''⟩ | ⟨a, b, c, d, d', d''⟩ | ⟨a, b, c, d⟩ <;> rcases h2 with ⟨x, y, z, z', z''⟩ | ⟨x, y, z, t, t', t''⟩ | ⟨x, y, z, t⟩
    · exact ⟨b.trans y.symm, by omega, by omega, by omega⟩
    · exact absurd x a
    · exact absurd x a
    · exact absurd a x
    · exact ⟨c.trans z.symm, by omega, by omega, by omega⟩
    · rw [b] at y; cases y
    · exact absurd a x
    · rw [b] at y; cases y
    · obtain ⟨u1, u2, u3⟩ := c.one z; exact ⟨u1, u2, u3, by omega⟩
  obtain ⟨rfl, rfl, rfl, rfl⟩ := hzz
  clear hb h2 H1 B1 a0 a1 a2 af al q0 q1 b0 b1 b2 bf bz
  go_wp2
  go_ret
  exact ⟨ret_bool (by simp), B2⟩

end Go.Proofs.Ytonmihojfcjmjaa
