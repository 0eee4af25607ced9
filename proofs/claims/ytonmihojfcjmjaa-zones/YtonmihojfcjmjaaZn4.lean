/- Zone, the document's Zone; the law Zones. -/
import Derived.Test.YtonmihojfcjmjaaZn3
import Derived.Test.YtonmihojfcjmjaaRef6
namespace Go.Proofs.Ytonmihojfcjmjaa
open Go.RowKit
set_option linter.unusedVariables false
attribute [local go_sem] cell_set_off cell_set_blk
attribute [local go_sem ↓] big65 big65'

theorem errS_ok {s : ByteArray} {k : Int} (h : M.errS s = (0, k)) : s.size ≤ 512 ∧ (M.top s).1 = true ∧ (M.top s).2.wrong < 0 ∧ k = 0 := by
  unfold M.errS at h
  by_cases h1 : 512 < s.size
  · rw [if_pos h1] at h; cases h
  rw [if_neg h1] at h
  by_cases h2 : (M.top s).1 = false
  · rw [if_pos h2] at h; cases h
  rw [if_neg h2] at h
  cases h3 : M.pairsF s (s.size + 1) (M.top s).2.place with
  | some k => rw [h3] at h; cases h
  | none =>
    rw [h3] at h
    dsimp only at h
    by_cases h4 : 0 ≤ (M.top s).2.wrong
    · rw [if_pos h4] at h; cases h
    · rw [if_neg h4] at h
      cases h
      exact ⟨by omega, by simpa using h2, by omega, rfl⟩

theorem leaves_le {s : ByteArray} (h : s.size ≤ 512) : (M.top s).2.leaves.length ≤ 512 := by
  have h1 := (M.top_inv s).lv
  have h2 := (M.top_inv s).pl
  omega

theorem cub_in {p : M.V3} (h : M.cubB p = true) : M.InB M.cubeLo M.cubeHi p := by
  unfold M.cubB at h
  simp only [Bool.and_eq_true, decide_eq_true_eq] at h
  obtain ⟨⟨⟨⟨⟨a, b⟩, c⟩, d⟩, e⟩, f⟩ := h
  exact ⟨a, b, c, d, e, f⟩

/-- What Zone gives back. -/
def ZonePost (s : ByteArray) (p : M.V3) (w : World) (r : Ending) (w' : World) : Prop := ∃ z e : Int, r = .returned (.tuple #[.int .i64 z, .int .i64 e]) ∧ Below w.heap.size w w' ∧
  (((M.errS s).1 ≠ 0 ∧ z = 0 ∧ e = (M.errS s).1) ∨ ((M.errS s).1 = 0 ∧ M.cubB p = false ∧ z = 0 ∧ e = 5) ∨ ((M.errS s).1 = 0 ∧ M.cubB p = true ∧ z = M.zP p (M.top s).2.leaves (-1) ∧ e = 0))

theorem holds_cube (p : M.V3) (w : World) (B : Bool) (hB : Hid (M.cubB p = B)) :
    Calls Try.prog 39 #[.agg #[.int .i64 0, .int .i64 0, .int .i64 0, .int .i64 4096, .int .i64 4096, .int .i64 4096], .agg #[.int .i64 p.x, .int .i64 p.y, .int .i64 p.z]] w fun e w' => e = .returned (.bool B) ∧ Below w.heap.size w w' := by
  rw [← hB.out]
  exact holds_any M.cubeLo M.cubeHi p w

set_option maxHeartbeats 2000000 in
theorem zone_any (s : ByteArray) (p : M.V3) (w : World) (hm : s.size ≤ maxLen) :
    Calls Try.prog 14 #[.string s, .agg #[.int .i64 p.x, .int .i64 p.y, .int .i64 p.z]] w (ZonePost s p w) := by
  go_enter Try.func14, Try.ntmps14
  go_wp2_with fail
  refine (read_any s _ hm).mono ?_
  rintro rr w1 ⟨e, k, cs, rfl, hsz, hE, hO, hb⟩
  have E : Hid (M.errS s = (e, k)) := hE
  have q0 := (show Blk _ w.heap.size #[.int .i64 p.x, .int .i64 p.y, .int .i64 p.z] 27 from (by repeat' (first | (with_reducible assumption) | (refine Blk.new ?_; (first | (simp; done) | rfl); done) | (with_reducible refine Blk.alloc ?_) | (with_reducible refine Blk.drew ?_) | (with_reducible refine Blk.drewN ?_)))).after hb
  have B1 : Below w.heap.size w w1 := bl (by go_grown) hb
  clear hb hE
  obtain ⟨v1, hst, qm, hbv, hlv⟩ := keep_map w1 cs hsz
  have hs65 := hsz.1
  replace q0 := q0.after hbv
  have B1v : Below w.heap.size w v1 := bl B1 hbv
  have hz := B1v.size
  by_cases he : e = 0
  · subst he
    obtain ⟨x, n, cap, hcs, hown⟩ := hO rfl
    have c00 : cs[0]? = some (.slice x n cap) := hcs.at0
    have HO : Hid (v1.ownsRow 0 117 7 (.slice x n cap) (M.top s).2.leaves.length (flat (M.top s).2.leaves)) := own_of hown (fun g hg => hbv.block g (own_lt hown hg))
    clear hown hcs
    obtain ⟨hs, _, _, _⟩ := errS_ok E.out
    clear hO
    obtain ⟨B, hB⟩ : ∃ B, M.cubB p = B := ⟨_, rfl⟩
    have HB : Hid (M.cubB p = B) := hB
    clear hB
    go_wp2_with fail
    refine (cube_any _).mono ?_
    rintro rr w2 ⟨rfl, hb⟩
    have q1 := qm.after hb
    replace q0 := q0.after hb
    have O2 : Hid (w2.ownsRow 0 117 7 (.slice x n cap) (M.top s).2.leaves.length (flat (M.top s).2.leaves)) := own_of HO.out (fun g hg => hb.block g (own_lt HO.out hg))
    have B2 : Below w.heap.size w w2 := bl B1v hb
    clear hb HO B1
    obtain ⟨a0, a1, a2, af, al⟩ := q0.three
    go_wp2_with fail
    refine (holds_cube p _ B HB).mono ?_
    rintro rr w3 ⟨rfl, hb⟩
    replace q1 := q1.alloc.after hb
    replace q0 := q0.alloc.after hb
    have O3 : Hid (w3.ownsRow 0 117 7 (.slice x n cap) (M.top s).2.leaves.length (flat (M.top s).2.leaves)) := own_of O2.out (fun g hg => by rw [hb.block g (by have := own_lt O2.out hg; simp; omega), Below.heap_alloc _ _ _ (own_lt O2.out hg)])
    have B3 : Below w.heap.size w w3 := bl (by have := B2.size; go_grown) hb
    clear hb O2 B2 a0 a1 a2 af al
    obtain ⟨a0, a1, a2, af, al⟩ := q0.three
    have c0 := big_blk (P := Try.prog) q1 hs65
    cases B
    · go_wp2
      go_ret2
      exact ⟨0, 5, rfl, B3, .inr (.inl ⟨by rw [E.out], HB.out, rfl, rfl⟩)⟩
    · go_wp2_with fail
      refine (mapZone_any cs x n cap 0 (M.top s).2.leaves p _ c00 O3.out (leaves_le hs)).mono ?_
      rintro rr w4 ⟨rfl, hb⟩
      have B4 : Below w.heap.size w w4 := bl B3 hb
      clear hb B3 O3 a0 a1 a2 af al c0 q0 q1
      go_wp2
      go_ret2
      exact ⟨_, 0, rfl, B4, .inr (.inr ⟨by rw [E.out], HB.out, rfl, rfl⟩)⟩
  · have t : (e != 0) = true := by rw [bne_iff_ne]; exact he
    have HE : Hid (e ≠ 0) := he
    clear he hO
    clear qm
    go_wp2
    go_ret2
    exact ⟨0, e, rfl, B1v, .inl ⟨by rw [E.out]; exact HE.out, rfl, by rw [E.out]⟩⟩

set_option maxHeartbeats 2000000 in
theorem rzone2_any (s : ByteArray) (p : M.V3) (w : World) (hm : s.size ≤ maxLen) :
    Calls Try.prog 15 #[.string s, .agg #[.int .i64 p.x, .int .i64 p.y, .int .i64 p.z]] w (ZonePost s p w) := by
  go_enter Try.func15, Try.ntmps15
  go_wp2_with fail
  refine (rcheck_any s _ hm).mono ?_
  rintro rr w1 ⟨e, k, rfl, hE, hb⟩
  have E : Hid (M.errS s = (e, k)) := hE
  have q0 := (show Blk _ w.heap.size #[.int .i64 p.x, .int .i64 p.y, .int .i64 p.z] 27 from (by repeat' (first | (with_reducible assumption) | (refine Blk.new ?_; (first | (simp; done) | rfl); done) | (with_reducible refine Blk.alloc ?_) | (with_reducible refine Blk.drew ?_) | (with_reducible refine Blk.drewN ?_)))).after hb
  have B1 : Below w.heap.size w w1 := bl (by go_grown) hb
  clear hb hE
  have hz := B1.size
  by_cases he : e = 0
  · subst he
    have HK : Hid (s.size ≤ 512 ∧ (M.top s).1 = true ∧ (M.top s).2.wrong < 0 ∧ k = 0) := errS_ok E.out
    obtain ⟨B, hB⟩ : ∃ B, M.cubB p = B := ⟨_, rfl⟩
    have HB : Hid (M.cubB p = B) := hB
    clear hB
    obtain ⟨a0, a1, a2, af, al⟩ := q0.three
    go_wp2_with fail
    refine (rcube_is p _ B HB).mono ?_
    rintro rr w2 ⟨rfl, hb⟩
    replace q0 := q0.after hb
    have B2 : Below w.heap.size w w2 := bl B1 hb
    clear hb B1 a0 a1 a2 af al
    cases B
    · go_wp2
      go_ret2
      exact ⟨0, 5, rfl, B2, .inr (.inl ⟨by rw [E.out], HB.out, rfl, rfl⟩)⟩
    · go_wp2_with fail
      refine (leaves_any s _ HK.out.1 HK.out.2.1).mono ?_
      rintro rr w3 ⟨x, n, cap, rfl, hO, hb⟩
      have O3 : Hid (w3.ownsRow w2.heap.size 114 7 (.slice x n cap) (M.top s).2.leaves.length (flat (M.top s).2.leaves)) := hO
      replace q0 := q0.after hb
      have B3 : Below w.heap.size w w3 := bl B2 hb
      clear hb B2 hO
      obtain ⟨a0, a1, a2, af, al⟩ := q0.three
      have hZ : Hid (M.zR p (M.top s).2.leaves (-1) = M.zP p (M.top s).2.leaves (-1)) := (M.zones_one HK.out.2.1 HK.out.2.2.1 (cub_in HB.out)).symm
      go_wp2_with fail
      refine (zoneOf_any x n cap _ (M.top s).2.leaves p _ O3.out (leaves_le HK.out.1)).mono ?_
      rw [hZ.out]
      rintro rr w4 ⟨rfl, hb⟩
      have B4 : Below w.heap.size w w4 := bl B3 hb
      clear hb B3 O3 a0 a1 a2 af al q0
      go_wp2
      go_ret2
      exact ⟨_, 0, rfl, B4, .inr (.inr ⟨by rw [E.out], HB.out, rfl, rfl⟩)⟩
  · have t : (e != 0) = true := by rw [bne_iff_ne]; exact he
    have HE : Hid (e ≠ 0) := he
    clear he
    go_wp2
    go_ret2
    exact ⟨0, e, rfl, B1, .inl ⟨by rw [E.out]; exact HE.out, rfl, by rw [E.out]⟩⟩

set_option maxHeartbeats 2000000 in
theorem zones_any (s : ByteArray) (p : M.V3) (w : World) (hm : s.size ≤ maxLen) :
    Calls Try.prog 4 #[.string s, .agg #[.int .i64 p.x, .int .i64 p.y, .int .i64 p.z]] w fun e w' => e = .returned (.bool true) ∧ Below w.heap.size w w' := by
  go_enter Try.func4, Try.ntmps4
  go_wp2_with fail
  refine (zone_any s p _ hm).mono ?_
  rintro rr w1 ⟨z, e, rfl, hb, h1⟩
  have q0 := (show Blk _ w.heap.size #[.int .i64 p.x, .int .i64 p.y, .int .i64 p.z] 27 from (by repeat' (first | (with_reducible assumption) | (refine Blk.new ?_; (first | (simp; done) | rfl); done) | (with_reducible refine Blk.alloc ?_) | (with_reducible refine Blk.drew ?_) | (with_reducible refine Blk.drewN ?_)))).after hb
  have B1 : Below w.heap.size w w1 := bl (by go_grown) hb
  obtain ⟨a0, a1, a2, af, al⟩ := q0.three
  have H1 : Hid (((M.errS s).1 ≠ 0 ∧ z = 0 ∧ e = (M.errS s).1) ∨ ((M.errS s).1 = 0 ∧ M.cubB p = false ∧ z = 0 ∧ e = 5) ∨ ((M.errS s).1 = 0 ∧ M.cubB p = true ∧ z = M.zP p (M.top s).2.leaves (-1) ∧ e = 0)) := h1
  clear hb h1
  go_wp2_with fail
  refine (rzone2_any s p _ hm).mono ?_
  rintro rr w2 ⟨z2, e2, rfl, hb, h2⟩
  have B2 : Below w.heap.size w w2 := bl B1 hb
  have hzz : z = z2 ∧ e = e2 := by
    rcases H1.out with ⟨a, b, c⟩ | ⟨a, b, c, d⟩ | ⟨a, b, c, d⟩ <;> rcases h2 with ⟨a', b', c'⟩ | ⟨a', b', c', d'⟩ | ⟨a', b', c', d'⟩
    · exact ⟨by omega, by omega⟩
    · exact absurd a' a
    · exact absurd a' a
    · exact absurd a a'
    · exact ⟨by omega, by omega⟩
    · rw [b] at b'; cases b'
    · exact absurd a a'
    · rw [b] at b'; cases b'
    · exact ⟨c.trans c'.symm, by omega⟩
  obtain ⟨rfl, rfl⟩ := hzz
  clear hb h2 H1 B1 a0 a1 a2 af al q0
  go_wp2
  go_ret
  exact ⟨ret_bool (by simp), B2⟩

end Go.Proofs.Ytonmihojfcjmjaa
