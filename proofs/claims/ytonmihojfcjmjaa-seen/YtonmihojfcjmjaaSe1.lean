/- Two players on a map of two zones: contracts of the statement's helpers. -/
import Derived.Test.YtonmihojfcjmjaaPg6
import Derived.Test.YtonmihojfcjmjaaSeM
namespace Go.Proofs.Ytonmihojfcjmjaa
open Go.RowKit
set_option linter.unusedVariables false
attribute [local go_sem] cell_set_off cell_set_blk
attribute [local go_sem ↓] big65 big65'

theorem tmod_pick {c n : Int} (hn : 0 < n) (h : c < 0) : 0 ≤ -(c + 1).tmod n ∧ -(c + 1).tmod n < n := by
  have e : -(c + 1).tmod n = (-(c + 1)) % n := by rw [← Int.neg_tmod, Int.tmod_eq_emod_of_nonneg (by omega)]
  rw [e]
  exact ⟨Int.emod_nonneg _ (by omega), Int.emod_lt_of_pos _ hn⟩

set_option maxHeartbeats 1000000 in
theorem pick255 (c : Int) (w : World) (h1 : -9223372036854775808 ≤ c) (h2 : c ≤ 9223372036854775807) :
    Calls Try.prog 22 #[.int .i64 c, .int .i64 255] w fun e w' => (∃ r : Int, e = .returned (.int .i64 r) ∧ 0 ≤ r ∧ r < 255) ∧ w' = w := by
  by_cases h : c < 0
  · go_enter Try.func22, Try.ntmps22
    go_wp2
    go_ret
    exact ⟨⟨_, rfl, (tmod_pick (by omega) h).1, (tmod_pick (by omega) h).2⟩, rfl⟩
  · go_enter Try.func22, Try.ntmps22
    go_wp2
    go_ret
    exact ⟨⟨_, rfl, by omega, by omega⟩, rfl⟩

set_option maxHeartbeats 1000000 in
theorem pickSize (c : Int) (w : World) (h1 : -9223372036854775808 ≤ c) (h2 : c ≤ 9223372036854775807) :
    Calls Try.prog 22 #[.int .i64 c, .int .i64 4097] w fun e w' => (∃ r : Int, e = .returned (.int .i64 r) ∧ 0 ≤ r ∧ r ≤ 4096) ∧ w' = w := by
  by_cases h : c < 0
  · go_enter Try.func22, Try.ntmps22
    go_wp2
    go_ret
    exact ⟨⟨_, rfl, (tmod_pick (by omega) h).1, by have := (tmod_pick (n := 4097) (by omega) h).2; omega⟩, rfl⟩
  · go_enter Try.func22, Try.ntmps22
    go_wp2
    go_ret
    exact ⟨⟨_, rfl, by omega, by omega⟩, rfl⟩

set_option maxRecDepth 100000 in
set_option maxHeartbeats 2000000 in
theorem entry_any (i : Nat) (p : M.V3) (w : World) (hi : i < 8) (hp : M.InB M.cubeLo M.cubeHi p) :
    Calls Try.prog 33 #[.int .i64 i, .agg #[.int .i64 p.x, .int .i64 p.y, .int .i64 p.z]] w fun e w' => e = .returned (.string ⟨(((M.PSeat.empty 0).give p).row i).toArray⟩) ∧ Below w.heap.size w w' := by
  obtain ⟨p1, p2, p3, p4, p5, p6⟩ := hp
  simp only [M.cubeLo, M.cubeHi] at p1 p2 p3 p4 p5 p6
  have i0 : (i : Int) < 8 := by omega
  have E : Hid ((⟨([(i : Int), 1, 100, p.x % 256, p.x / 256, p.y % 256, p.y / 256, p.z % 256, p.z / 256].map M.b8).toArray⟩ : ByteArray) = ⟨(((M.PSeat.empty 0).give p).row i).toArray⟩) := by
    unfold Hid M.PSeat.row M.twoP
    simp [b8_mod]
    exact ⟨rfl, rfl, rfl, rfl, rfl, rfl, rfl, rfl⟩
  have hconv := bytes_back (W := (w.alloc (.cells #[.int .i64 p.x, .int .i64 p.y, .int .i64 p.z] 27)).alloc (.cells #[.int .u8 (i : Int), .int .u8 1, .int .u8 100, .int .u8 (p.x % 256), .int .u8 (p.x / 256), .int .u8 (p.y % 256), .int .u8 (p.y / 256), .int .u8 (p.z % 256), .int .u8 (p.z / 256)] 5)) (g := w.heap.size + 1) (xs := [(i : Int), 1, 100, p.x % 256, p.x / 256, p.y % 256, p.y / 256, p.z % 256, p.z / 256]) (Blk.new (by simp)) (by intro x hx; simp at hx; omega) 9 rfl
  go_enter Try.func33, Try.ntmps33
  go_wp2
  go_ret
  exact ⟨ret_str E.out, by go_grown⟩

set_option maxRecDepth 100000 in
set_option maxHeartbeats 1000000 in
theorem sConnect_any (b : Nat) (x : Option Addr) (n cap : Nat) (ps : Nat → Bool) (ls : List M.Lf) (g : M.PGame) (p : M.V3) (w : World) (h : Pg w b (.slice x n cap) ps g) (hown : w.ownsRow 0 117 7 (.slice x n cap) ls.length (flat ls)) (hl : ls.length ≤ 512) (hg : ∀ j, j < 8 → 0 ≤ (g.seat j).gen ∧ (g.seat j).gen ≤ 255) (F : Int × Int × M.PGame) (hF : Hid (g.connect (M.inCube p && decide (0 ≤ M.zP p ls (-1))) p = F)) :
    Calls Try.prog 57 #[.pointer (some ⟨b, 0, none⟩), .agg #[.int .i64 p.x, .int .i64 p.y, .int .i64 p.z]] w fun e w' => e = .returned (.tuple #[.int .i64 F.1, .int .i64 F.2.1]) ∧ Pg w' b (.slice x n cap) ps F.2.2 ∧ On b w w' := by
  have HP := hid h
  have HO := hid hown
  have HG := hid hg
  have hlt := h.lt
  clear h hown hg
  go_enter Try.func57, Try.ntmps57
  go_wp2_with fail
  obtain ⟨W, hW⟩ : ∃ W, w.alloc (.cells #[.int .i64 p.x, .int .i64 p.y, .int .i64 p.z] 27) = W := ⟨_, rfl⟩
  have q0 : Blk W w.heap.size #[.int .i64 p.x, .int .i64 p.y, .int .i64 p.z] 27 := by rw [← hW]; exact Blk.new rfl
  have B0 : Below w.heap.size w W := by rw [← hW]; go_grown
  rw [hW]
  clear hW
  have PA := hid (HP.out.after B0)
  have OA := hid (own_of HO.out (fun k hk => B0.block k (own_lt HO.out hk)))
  have Q0 := hid q0
  obtain ⟨a0, a1, a2, af, al⟩ := q0.three
  go_region_held3 (fun w' => w'.cell? ⟨w.heap.size, 0, none⟩ = some (.int .i64 p.x) ∧ w'.cell? ⟨w.heap.size, 1, none⟩ = some (.int .i64 p.y) ∧ w'.cell? ⟨w.heap.size, 2, none⟩ = some (.int .i64 p.z)) (go_keep)
    ((go_at_call 78; refine (pConnect_any b x n cap ps ls g p W.drew (PA.out.of rfl PA.out.lt) (own_of OA.out (fun k hk => rfl)) hl HG.out).mono ?_; rw [hF.out]; rintro e w1 ⟨rfl, hp, ho⟩; obtain ⟨m0, m1, m2, mf, mz⟩ := (Q0.out.on ho.undrew (by omega)).three))
  have O1 : On b w w1 := (On.below B0).trans ho.undrew
  have HP1 := hid hp
  clear hp ho m0 m1 m2 mf mz a0 a1 a2 af al
  go_wp2
  go_ret2
  exact ⟨rfl, HP1.out, O1⟩

set_option maxHeartbeats 1000000 in
theorem sSnap_yes (b i : Nat) (x : Option Addr) (n cap : Nat) (ps : Nat → Bool) (ls : List M.Lf) (g : M.PGame) (w : World) (h : Pg w b (.slice x n cap) ps g) (hown : w.ownsRow 0 117 7 (.slice x n cap) ls.length (flat ls)) (hl : ls.length ≤ 512)
    (hi : i < 8) (ht : (g.seat i).taken = true) (hs : ∀ j, j < 8 → M.PSane (g.seat j)) (hr : (g.seat i).ready ≤ g.tick + 3) (t0 : 0 ≤ g.tick) (t1 : g.tick ≤ 3000) :
    Calls Try.prog 34 #[.pointer (some ⟨b, 0, none⟩), .int .i64 i] w fun e w' => e = .returned (.tuple #[.string ⟨(g.snap ls ps i).toArray⟩, .int .i64 0]) ∧ Below w.heap.size w w' := by
  have H := hid (pSnap_yes b i x n cap ps ls g w h hown hl hi ht hs hr t0 t1)
  clear h hown hs hr t0 t1 ht
  go_enter Try.func34, Try.ntmps34
  go_wp2_with fail
  refine H.out.mono ?_
  rintro e w1 ⟨rfl, hb⟩
  go_wp2
  go_ret2
  exact ⟨rfl, hb⟩

/-- The game of two. -/
def M.duel (p q : M.V3) : M.PGame := (M.PGame.fresh.put 0 ((M.PSeat.empty 0).give p)).put 1 ((M.PSeat.empty 0).give q)
theorem duel1 (p : M.V3) : M.PGame.fresh.connect true p = (0, 0, M.PGame.fresh.put 0 ((M.PSeat.empty 0).give p)) := rfl
theorem duel2 (p q : M.V3) : (M.PGame.fresh.put 0 ((M.PSeat.empty 0).give p)).connect true q = (1, 0, M.duel p q) := rfl

/-- What pairOf gives back, where there are two. -/
def PairPost2 (ls : List M.Lf) (ps : Nat → Bool) (p q : M.V3) (w : World) (r : Ending) (w' : World) : Prop := Below w.heap.size w w' ∧
  ∃ (b : Nat) (x : Option Addr) (n cap : Nat), r = .returned (.tuple #[.pointer (some ⟨b, 0, none⟩), .bool true]) ∧ Pg w' b (.slice x n cap) ps (M.duel p q) ∧ w'.ownsRow 0 117 7 (.slice x n cap) ls.length (flat ls)

set_option maxRecDepth 100000 in
set_option maxHeartbeats 2000000 in
theorem pairOf_any (s : ByteArray) (p q : M.V3) (w : World) (hm : s.size ≤ 512) (he : M.errS s = (0, 0)) (ls : List M.Lf) (hls : (M.top s).2.leaves = ls) (hl : ls.length ≤ 512) (hp : (M.inCube p && decide (0 ≤ M.zP p ls (-1))) = true) (hq : (M.inCube q && decide (0 ≤ M.zP q ls (-1))) = true) :
    Calls Try.prog 32 #[.string s, .agg #[.int .i64 p.x, .int .i64 p.y, .int .i64 p.z], .agg #[.int .i64 q.x, .int .i64 q.y, .int .i64 q.z]] w (PairPost2 ls (M.prs s) p q w) := by
  have E : Hid (M.errS s = (0, 0)) := he
  have HL : Hid ((M.top s).2.leaves = ls) := hls
  have F1 : Hid (M.PGame.fresh.connect (M.inCube p && decide (0 ≤ M.zP p ls (-1))) p = (0, 0, M.PGame.fresh.put 0 ((M.PSeat.empty 0).give p))) := by unfold Hid; rw [hp]; rfl
  have F2 : Hid ((M.PGame.fresh.put 0 ((M.PSeat.empty 0).give p)).connect (M.inCube q && decide (0 ≤ M.zP q ls (-1))) q = (1, 0, M.duel p q)) := by unfold Hid; rw [hq]; rfl
  clear he hls hp hq
  go_enter Try.func32, Try.ntmps32
  go_wp2_with fail
  refine (new_any s _ (by unfold maxLen; omega)).mono ?_
  rintro rr w1 ⟨hb, h1⟩
  have q1 := (show Blk _ w.heap.size #[.int .i64 p.x, .int .i64 p.y, .int .i64 p.z] 27 from (by repeat' (first | (with_reducible assumption) | (refine Blk.new ?_; (first | (simp; done) | rfl); done) | (with_reducible refine Blk.alloc ?_) | (with_reducible refine Blk.drew ?_) | (with_reducible refine Blk.drewN ?_)))).after hb
  have q2 := (show Blk _ (w.heap.size + 1) #[.int .i64 q.x, .int .i64 q.y, .int .i64 q.z] 27 from (by repeat' (first | (with_reducible assumption) | (refine Blk.new ?_; (first | (simp; done) | rfl); done) | (with_reducible refine Blk.alloc ?_) | (with_reducible refine Blk.drew ?_) | (with_reducible refine Blk.drewN ?_)))).after hb
  replace hb : Below w.heap.size w w1 := bl (by go_grown) hb
  obtain ⟨b, x, n, cap, rfl, hbb, hP, hO, hne⟩ : ∃ (b : Nat) (x : Option Addr) (n cap : Nat), rr = .returned (.tuple #[.pointer (some ⟨b, 0, none⟩), .int .i64 0]) ∧ w.heap.size + 2 ≤ b ∧ Pg w1 b (.slice x n cap) (M.prs s) M.PGame.fresh ∧ w1.ownsRow 0 117 7 (.slice x n cap) ls.length (flat ls) ∧ (∀ k, (Value.slice x n cap).ownBlock = some k → k ≠ b) := by
    rcases h1 with ⟨h, _⟩ | ⟨_, b, x, n, cap, e, h2, h3, h4, h5⟩
    · rw [E.out] at h; exact absurd rfl h
    · rw [HL.out] at h4; exact ⟨b, x, n, cap, e, by simp at h2; omega, h3, h4, h5⟩
  clear h1
  have HP := hid hP
  have HO := hid hO
  have HN := hid hne
  clear hP hO hne
  obtain ⟨a0, a1, a2, af, al⟩ := q1.three
  go_wp2_with fail
  refine (sConnect_any b x n cap (M.prs s) ls M.PGame.fresh p _ HP.out HO.out hl (fun j _ => ⟨Int.le_refl _, by show (0 : Int) ≤ 255; decide⟩) _ F1).mono ?_
  rintro rr w2 ⟨rfl, hp2, ho2⟩
  have B2 : Below w.heap.size w w2 := On.toBelow hb hb.size ho2 (by omega)
  replace q2 := q2.on ho2 (by omega)
  clear a0 a1 a2 af al
  obtain ⟨a0, a1, a2, af, al⟩ := q2.three
  have HP2 := hid hp2
  have HO2 := hid (own_of HO.out (fun g hg => ho2.block g (own_lt HO.out hg) (HN.out g hg)))
  clear hp2 ho2 HP HO hb
  go_wp2_with fail
  refine (sConnect_any b x n cap (M.prs s) ls (M.PGame.fresh.put 0 ((M.PSeat.empty 0).give p)) q _ HP2.out HO2.out hl (fun j hj => by
    by_cases e : j = 0
    · subst e; exact ⟨by show (0 : Int) ≤ 1; decide, by show (1 : Int) ≤ 255; decide⟩
    · rw [M.PGame.put_ne _ _ e]; exact ⟨Int.le_refl _, by show (0 : Int) ≤ 255; decide⟩) _ F2).mono ?_
  rintro rr w3 ⟨rfl, hp3, ho3⟩
  have B3 : Below w.heap.size w w3 := On.toBelow B2 B2.size ho3 (by omega)
  clear a0 a1 a2 af al
  have HP3 := hid hp3
  have HO3 := hid (own_of HO2.out (fun g hg => ho3.block g (own_lt HO2.out hg) (HN.out g hg)))
  clear hp3 ho3 HP2 HO2 B2
  go_wp2
  go_ret2
  exact ⟨B3, b, x, n, cap, rfl, HP3.out, HO3.out⟩

end Go.Proofs.Ytonmihojfcjmjaa
