/- The map of two zones: its meaning. No Go in sight. -/
import Derived.Test.YtonmihojfcjmjaaPairM
import Derived.Test.YtonmihojfcjmjaaZoneM
namespace Go.Proofs.Ytonmihojfcjmjaa.M
set_option linter.unusedVariables false

def seS (b1 b2 : UInt8) : ByteArray := ⟨#[120, b1, b2, 51, 48]⟩
def seT (b1 b2 : UInt8) : ByteArray := ⟨#[120, b1, b2, 51, 48, 59, 48, 51]⟩
def seL (x : Int) : List Lf := [⟨⟨0, 0, 0⟩, ⟨16 * x, 4096, 4096⟩, 3⟩, ⟨⟨16 * x, 0, 0⟩, ⟨4096, 4096, 4096⟩, 0⟩]

theorem se_tree {s : ByteArray} {b1 b2 : UInt8} {x : Int} (e0 : byteAt s 0 = 120) (e1 : byteAt s 1 = (b1.toNat : Int)) (e2 : byteAt s 2 = (b2.toNat : Int)) (e3 : byteAt s 3 = 51) (e4 : byteAt s 4 = 48)
    (x1 : 1 ≤ x) (x2 : x ≤ 255) (h1 : hexV (b1.toNat : Int) = x / 16) (h2 : hexV (b2.toNat : Int) = x % 16) : top s = (true, ⟨5, 1, -1, seL x⟩) := by
  have pa : planeAt s 0 = 16 * x := by unfold planeAt; rw [show (0 + 1 : Nat) = 1 from rfl, show (0 + 2 : Nat) = 2 from rfl, e1, e2, h1, h2]; omega
  have c0 : st0.cut s cubeLo cubeHi = ⟨3, 1, -1, []⟩ := by
    unfold St.cut
    rw [show st0.place = 0 from rfl, e0, pa]
    have : insideB cubeLo cubeHi 120 (16 * x) = true := by unfold insideB getAx cubeLo cubeHi; simp; omega
    rw [this]
    rfl
  have l0 : lowHi s st0 cubeHi = ⟨16 * x, 4096, 4096⟩ := by unfold lowHi; rw [show st0.place = 0 from rfl, e0, pa]; rfl
  have u0 : upLo s st0 cubeLo = ⟨16 * x, 0, 0⟩ := by unfold upLo; rw [show st0.place = 0 from rfl, e0, pa]; rfl
  have t1 : tree s 11 cubeLo ⟨16 * x, 4096, 4096⟩ ⟨3, 1, -1, []⟩ = (true, ⟨4, 1, -1, [⟨⟨0, 0, 0⟩, ⟨16 * x, 4096, 4096⟩, 3⟩]⟩) := by
    rw [tree_leaf (by show leafB (byteAt s 3) = true; rw [e3]; rfl)]
    show (true, St.leaf ⟨3, 1, -1, []⟩ cubeLo ⟨16 * x, 4096, 4096⟩ (byteAt s 3)) = _
    rw [e3]
    rfl
  have t2 : tree s 11 ⟨16 * x, 0, 0⟩ cubeHi ⟨4, 1, -1, [⟨⟨0, 0, 0⟩, ⟨16 * x, 4096, 4096⟩, 3⟩]⟩ = (true, ⟨5, 1, -1, seL x⟩) := by
    rw [tree_leaf (by show leafB (byteAt s 4) = true; rw [e4]; rfl)]
    show (true, St.leaf _ _ _ (byteAt s 4)) = _
    rw [e4]
    rfl
  show tree s 12 cubeLo cubeHi st0 = _
  rw [tree_plane (by show leafB (byteAt s 0) = false; rw [e0]; rfl) (by show planeB (byteAt s 0) = true; rw [e0]; rfl) (by show ¬ hexV (byteAt s 1) < 0; rw [e1, h1]; omega) (by show ¬ hexV (byteAt s 2) < 0; rw [e2, h2]; omega)]
  rw [c0, l0, u0, t1]
  exact t2

theorem se_top {b1 b2 : UInt8} {x : Int} (x1 : 1 ≤ x) (x2 : x ≤ 255) (h1 : hexV (b1.toNat : Int) = x / 16) (h2 : hexV (b2.toNat : Int) = x % 16) : top (seS b1 b2) = (true, ⟨5, 1, -1, seL x⟩) :=
  se_tree (b1 := b1) (b2 := b2) rfl rfl rfl rfl rfl x1 x2 h1 h2
theorem se_top2 {b1 b2 : UInt8} {x : Int} (x1 : 1 ≤ x) (x2 : x ≤ 255) (h1 : hexV (b1.toNat : Int) = x / 16) (h2 : hexV (b2.toNat : Int) = x % 16) : top (seT b1 b2) = (true, ⟨5, 1, -1, seL x⟩) :=
  se_tree (b1 := b1) (b2 := b2) rfl rfl rfl rfl rfl x1 x2 h1 h2

theorem err_of {s : ByteArray} {p n : Nat} {ls : List Lf} (h : top s = (true, ⟨p, n, -1, ls⟩)) (hs : s.size ≤ 512) (hp : pairsF s (s.size + 1) p = none) : errS s = (0, 0) := by
  unfold errS
  rw [h, if_neg (by omega), if_neg (by simp)]
  show (match pairsF s (s.size + 1) p with | some k => ((3 : Int), (k : Int)) | none => if (0 : Int) ≤ -1 then (4, -1) else (0, 0)) = _
  rw [hp]
  rfl

theorem se_err {b1 b2 : UInt8} {x : Int} (h : top (seS b1 b2) = (true, ⟨5, 1, -1, seL x⟩)) : errS (seS b1 b2) = (0, 0) := err_of h (by show 5 ≤ 512; omega) (pairsF_end (by show 5 ≤ 5; omega))
theorem se_step (b1 b2 : UInt8) : pairStep (seT b1 b2) 5 = none := by
  unfold pairStep
  rw [show byteAt (seT b1 b2) 5 = 59 from rfl, show byteAt (seT b1 b2) (5 + 1) = 48 from rfl, show byteAt (seT b1 b2) (5 + 2) = 51 from rfl]
  decide
theorem se_err2 {b1 b2 : UInt8} {x : Int} (h : top (seT b1 b2) = (true, ⟨5, 1, -1, seL x⟩)) : errS (seT b1 b2) = (0, 0) :=
  err_of h (by show 8 ≤ 512; omega) (by rw [pairsF_good (by show 5 < 8; omega) (se_step b1 b2)]; exact pairsF_end (by show 8 ≤ 8; omega))

theorem se_prs {b1 b2 : UInt8} {x : Int} (h : top (seS b1 b2) = (true, ⟨5, 1, -1, seL x⟩)) : prs (seS b1 b2) = noPairs := by
  unfold prs
  rw [h]
  exact pairsT_end (by show 5 ≤ 5; omega)
theorem se_prs2 {b1 b2 : UInt8} {x : Int} (h : top (seT b1 b2) = (true, ⟨5, 1, -1, seL x⟩)) : prs (seT b1 b2) = pset noPairs 0 3 := by
  unfold prs
  rw [h]
  show pairsT (seT b1 b2) (8 + 1) 5 noPairs = _
  rw [pairsT_good (by show 5 < 8; omega) (se_step b1 b2), pairsT_end (by show 8 ≤ 8; omega)]
  rfl

/-- The zone of a point of the cube. -/
theorem se_zone {x : Int} {p : V3} (x1 : 1 ≤ x) (x2 : x ≤ 255) (hp : InB cubeLo cubeHi p) : zP p (seL x) (-1) = if p.x < 16 * x then 3 else 0 := by
  obtain ⟨a1, a2, a3, a4, a5, a6⟩ := hp
  simp only [cubeLo, cubeHi] at a1 a2 a3 a4 a5 a6
  unfold seL
  by_cases c1 : p.x < 16 * x
  · rw [if_pos c1, zP, if_pos (holdsB2_iff.2 ⟨a1, by dsimp only; omega, a3, a4, a5, a6⟩), if_neg (by show ¬ (3 : Int) = -1; omega), zP, if_neg (fun h => by have := (holdsB2_iff.1 h).x1; dsimp only at this; omega), zP]
  · rw [if_neg c1]
    by_cases c2 : p.x ≤ 16 * x
    · rw [zP, if_pos (holdsB2_iff.2 ⟨a1, c2, a3, a4, a5, a6⟩), if_neg (by show ¬ (3 : Int) = -1; omega), zP, if_pos (holdsB2_iff.2 ⟨by dsimp only; omega, a2, a3, a4, a5, a6⟩), if_neg (by show ¬ (0 : Int) = -1; omega), zP]
    · rw [zP, if_neg (fun h => c2 (holdsB2_iff.1 h).x2), zP, if_pos (holdsB2_iff.2 ⟨by dsimp only; omega, a2, a3, a4, a5, a6⟩), if_neg (by show ¬ (0 : Int) = -1; omega), zP]

end Go.Proofs.Ytonmihojfcjmjaa.M
