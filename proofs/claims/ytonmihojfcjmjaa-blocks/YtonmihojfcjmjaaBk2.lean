/- The map of two solid boxes: its meaning. No Go in sight. -/
import Derived.Test.YtonmihojfcjmjaaTraceM
import Derived.Test.YtonmihojfcjmjaaZoneM
namespace Go.Proofs.Ytonmihojfcjmjaa.M
set_option linter.unusedVariables false

def bkS (b1 b2 c1 c2 : UInt8) : ByteArray := ⟨#[120, b1, b2, 35, 121, c1, c2, 53, 35]⟩
def bkL (x y : Int) : List Lf := [⟨⟨0, 0, 0⟩, ⟨16 * x, 4096, 4096⟩, -1⟩, ⟨⟨16 * x, 0, 0⟩, ⟨4096, 16 * y, 4096⟩, 5⟩, ⟨⟨16 * x, 16 * y, 0⟩, ⟨4096, 4096, 4096⟩, -1⟩]

theorem bk_top {b1 b2 c1 c2 : UInt8} {x y : Int} (x1 : 1 ≤ x) (x2 : x ≤ 255) (y1 : 1 ≤ y) (y2 : y ≤ 255) (h1 : hexV (b1.toNat : Int) = x / 16) (h2 : hexV (b2.toNat : Int) = x % 16) (h3 : hexV (c1.toNat : Int) = y / 16) (h4 : hexV (c2.toNat : Int) = y % 16) :
    top (bkS b1 b2 c1 c2) = (true, ⟨9, 2, -1, bkL x y⟩) := by
  obtain ⟨s, hs⟩ : ∃ s, bkS b1 b2 c1 c2 = s := ⟨_, rfl⟩
  have e0 : byteAt s 0 = 120 := by rw [← hs]; rfl
  have e1 : byteAt s 1 = (b1.toNat : Int) := by rw [← hs]; rfl
  have e2 : byteAt s 2 = (b2.toNat : Int) := by rw [← hs]; rfl
  have e3 : byteAt s 3 = 35 := by rw [← hs]; rfl
  have e4 : byteAt s 4 = 121 := by rw [← hs]; rfl
  have e5 : byteAt s 5 = (c1.toNat : Int) := by rw [← hs]; rfl
  have e6 : byteAt s 6 = (c2.toNat : Int) := by rw [← hs]; rfl
  have e7 : byteAt s 7 = 53 := by rw [← hs]; rfl
  have e8 : byteAt s 8 = 35 := by rw [← hs]; rfl
  rw [hs]
  have pa : planeAt s 0 = 16 * x := by unfold planeAt; rw [show (0 + 1 : Nat) = 1 from rfl, show (0 + 2 : Nat) = 2 from rfl, e1, e2, h1, h2]; omega
  have pb : planeAt s 4 = 16 * y := by unfold planeAt; rw [show (4 + 1 : Nat) = 5 from rfl, show (4 + 2 : Nat) = 6 from rfl, e5, e6, h3, h4]; omega
  have c0 : st0.cut s cubeLo cubeHi = ⟨3, 1, -1, []⟩ := by
    unfold St.cut
    rw [show st0.place = 0 from rfl, e0, pa]
    have : insideB cubeLo cubeHi 120 (16 * x) = true := by unfold insideB getAx cubeLo cubeHi; simp; omega
    rw [this]
    rfl
  have l0 : lowHi s st0 cubeHi = ⟨16 * x, 4096, 4096⟩ := by unfold lowHi; rw [show st0.place = 0 from rfl, e0, pa]; rfl
  have u0 : upLo s st0 cubeLo = ⟨16 * x, 0, 0⟩ := by unfold upLo; rw [show st0.place = 0 from rfl, e0, pa]; rfl
  have t1 : tree s 11 cubeLo ⟨16 * x, 4096, 4096⟩ ⟨3, 1, -1, []⟩ = (true, ⟨4, 1, -1, [⟨⟨0, 0, 0⟩, ⟨16 * x, 4096, 4096⟩, -1⟩]⟩) := by
    rw [tree_leaf (by show leafB (byteAt s 3) = true; rw [e3]; rfl)]
    show (true, St.leaf ⟨3, 1, -1, []⟩ cubeLo ⟨16 * x, 4096, 4096⟩ (byteAt s 3)) = _
    rw [e3]
    rfl
  have c1' : St.cut s ⟨4, 1, -1, [⟨⟨0, 0, 0⟩, ⟨16 * x, 4096, 4096⟩, -1⟩]⟩ ⟨16 * x, 0, 0⟩ cubeHi = ⟨7, 2, -1, [⟨⟨0, 0, 0⟩, ⟨16 * x, 4096, 4096⟩, -1⟩]⟩ := by
    unfold St.cut
    show St.plane _ (insideB _ _ (byteAt s 4) (planeAt s 4)) = _
    rw [e4, pb]
    have : insideB ⟨16 * x, 0, 0⟩ cubeHi 121 (16 * y) = true := by unfold insideB getAx cubeHi; simp; omega
    rw [this]
    rfl
  have l1 : lowHi s ⟨4, 1, -1, [⟨⟨0, 0, 0⟩, ⟨16 * x, 4096, 4096⟩, -1⟩]⟩ cubeHi = ⟨4096, 16 * y, 4096⟩ := by unfold lowHi; show setAx _ (byteAt s 4) (planeAt s 4) = _; rw [e4, pb]; rfl
  have u1 : upLo s ⟨4, 1, -1, [⟨⟨0, 0, 0⟩, ⟨16 * x, 4096, 4096⟩, -1⟩]⟩ ⟨16 * x, 0, 0⟩ = ⟨16 * x, 16 * y, 0⟩ := by unfold upLo; show setAx _ (byteAt s 4) (planeAt s 4) = _; rw [e4, pb]; rfl
  have t2 : tree s 10 ⟨16 * x, 0, 0⟩ ⟨4096, 16 * y, 4096⟩ ⟨7, 2, -1, [⟨⟨0, 0, 0⟩, ⟨16 * x, 4096, 4096⟩, -1⟩]⟩ = (true, ⟨8, 2, -1, [⟨⟨0, 0, 0⟩, ⟨16 * x, 4096, 4096⟩, -1⟩, ⟨⟨16 * x, 0, 0⟩, ⟨4096, 16 * y, 4096⟩, 5⟩]⟩) := by
    rw [tree_leaf (by show leafB (byteAt s 7) = true; rw [e7]; rfl)]
    show (true, St.leaf _ _ _ (byteAt s 7)) = _
    rw [e7]
    rfl
  have t3 : tree s 10 ⟨16 * x, 16 * y, 0⟩ cubeHi ⟨8, 2, -1, [⟨⟨0, 0, 0⟩, ⟨16 * x, 4096, 4096⟩, -1⟩, ⟨⟨16 * x, 0, 0⟩, ⟨4096, 16 * y, 4096⟩, 5⟩]⟩ = (true, ⟨9, 2, -1, bkL x y⟩) := by
    rw [tree_leaf (by show leafB (byteAt s 8) = true; rw [e8]; rfl)]
    show (true, St.leaf _ _ _ (byteAt s 8)) = _
    rw [e8]
    rfl
  have t4 : tree s 11 ⟨16 * x, 0, 0⟩ cubeHi ⟨4, 1, -1, [⟨⟨0, 0, 0⟩, ⟨16 * x, 4096, 4096⟩, -1⟩]⟩ = (true, ⟨9, 2, -1, bkL x y⟩) := by
    rw [tree_plane (by show leafB (byteAt s 4) = false; rw [e4]; rfl) (by show planeB (byteAt s 4) = true; rw [e4]; rfl) (by show ¬ hexV (byteAt s 5) < 0; rw [e5, h3]; omega) (by show ¬ hexV (byteAt s 6) < 0; rw [e6, h4]; omega)]
    rw [c1', l1, u1, t2]
    exact t3
  show tree s 12 cubeLo cubeHi st0 = _
  rw [tree_plane (by show leafB (byteAt s 0) = false; rw [e0]; rfl) (by show planeB (byteAt s 0) = true; rw [e0]; rfl) (by show ¬ hexV (byteAt s 1) < 0; rw [e1, h1]; omega) (by show ¬ hexV (byteAt s 2) < 0; rw [e2, h2]; omega)]
  rw [c0, l0, u0, t1]
  exact t4

theorem bk_err {b1 b2 c1 c2 : UInt8} {x y : Int} (h : top (bkS b1 b2 c1 c2) = (true, ⟨9, 2, -1, bkL x y⟩)) : errS (bkS b1 b2 c1 c2) = (0, 0) := by
  unfold errS
  rw [h, if_neg (by show ¬ 512 < 9; omega), if_neg (by simp)]
  have : pairsF (bkS b1 b2 c1 c2) ((bkS b1 b2 c1 c2).size + 1) 9 = none := pairsF_end (by show 9 ≤ 9; omega)
  show (match pairsF (bkS b1 b2 c1 c2) ((bkS b1 b2 c1 c2).size + 1) 9 with | some k => ((3 : Int), (k : Int)) | none => if (0 : Int) ≤ -1 then (4, -1) else (0, 0)) = _
  rw [this]
  rfl

/-- The zone of a point of the cube. -/
theorem bk_zone {x y : Int} {p : V3} (x1 : 1 ≤ x) (x2 : x ≤ 255) (y1 : 1 ≤ y) (y2 : y ≤ 255) (hp : InB cubeLo cubeHi p) : zP p (bkL x y) (-1) = if p.x ≤ 16 * x ∨ 16 * y ≤ p.y then -1 else 5 := by
  obtain ⟨a1, a2, a3, a4, a5, a6⟩ := hp
  simp only [cubeLo, cubeHi] at a1 a2 a3 a4 a5 a6
  unfold bkL
  by_cases c1 : p.x ≤ 16 * x
  · rw [if_pos (.inl c1), zP, if_pos (holdsB2_iff.2 ⟨a1, c1, a3, a4, a5, a6⟩), if_pos rfl]
  · rw [zP, if_neg (fun h => c1 (holdsB2_iff.1 h).x2)]
    by_cases c2 : 16 * y ≤ p.y
    · rw [if_pos (.inr c2)]
      apply zP_solid
      exact ⟨⟨⟨16 * x, 16 * y, 0⟩, ⟨4096, 4096, 4096⟩, -1⟩, by simp, holdsB2_iff.2 ⟨by dsimp only; omega, a2, c2, a4, a5, a6⟩, rfl⟩
    · rw [if_neg (by omega), zP, if_pos (holdsB2_iff.2 ⟨by dsimp only; omega, a2, a3, by dsimp only; omega, a5, a6⟩), if_neg (by show ¬ (5 : Int) = -1; omega), zP, if_neg (fun h => c2 (holdsB2_iff.1 h).y1), zP]

theorem bk_US {p d : V3} {x y : Int} (m k : Int) : (lies p d ⟨0, 0, 0⟩ ⟨16 * x, 4096, 4096⟩ m k ∨ lies p d ⟨16 * x, 16 * y, 0⟩ ⟨4096, 4096, 4096⟩ m k) ↔ US p d (bkL x y) m k := by
  unfold US bkL
  constructor
  · rintro (h | h)
    · exact ⟨⟨⟨0, 0, 0⟩, ⟨16 * x, 4096, 4096⟩, -1⟩, by simp, rfl, h⟩
    · exact ⟨⟨⟨16 * x, 16 * y, 0⟩, ⟨4096, 4096, 4096⟩, -1⟩, by simp, rfl, h⟩
  · rintro ⟨l, hm, hz, h⟩
    simp at hm
    rcases hm with rfl | rfl | rfl
    · exact .inl h
    · simp at hz
    · exact .inr h

end Go.Proofs.Ytonmihojfcjmjaa.M
