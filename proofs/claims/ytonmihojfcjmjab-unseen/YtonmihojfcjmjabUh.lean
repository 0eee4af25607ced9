import Derived.Test.YtonmihojfcjmjabClm
import Derived.Test.YtonmihojfcjmjabUnM
import Derived.Test.YtonmihojfcjmjabBKp
import Derived.BigQuiet
/- Contracts of the statements' helpers: theirsAt, sees; pick as a function. -/
namespace Go.Proofs.Ytonmihojfcjmjab
open Go.RowKit
set_option linter.unusedVariables false
attribute [local go_sem] cell_set_off cell_set_blk

/-- A list of strings. -/
def SRow (W : World) (o : Option Addr) (n : Nat) (ss : Nat → ByteArray) : Prop := n = 0 ∨ ∃ a, o = some a ∧ ∀ i, i < n → W.cell? (a.add i) = some (.string (ss i)) ∧ (ss i).size ≤ maxLen
theorem SRow.below {B : Nat} {W W' : World} {o : Option Addr} {n : Nat} {ss : Nat → ByteArray} (h : SRow W o n ss) (hb : Below B W W') (hB : W.heap.size ≤ B) : SRow W' o n ss := by
  rcases h with h | ⟨a, h1, h2⟩
  · exact Or.inl h
  · refine Or.inr ⟨a, h1, fun i hi => ⟨?_, (h2 i hi).2⟩⟩
    have e := (h2 i hi).1
    rw [← e]
    exact World.cell?_of_block (hb.block _ (by have := World.block_lt_of_cell? W _ e; omega))

set_option maxHeartbeats 2000000 in
theorem theirsAt_any (o : Option Addr) (n cap : Nat) (ss : Nat → ByteArray) (i : Nat) (w : World) (h : SRow w o n ss) (hn : n ≤ maxLen) (hi : i ≤ 100) :
    Calls Try.prog 17 #[.slice o n cap, .int .i64 i] w fun e w' => (∃ q : ByteArray, e = .returned (.string q) ∧ q.size ≤ maxLen ∧ (M.decR q).fire = false) ∧ Below w.heap.size w w' := by
  unfold maxLen at hn
  by_cases hlt : i < n
  · have z : ¬ (n : Int) ≤ (i : Int) := by omega
    have z1 : (i : Int) < (n : Int) := by omega
    rcases h with h | ⟨a, rfl, h⟩
    · omega
    obtain ⟨c, sz⟩ := h i hlt
    have SZ := hid sz
    clear h sz
    go_enter Try.func17, Try.ntmps17
    go_wp2_with fail
    refine (kcalm_any (ss i) _ SZ.out).mono ?_
    rintro e w1 ⟨⟨q, rfl, hq, hf⟩, hb⟩
    have HQ := hid hq
    have HF := hid hf
    have HB := hid hb
    clear hq hf hb
    go_wp2
    go_ret
    exact ⟨⟨_, rfl, HQ.out ▸ SZ.out, HF.out⟩, HB.out⟩
  · have z : (n : Int) ≤ (i : Int) := by omega
    clear h
    go_enter Try.func17, Try.ntmps17
    go_wp2
    go_ret
    exact ⟨⟨_, rfl, by show 0 ≤ maxLen; exact Nat.zero_le _, by apply M.decR_fire; intro e; exact absurd e (by decide)⟩, Below.refl _ _⟩

theorem snap0_at (i : Nat) (s : M.PSeat) (hi : i ≤ 100) : ∃ c : UInt8, (c.toNat : Int) = i ∧ ∃ b4 b5 b6 b7 b10 b11 b12 b13 b14 b15 b16 b17 : UInt8, M.snap0 i s = [83, c, 0, 0, b4, b5, b6, b7, 1, 0, b10, b11, b12, b13, b14, b15, b16, b17] := by
  have e : M.snap0 i s = [83, M.b8 i, M.b8 ((i : Int) / 256), M.b8 ((0 : Nat) : Int), M.b8 s.liveN, M.b8 s.health, M.b8 s.ammo, M.b8 (s.cooling i), M.b8 ((1 : Nat) : Int), M.b8 ((0 : Nat) : Int), M.b8 s.gen, M.b8 s.health, M.b8 s.place.x, M.b8 (s.place.x / 256), M.b8 s.place.y, M.b8 (s.place.y / 256), M.b8 s.place.z, M.b8 (s.place.z / 256)] := rfl
  have e1 : M.b8 ((i : Int) / 256) = 0 := by
    have : (i : Int) / 256 = 0 := by omega
    rw [this]; rfl
  rw [e1, show M.b8 ((0 : Nat) : Int) = 0 from rfl, show M.b8 ((1 : Nat) : Int) = 1 from rfl] at e
  exact ⟨M.b8 i, by rw [M.b8_nat]; omega, _, _, _, _, _, _, _, _, _, _, _, _, e⟩

set_option maxRecDepth 100000 in
set_option maxHeartbeats 2000000 in
theorem ksees_any (b : Nat) (v : Value) (ls : List M.Lf) (ps : Nat → Bool) (g : M.PGame) (i : Nat) (s : M.PSeat) (w : World) (h : Sv w b v ls ps g) (hu : M.Un i s g) (ho : M.Own i s) (hi : i ≤ 30) :
    Calls Try.prog 19 #[.pointer (some ⟨b, 0, none⟩), .int .i64 i] w fun e w' => e = .returned (.tuple #[.string ⟨(M.snap0 i s).toArray⟩, .bool true]) ∧ Below w.heap.size w w' := by
  have H := hid h
  have HS := hid (hu.snap ho hi ls ps)
  obtain ⟨c, hc, b4, b5, b6, b7, b10, b11, b12, b13, b14, b15, b16, b17, hs⟩ := snap0_at i s (by omega)
  obtain ⟨S, hS⟩ : ∃ S : ByteArray, S = ⟨(M.snap0 i s).toArray⟩ := ⟨_, rfl⟩
  rw [← hS]
  rw [← hS] at HS
  rw [hs] at hS
  have z : S.size = 18 := by rw [hS]; rfl
  have f0 : ((S[0]'(by omega)).toNat : Int) = 83 := by subst hS; rfl
  have f1 : ((S[1]'(by omega)).toNat : Int) = i := by subst hS; exact hc
  have f2 : ((S[2]'(by omega)).toNat : Int) = 0 := by subst hS; rfl
  have f3 : ((S[3]'(by omega)).toNat : Int) = 0 := by subst hS; rfl
  have f9 : ((S[9]'(by omega)).toNat : Int) = 0 := by subst hS; rfl
  clear h hu ho hs hS hc
  have i1 : (i : Int) ≤ 30 := by omega
  have i0 : 0 ≤ (i : Int) := by omega
  go_enter Try.func19, Try.ntmps19
  go_wp2_with fail
  refine (sv_snap H.out 0 _ HS).mono ?_
  rintro e w1 ⟨rfl, hb⟩
  have HB := hid hb
  clear hb H HS
  go_wp2_with fail
  go_quiet (fail)
  go_wp2
  exact bodyPost_ret (v := .tuple #[.string S, .bool true]) (by simp [results, Try.results19, go_sem]) rfl ⟨rfl, below_drewN HB.out _⟩

/-- Fits an int. -/
structure M.Fit (p : M.V3) : Prop where
  x1 : -9223372036854775808 ≤ p.x
  x2 : p.x ≤ 9223372036854775807
  y1 : -9223372036854775808 ≤ p.y
  y2 : p.y ≤ 9223372036854775807
  z1 : -9223372036854775808 ≤ p.z
  z2 : p.z ≤ 9223372036854775807
/-- pick, of n things. -/
def M.pickN (c n : Int) : Int := if c < 0 then -(c + 1).tmod n else c % n
theorem M.pickN_bd (c n : Int) (h : 0 < n) : 0 ≤ M.pickN c n ∧ M.pickN c n < n := by
  unfold M.pickN
  split
  · rename_i e; have := tmod_pick (n := n) h e; omega
  · exact ⟨Int.emod_nonneg _ (by omega), Int.emod_lt_of_pos _ (by omega)⟩
set_option maxHeartbeats 1000000 in
theorem kpick_v (c n : Int) (w : World) (hc : -9223372036854775808 ≤ c ∧ c ≤ 9223372036854775807) (hn : 1 ≤ n ∧ n ≤ 1000000000) :
    Calls Try.prog 13 #[.int .i64 c, .int .i64 n] w fun e w' => e = .returned (.int .i64 (M.pickN c n)) ∧ w' = w := by
  obtain ⟨h1, h2⟩ := hc
  obtain ⟨n1, n2⟩ := hn
  have n0 : (n == 0) = false := by simp; omega
  by_cases h : c < 0
  · have E := hid (show M.pickN c n = -(c + 1).tmod n from by unfold M.pickN; rw [if_pos h])
    go_enter Try.func13, Try.ntmps13
    go_wp2
    go_ret
    exact ⟨by rw [E.out]; rfl, rfl⟩
  · have E := hid (show M.pickN c n = c % n from by unfold M.pickN; rw [if_neg h])
    go_enter Try.func13, Try.ntmps13
    go_wp2
    go_ret
    exact ⟨by rw [E.out]; rfl, rfl⟩

end Go.Proofs.Ytonmihojfcjmjab
