import Derived.Test.YtonmihojfcjmjabRwM
import Derived.Test.YtonmihojfcjmjabBBk
/- Unseen: of one that is too far away nothing is told. No memory in sight. -/
namespace Go.Proofs.Ytonmihojfcjmjab.M
set_option linter.unusedVariables false

/-- A slot that keeps far: it may be dead, or gone; what waits there is no shot. -/
structure Far (i : Nat) (s : PSeat) : Prop where
  f : ∀ j, (s.q j).fire = false
  p : s.taken = true → 3596 - 32 * (i : Int) ≤ s.place.x
  h : s.taken = true → 3596 ≤ s.home.x
  e : s.taken = false → s.health = 0

/-- A game of which slot 0 is s, the rest far or gone. -/
structure Un (i : Nat) (s : PSeat) (g : PGame) : Prop where
  t : g.tick = i
  a : g.seat 0 = s
  b : Far i (g.seat 1)
  r : ∀ k, 2 ≤ k → g.seat k = PSeat.empty 0
  c : InB cubeLo cubeHi (g.seat 1).place
/-- What holds of slot 0. -/
structure Own (i : Nat) (s : PSeat) : Prop where
  t : s.taken = true
  h : s.health = 100
  p : s.place.x ≤ 500 + 32 * (i : Int)
  c : InB cubeLo cubeHi s.place

theorem clamp_near {n m lo hi : Int} (h1 : lo ≤ n) (h2 : n ≤ hi) (h3 : -32 ≤ m) (h4 : m ≤ 32) : n - 32 ≤ clamp (n + m) lo hi ∧ clamp (n + m) lo hi ≤ n + 32 := by
  unfold clamp
  split
  · omega
  · split <;> omega
theorem goal_near {p m : V3} (h : InB cubeLo cubeHi p) : p.x - 32 ≤ (goalP p m).x ∧ (goalP p m).x ≤ p.x + 32 := by
  have c := clamp_bd (n := m.x) (lo := -32) (hi := 32) (by decide)
  have h1 : 0 ≤ p.x := h.x1
  have h2 : p.x ≤ 4096 := h.x2
  exact clamp_near (lo := 0) (hi := 4096) h1 h2 c.1 c.2
theorem obeyed_near {s : PSeat} (ls : List Lf) (h : InB cubeLo cubeHi s.place) : s.place.x - 32 ≤ (s.obeyed ls).place.x ∧ (s.obeyed ls).place.x ≤ s.place.x + 32 := by
  have self : s.place.x - 32 ≤ s.place.x ∧ s.place.x ≤ s.place.x + 32 := ⟨by omega, by omega⟩
  unfold PSeat.obeyed
  split
  · exact self
  split
  · unfold PSeat.moved
    split
    · exact self
    · exact goal_near h
  · exact self
theorem obeyed_in {s : PSeat} (ls : List Lf) (h : InB cubeLo cubeHi s.place) : InB cubeLo cubeHi (s.obeyed ls).place := by
  unfold PSeat.obeyed
  split
  · exact h
  split
  · unfold PSeat.moved
    split
    · exact h
    · exact goal_in _ _
  · exact h
theorem obeyed_q (s : PSeat) (ls : List Lf) (h : ∀ j, (s.q j).fire = false) : ∀ j, ((s.obeyed ls).q j).fire = false := by
  have up : ∀ j, (s.up.q j).fire = false := fun j => by show ((if j < 3 then s.q (j + 1) else s.q j) : Cmd).fire = false; split <;> exact h _
  unfold PSeat.obeyed
  split
  · exact h
  split
  · unfold PSeat.moved
    split
    · exact up
    · exact up
  · exact up
theorem obeyed_keeps (s : PSeat) (ls : List Lf) : (s.obeyed ls).home = s.home ∧ (s.obeyed ls).health = s.health ∧ (s.obeyed ls).taken = s.taken := by
  unfold PSeat.obeyed
  split
  · exact ⟨rfl, rfl, rfl⟩
  split
  · unfold PSeat.moved
    split <;> exact ⟨rfl, rfl, rfl⟩
  · exact ⟨rfl, rfl, rfl⟩

/-- A far slot behind who comes back, who walks and what is recorded. -/
theorem Far.next {i : Nat} {s : PSeat} (h : Far i s) (hc : InB cubeLo cubeHi s.place) (hh : s.taken = true → InB cubeLo cubeHi s.home) (ls : List Lf) (t : Int) :
    Far (i + 1) (((s.revived t).obeyed ls).note t) ∧ InB cubeLo cubeHi (((s.revived t).obeyed ls).note t).place ∧ (s.revived t).order.fire = false := by
  have h1 : Far i (s.revived t) ∧ InB cubeLo cubeHi (s.revived t).place := by
    unfold PSeat.revived
    split
    · rename_i e
      exact ⟨⟨h.f, fun _ => by show 3596 - 32 * (i : Int) ≤ s.home.x; have := h.h e.1; omega, fun _ => h.h e.1, fun k => by have : s.taken = false := k; rw [e.1] at this; cases this⟩, hh e.1⟩
    · exact ⟨h, hc⟩
  generalize s.revived t = u at h1
  obtain ⟨k1, k2, k3⟩ := obeyed_keeps u ls
  have n := obeyed_near ls h1.2
  obtain ⟨tr, c, e⟩ := note_same (u.obeyed ls) t
  rw [e]
  refine ⟨⟨obeyed_q u ls h1.1.f, fun k => ?_, fun k => ?_, fun k => ?_⟩, obeyed_in ls h1.2, ?_⟩
  · have : u.taken = true := k3 ▸ k
    have := h1.1.p this
    show 3596 - 32 * ((i + 1 : Nat) : Int) ≤ (u.obeyed ls).place.x
    omega
  · show 3596 ≤ (u.obeyed ls).home.x
    rw [k1]; exact h1.1.h (k3 ▸ k)
  · show (u.obeyed ls).health = 0
    rw [k2]; exact h1.1.e (k3 ▸ k)
  · unfold PSeat.order
    split
    · rfl
    · split
      · exact h1.1.f 0
      · rfl

theorem Far.hurt {i : Nat} {s : PSeat} (h : Far i s) (hl : 0 < s.health) (d t : Int) : Far i (s.hurt d t) := by
  have tk : s.taken = true := by
    cases e : s.taken with
    | false => exact absurd (h.e e) (by omega)
    | true => rfl
  unfold PSeat.hurt
  split
  · exact ⟨h.f, h.p, h.h, fun k => by have : s.taken = false := k; rw [tk] at this; cases this⟩
  · exact ⟨h.f, h.p, h.h, fun _ => rfl⟩

/-- A shot of slot 0: slot 0 pays, slot 1 may be hurt. -/
theorem Un.shoot {i : Nat} {s : PSeat} {g : PGame} (h : Un i s g) (ls : List Lf) (c : Cmd) : Un i (if g.canShoot 0 = true then s.spent i else s) (g.shoot ls 0 c) := by
  unfold PGame.shoot
  by_cases hc : g.canShoot 0 = true
  · rw [if_pos hc, if_pos hc]
    have u1 : Un i (s.spent i) (g.put 0 ((g.seat 0).spent g.tick)) := by
      refine ⟨h.t, by rw [PGame.put_at, h.a, h.t], by rw [PGame.put_ne _ _ (by decide)]; exact h.b, fun k hk => by rw [PGame.put_ne _ _ (by omega)]; exact h.r k hk, by rw [PGame.put_ne _ _ (by decide)]; exact h.c⟩
    generalize g.put 0 ((g.seat 0).spent g.tick) = g1 at u1
    unfold PGame.strike
    split
    · exact u1
    · rename_i a k x e
      split
      · rcases firstTo_is g1 0 (g.seat 0).place (wayP c.aim) (timeP g.tick c.time) 8 with e2 | ⟨v, e1, e2, e3, e4, e5⟩
        · rw [e2] at e; cases e
        · rw [e1]
          have v1 : v = 1 := by
            by_cases hv : v = 1
            · exact hv
            · have := u1.r v (by omega)
              rw [this] at e4
              exact absurd e4 (by show ¬ (0 : Int) < 0; decide)
          subst v1
          exact ⟨u1.t, by rw [PGame.put_ne _ _ (by decide)]; exact u1.a, by rw [PGame.put_at]; exact u1.b.hurt e4 _ _, fun k hk => by rw [PGame.put_ne _ _ (by omega)]; exact u1.r k hk, by rw [PGame.put_at]; unfold PSeat.hurt; split <;> exact u1.c⟩
      · exact u1
  · rw [if_neg hc, if_neg hc]; exact h

/-- Slot 0 behind a tick. -/
noncomputable def nextS (ls : List Lf) (i : Nat) (s : PSeat) : PSeat :=
  if s.order.fire = true ∧ (decide (0 < ((s.obeyed ls).note ((i : Int) + 1)).health) && !decide (((s.obeyed ls).note ((i : Int) + 1)).ammo = 0) && decide (((s.obeyed ls).note ((i : Int) + 1)).ready ≤ (i : Int) + 1)) = true then ((s.obeyed ls).note ((i : Int) + 1)).spent ((i : Int) + 1) else (s.obeyed ls).note ((i : Int) + 1)

theorem Un.step {i : Nat} {s : PSeat} {g : PGame} (h : Un i s g) (ho : Own i s) (hk : g.Ok) (hi : i < 30) (ls : List Lf) : (g.step ls).1 = 0 ∧ Un (i + 1) (nextS ls i s) (g.step ls).2 := by
  have tk := h.t
  have lv : 0 < s.health := by rw [ho.h]; decide
  have r0 : (g.seat 0).revived (g.tick + 1) = s := by rw [h.a]; exact revived_live lv
  obtain ⟨f1, f2, f3⟩ := h.b.next h.c (fun _ => (hk.s 1).home) ls (g.tick + 1)
  have st : g.step ls = (0, g.walk ls) := by unfold PGame.step; rw [if_neg (by omega)]
  rw [st]
  refine ⟨rfl, ?_⟩
  have ok : ∀ k, k < 8 → k ≠ 0 → (g.orders k).fire = false := fun k hk8 h0 => by
    rw [orders_at g hk8]
    by_cases h1 : k = 1
    · subst h1; exact f3
    · rw [h.r k (by omega), revived_free rfl]; rfl
  have o0 : g.orders 0 = s.order := by rw [orders_at g (by omega), r0]
  have un : Un (i + 1) ((s.obeyed ls).note ((i : Int) + 1)) (g.notes ls) := by
    refine ⟨by show g.tick + 1 = _; rw [tk]; rfl, by rw [notes_at g ls (by omega), r0, tk], by rw [notes_at g ls (by omega)]; exact f1, fun k hk2 => ?_, by rw [notes_at g ls (by omega)]; exact f2⟩
    by_cases h8 : k < 8
    · rw [notes_at g ls h8, h.r k hk2, revived_free rfl, obeyed_none rfl, note_dead rfl]
    · unfold PGame.notes PGame.walks PGame.backs
      rw [PGame.map_out _ _ h8, PGame.map_out _ _ h8, PGame.map_out _ _ h8]; exact h.r k hk2
  show Un (i + 1) (nextS ls i s) ((g.notes ls).shootTo ls g.orders 8)
  rw [shootTo_one _ _ _ 0 ok 8 (by omega), o0]
  unfold nextS
  by_cases hf : s.order.fire = true
  · rw [if_pos (show 0 < 8 ∧ s.order.fire = true from ⟨by omega, hf⟩)]
    have u2 := un.shoot ls s.order
    have cs : (g.notes ls).canShoot 0 = (decide (0 < ((s.obeyed ls).note ((i : Int) + 1)).health) && !decide (((s.obeyed ls).note ((i : Int) + 1)).ammo = 0) && decide (((s.obeyed ls).note ((i : Int) + 1)).ready ≤ (i : Int) + 1)) := by
      unfold PGame.canShoot; rw [un.a, un.t]; rfl
    rw [cs] at u2
    by_cases hc : (decide (0 < ((s.obeyed ls).note ((i : Int) + 1)).health) && !decide (((s.obeyed ls).note ((i : Int) + 1)).ammo = 0) && decide (((s.obeyed ls).note ((i : Int) + 1)).ready ≤ (i : Int) + 1)) = true
    · rw [if_pos hc] at u2
      rw [if_pos (And.intro hf hc)]; exact u2
    · rw [if_neg hc] at u2
      rw [if_neg (fun k => hc k.2)]; exact u2
  · rw [if_neg (show ¬ (0 < 8 ∧ s.order.fire = true) from fun k => hf k.2), if_neg (fun k => hf k.1)]; exact un

theorem Own.next {i : Nat} {s : PSeat} (h : Own i s) (ls : List Lf) : Own (i + 1) (nextS ls i s) := by
  have n : Own (i + 1) ((s.obeyed ls).note ((i : Int) + 1)) := by
    obtain ⟨k1, k2, k3⟩ := obeyed_keeps s ls
    have nr := obeyed_near ls h.c
    obtain ⟨tr, c, e⟩ := note_same (s.obeyed ls) ((i : Int) + 1)
    rw [e]
    exact ⟨k3.trans h.t, k2.trans h.h, by show (s.obeyed ls).place.x ≤ 500 + 32 * ((i + 1 : Nat) : Int); have := h.p; omega, obeyed_in ls h.c⟩
  unfold nextS
  split
  · exact ⟨n.t, n.h, n.p, n.c⟩
  · exact n

/-- A packet for slot 0. -/
def packS (s : PSeat) (c : Cmd) (e : Int) : Int × PSeat := if e ≠ 0 then (e, s) else if c.seq ≤ s.last then (9, s) else if 4 ≤ s.waiting then (10, s) else (0, s.put c)
theorem Un.packet0 {i : Nat} {s : PSeat} {g : PGame} (h : Un i s g) (ho : Own i s) (c : Cmd) (e : Int) : (g.packet 0 c e).1 = (packS s c e).1 ∧ Un i (packS s c e).2 (g.packet 0 c e).2 := by
  have t0 : g.takenB 0 = true := by unfold PGame.takenB; rw [show (0 : Int).toNat = 0 from rfl, h.a, ho.t]; rfl
  unfold PGame.packet packS
  rw [t0, if_neg (by decide), show (0 : Int).toNat = 0 from rfl, h.a]
  split
  · exact ⟨rfl, h⟩
  split
  · exact ⟨rfl, h⟩
  split
  · exact ⟨rfl, h⟩
  · exact ⟨rfl, h.t, by rw [PGame.put_at], by rw [PGame.put_ne _ _ (by decide)]; exact h.b, fun k hk => by rw [PGame.put_ne _ _ (by omega)]; exact h.r k hk, by rw [PGame.put_ne _ _ (by decide)]; exact h.c⟩
theorem Own.pack {i : Nat} {s : PSeat} (h : Own i s) (c : Cmd) (e : Int) : Own i (packS s c e).2 := by
  unfold packS
  split
  · exact h
  split
  · exact h
  split
  · exact h
  · exact ⟨h.t, h.h, h.p, h.c⟩
theorem Un.packet1 {i : Nat} {s : PSeat} {g : PGame} (h : Un i s g) (c : Cmd) (e : Int) (hc : c.fire = false) : Un i s (g.packet 1 c e).2 := by
  unfold PGame.packet
  split
  · exact h
  split
  · exact h
  split
  · exact h
  split
  · exact h
  · rename_i h1 _ _ _
    have t1 : (g.seat 1).taken = true := by
      cases e : (g.seat 1).taken
      · exact absurd (by unfold PGame.takenB; rw [show (1 : Int).toNat = 1 from rfl, e]; rfl) h1
      · rfl
    refine ⟨h.t, by rw [show (1 : Int).toNat = 1 from rfl, PGame.put_ne _ _ (by decide)]; exact h.a, ?_, fun k hk => by rw [show (1 : Int).toNat = 1 from rfl, PGame.put_ne _ _ (by omega)]; exact h.r k hk, by rw [show (1 : Int).toNat = 1 from rfl, PGame.put_at]; exact h.c⟩
    rw [show (1 : Int).toNat = 1 from rfl, PGame.put_at]
    exact ⟨fun j => by show ((if (j : Int) = (g.seat 1).waiting then c else (g.seat 1).q j) : Cmd).fire = false; split; exact hc; exact h.b.f j, h.b.p, h.b.h, fun k => by have : (g.seat 1).taken = false := k; rw [t1] at this; cases this⟩

theorem sq_nonneg (a : Int) : 0 ≤ a * a := by
  rcases Int.le_total 0 a with h | h
  · exact Int.mul_nonneg h h
  · have := Int.mul_nonneg (Int.neg_nonneg_of_nonpos h) (Int.neg_nonneg_of_nonpos h); rwa [Int.neg_mul_neg] at this
/-- What slot 0 is told. -/
def snap0 (i : Nat) (s : PSeat) : List UInt8 := [83] ++ twoP i ++ [b8 ((0 : Nat) : Int), b8 s.liveN, b8 s.health, b8 s.ammo, b8 (s.cooling i), b8 ((1 : Nat) : Int)] ++ s.row 0
theorem Un.told {i : Nat} {s : PSeat} {g : PGame} (h : Un i s g) (ho : Own i s) (hi : i ≤ 30) (ls : List Lf) (ps : Nat → Bool) : ∀ k, 1 ≤ k → g.toldB ls ps 0 k = false := fun k hk => by
  have sh : showsP ls ps (g.seat 0) (g.seat k) = false := by
    unfold showsP
    by_cases h1 : k = 1
    · subst h1
      cases e : (g.seat 1).taken
      · rw [h.b.e e]; simp
      · have p1 := h.b.p e
        have p0 := ho.p
        have : nearP (g.seat 0).place (g.seat 1).place = false := by
          unfold nearP
          rw [h.a, decide_eq_false]
          intro hn
          have a1 := sq_nonneg (s.place.y - (g.seat 1).place.y)
          have a2 := sq_nonneg (s.place.z - (g.seat 1).place.z)
          have b1 := Int.mul_le_mul (show (1176 : Int) ≤ (g.seat 1).place.x - s.place.x by omega) (show (1176 : Int) ≤ (g.seat 1).place.x - s.place.x by omega) (by omega) (by omega)
          have b2 : (s.place.x - (g.seat 1).place.x) * (s.place.x - (g.seat 1).place.x) = ((g.seat 1).place.x - s.place.x) * ((g.seat 1).place.x - s.place.x) := by rw [← Int.neg_mul_neg, Int.neg_sub]
          omega
        rw [this]; simp
    · rw [h.r k (by omega)]; rfl
  unfold PGame.toldB
  rw [sh, decide_eq_false (by omega)]; rfl
theorem Un.snap {i : Nat} {s : PSeat} {g : PGame} (h : Un i s g) (ho : Own i s) (hi : i ≤ 30) (ls : List Lf) (ps : Nat → Bool) : g.snapS ls ps 0 = (⟨(snap0 i s).toArray⟩, 0) := by
  have t0 : g.takenB 0 = true := by unfold PGame.takenB; rw [show (0 : Int).toNat = 0 from rfl, h.a, ho.t]; rfl
  have td := h.told ho hi ls ps
  have t00 : g.toldB ls ps 0 0 = true := by unfold PGame.toldB; simp
  have rw0 : ∀ n j, 1 ≤ j → g.rows ls ps 0 n j = [] := by
    intro n
    induction n with
    | zero => intro j _; rfl
    | succ n ih => intro j hj; unfold PGame.rows; rw [td j hj, ih (j + 1) (by omega)]; rfl
  have ct0 : ∀ n j, 1 ≤ j → g.count ls ps 0 n j = 0 := by
    intro n
    induction n with
    | zero => intro j _; rfl
    | succ n ih => intro j hj; unfold PGame.count; rw [td j hj, ih (j + 1) (by omega)]; rfl
  unfold PGame.snapS
  rw [if_pos t0, show (0 : Int).toNat = 0 from rfl]
  unfold PGame.snap
  have r1 : g.rows ls ps 0 8 0 = s.row 0 := by unfold PGame.rows; rw [t00, rw0 7 1 (by omega), h.a]; simp
  have c1 : g.count ls ps 0 8 0 = 1 := by unfold PGame.count; rw [t00, ct0 7 1 (by omega)]; rfl
  rw [r1, c1]
  unfold PGame.headP snap0
  rw [h.a, h.t]

end Go.Proofs.Ytonmihojfcjmjab.M
