import Derived.Test.YtonmihojfcjmjabRwM
import Derived.Test.YtonmihojfcjmjabBBk
/- Paid: what a tick costs. No memory in sight. -/
namespace Go.Proofs.Ytonmihojfcjmjab.M
set_option linter.unusedVariables false

/-- A client's life as its snapshot tells it. -/
structure Span where
  live : Int
  health : Int
  ammo : Int
  left : Int
def Span.zero : Span := ⟨0, 0, 0, 0⟩
def Span.whole : Span := ⟨1, 100, 6, 0⟩
def PSeat.span (s : PSeat) (t : Int) : Span := ⟨s.liveN, s.health, s.ammo, s.cooling t⟩
def livesA (b : Book) (g : PGame) (i : Nat) : Span := if b.here i = true then (g.seat i).span g.tick else Span.zero

def lessI (n : Int) : Int := if 0 < n then n - 1 else 0
def fairB (p q : Span) : Bool := if q.ammo = p.ammo then decide (q.left = lessI p.left) else decide (q.ammo = p.ammo - 1) && decide (p.left ≤ 1) && decide (q.left = 3)
/-- As it was ahead of the tick; who came back is whole. -/
def Book.was (b : Book) (old : Nat → Span) (i : Nat) : Span := if (old i).live = 0 ∧ b.tick = b.died i + 8 then Span.whole else old i
def sumTo (f : Nat → Int) : Nat → Int
  | 0 => 0
  | n + 1 => sumTo f n + f n
def Book.shotN (b : Book) (old now : Nat → Span) (i : Nat) : Int := if b.here i = true ∧ (now i).ammo ≠ (b.was old i).ammo then 1 else 0
def Book.woundN (b : Book) (old now : Nat → Span) (i : Nat) : Int := if b.here i = true ∧ (now i).health < (b.was old i).health then 1 else 0
def Book.costN (b : Book) (old now : Nat → Span) (i : Nat) : Int := if b.here i = true ∧ (now i).health < (b.was old i).health then (b.was old i).health - (now i).health else 0
def Book.lastN (b : Book) (old now : Nat → Span) : Nat → Int
  | 0 => -1
  | n + 1 => if b.shotN old now n = 1 then (n : Int) else b.lastN old now n
def Book.paidTo (b : Book) (old now : Nat → Span) (n : Nat) : Book := { b with died := fun i => if i < n ∧ b.here i = true ∧ (b.was old i).live = 1 ∧ (now i).live = 0 then b.tick else b.died i }
structure Span.Byte (s : Span) : Prop where
  l0 : 0 ≤ s.live
  l1 : s.live ≤ 255
  h0 : 0 ≤ s.health
  h1 : s.health ≤ 255
  a0 : 0 ≤ s.ammo
  a1 : s.ammo ≤ 255
  f0 : 0 ≤ s.left
  f1 : s.left ≤ 255
/-- One tick goes by the book. -/
structure Fair (b : Book) (old now : Nat → Span) : Prop where
  ok : ∀ i, i < 8 → b.here i = true → fairB (b.was old i) (now i) = true ∧ (now i).health ≤ (b.was old i).health ∧ ((now i).live = 1 ↔ 0 < (now i).health) ∧ (now i).live ≤ 1 ∧ ((b.was old i).live = 0 → (now i).ammo = (b.was old i).ammo)
  o : ∀ i, (old i).Byte
  ol : ∀ i, (old i).live = 0 ∨ (old i).live = 1
  n : ∀ i, (now i).Byte
  w : sumTo (b.woundN old now) 8 ≤ sumTo (b.shotN old now) 8
  c : sumTo (b.costN old now) 8 ≤ 60 * sumTo (b.shotN old now) 8
  one : sumTo (b.shotN old now) 8 = 1 → ∀ i, i < 8 → b.shotN old now i = 1 → (now i).health = (old i).health ∨ (old i).live = 0
  t0 : 0 ≤ b.tick
  t1 : b.tick ≤ 3000
  d0 : ∀ i, i < 8 → 0 ≤ b.died i ∧ b.died i ≤ 3000

theorem sumTo_congr {f g : Nat → Int} : ∀ n, (∀ k, k < n → f k = g k) → sumTo f n = sumTo g n
  | 0, _ => rfl
  | n + 1, h => by unfold sumTo; rw [sumTo_congr n (fun k hk => h k (by omega)), h n (by omega)]
theorem sumTo_nonneg {f : Nat → Int} : ∀ n, (∀ k, k < n → 0 ≤ f k) → 0 ≤ sumTo f n
  | 0, _ => Int.le_refl 0
  | n + 1, h => by unfold sumTo; have := sumTo_nonneg n (fun k hk => h k (by omega)); have := h n (by omega); omega
theorem sumTo_ge {f : Nat → Int} {i : Nat} : ∀ n, i < n → (∀ k, k < n → 0 ≤ f k) → f i ≤ sumTo f n
  | 0, hi, _ => by omega
  | n + 1, hi, h => by
    unfold sumTo
    by_cases e : i = n
    · subst e; have := sumTo_nonneg i (fun k hk => h k (by omega)); omega
    · have := sumTo_ge n (by omega : i < n) (fun k hk => h k (by omega)); have := h n (by omega); omega
theorem sumTo_le {f : Nat → Int} {c : Int} (hc : 0 ≤ c) : ∀ n, (∀ k, k < n → f k ≤ c) → sumTo f n ≤ n * c
  | 0, _ => by unfold sumTo; simp
  | n + 1, h => by
    unfold sumTo
    have := sumTo_le hc n (fun k hk => h k (by omega)); have := h n (by omega)
    rw [Int.natCast_add, Int.add_mul]; omega
/-- One place has grown by x at most. -/
theorem sumTo_one {f g : Nat → Int} {v : Nat} {x : Int} (hx : 0 ≤ x) (hv : g v ≤ f v + x) (ho : ∀ k, k ≠ v → g k = f k) : ∀ n, sumTo g n ≤ sumTo f n + x
  | 0 => by unfold sumTo; omega
  | n + 1 => by
    unfold sumTo
    by_cases e : n = v
    · subst e; rw [sumTo_congr (f := g) (g := f) n (fun k hk => ho k (by omega))]; omega
    · have := sumTo_one hx hv ho n; rw [ho n e]; omega
theorem sumTo_set {f g : Nat → Int} {v : Nat} (hv : g v = f v + 1) (ho : ∀ k, k ≠ v → g k = f k) : ∀ n, v < n → sumTo g n = sumTo f n + 1
  | 0, h => by omega
  | n + 1, h => by
    unfold sumTo
    by_cases e : n = v
    · subst e; rw [sumTo_congr (f := g) (g := f) n (fun k hk => ho k (by omega)), hv]; omega
    · rw [sumTo_set hv ho n (by omega), ho n e]; omega

/-- The first shots of a tick, and what they have cost. -/
structure Pay (n : Nat) (g0 g : PGame) (F : Nat → Int) : Prop where
  t : g.tick = g0.tick
  out : ∀ k, n ≤ k → F k = 0
  f01 : ∀ k, F k = 0 ∨ F k = 1
  s0 : ∀ k, F k = 0 → (g.seat k).ammo = (g0.seat k).ammo ∧ (g.seat k).ready = (g0.seat k).ready
  s1 : ∀ k, F k = 1 → (g.seat k).ammo = (g0.seat k).ammo - 1 ∧ (g.seat k).ready = g0.tick + 3 ∧ 0 < (g0.seat k).health ∧ (g0.seat k).ready ≤ g0.tick
  h : ∀ k, (g.seat k).health ≤ (g0.seat k).health ∧ 0 ≤ (g.seat k).health
  d : ∀ k, (g.seat k).health = 0 → ((g0.seat k).health = 0 ∧ (g.seat k).back = (g0.seat k).back) ∨ (0 < (g0.seat k).health ∧ (g.seat k).back = g0.tick + 8)
  w : sumTo (fun k => if (g.seat k).health < (g0.seat k).health then 1 else 0) 8 ≤ sumTo F 8
  c : sumTo (fun k => (g0.seat k).health - (g.seat k).health) 8 ≤ 60 * sumTo F 8
  no : sumTo F 8 = 0 → ∀ k, (g.seat k).health = (g0.seat k).health
  one : sumTo F 8 = 1 → ∀ k, k < 8 → F k = 1 → (g.seat k).health = (g0.seat k).health

theorem Pay.start (g0 : PGame) (h : ∀ k, 0 ≤ (g0.seat k).health) : Pay 0 g0 g0 (fun _ => 0) where
  t := rfl
  out := fun _ _ => rfl
  f01 := fun _ => .inl rfl
  s0 := fun _ _ => ⟨rfl, rfl⟩
  s1 := fun _ e => by cases e
  h := fun k => ⟨Int.le_refl _, h k⟩
  d := fun k e => .inl ⟨e, rfl⟩
  w := by
    rw [sumTo_congr (g := fun _ => 0) 8 (fun k _ => by rw [if_neg (by omega)])]; omega
  c := by
    rw [sumTo_congr (f := fun k => (g0.seat k).health - (g0.seat k).health) (g := fun _ => 0) 8 (fun k _ => by omega)]
    have := sumTo_nonneg (f := fun _ => 0) 8 (fun _ _ => Int.le_refl 0); omega
  no := fun _ _ => rfl
  one := fun _ _ _ _ => rfl
theorem Pay.skip {n : Nat} {g0 g : PGame} {F : Nat → Int} (h : Pay n g0 g F) : Pay (n + 1) g0 g F :=
  ⟨h.t, fun k hk => h.out k (by omega), h.f01, h.s0, h.s1, h.h, h.d, h.w, h.c, h.no, h.one⟩

/-- A shot is paid for. -/
theorem Pay.spend {n : Nat} {g0 g : PGame} {F : Nat → Int} (h : Pay n g0 g F) (hn : n < 8) (hc : g.canShoot n = true) : ∃ F', Pay (n + 1) g0 (g.put n ((g.seat n).spent g.tick)) F' ∧ F' n = 1 ∧ sumTo F' 8 = sumTo F 8 + 1 ∧ ∀ k, k ≠ n → F' k = F k := by
  unfold PGame.canShoot at hc
  simp only [Bool.and_eq_true, Bool.not_eq_true', decide_eq_true_eq, decide_eq_false_iff_not] at hc
  obtain ⟨⟨hl, ha⟩, hr⟩ := hc
  have f0 := h.out n (Nat.le_refl _)
  have hF : sumTo (fun k => if k = n then 1 else F k) 8 = sumTo F 8 + 1 := sumTo_set (v := n) (by simp [f0]) (fun k hk => by simp [hk]) 8 hn
  have nn := sumTo_nonneg (f := F) 8 (fun k _ => by rcases h.f01 k with e | e <;> omega)
  have hh : ∀ k, ((g.put n ((g.seat n).spent g.tick)).seat k).health = (g.seat k).health := fun k => by
    by_cases e : k = n
    · subst e; rw [PGame.put_at]; rfl
    · rw [PGame.put_ne _ _ e]
  have hb : ∀ k, ((g.put n ((g.seat n).spent g.tick)).seat k).back = (g.seat k).back := fun k => by
    by_cases e : k = n
    · subst e; rw [PGame.put_at]; rfl
    · rw [PGame.put_ne _ _ e]
  refine ⟨fun k => if k = n then 1 else F k, ⟨h.t, fun k hk => ?_, fun k => ?_, fun k e => ?_, fun k e => ?_, fun k => ?_, fun k e => ?_, ?_, ?_, fun e => ?_, fun e k hk e2 => ?_⟩, by simp, hF, fun k hk => by simp [hk]⟩
  · rw [if_neg (by omega)]; exact h.out k (by omega)
  · by_cases e : k = n
    · simp [e]
    · simp only [if_neg e]; exact h.f01 k
  · by_cases ek : k = n
    · subst ek; simp at e
    · rw [PGame.put_ne _ _ ek]; rw [if_neg ek] at e; exact h.s0 k e
  · by_cases ek : k = n
    · subst ek
      rw [PGame.put_at]
      have := h.s0 k f0
      have := h.h k
      refine ⟨?_, ?_, by omega, by rw [← h.t]; omega⟩
      · show (g.seat k).ammo - 1 = _; omega
      · show g.tick + 3 = _; rw [h.t]
    · rw [PGame.put_ne _ _ ek]; rw [if_neg ek] at e; exact h.s1 k e
  · rw [hh]; exact h.h k
  · rw [hh] at e; rw [hb]; exact h.d k e
  · rw [sumTo_congr (g := fun k => if (g.seat k).health < (g0.seat k).health then 1 else 0) 8 (fun k _ => by rw [hh]), hF]; have := h.w; omega
  · rw [sumTo_congr (g := fun k => (g0.seat k).health - (g.seat k).health) 8 (fun k _ => by rw [hh]), hF]; have := h.c; omega
  · rw [hF] at e; omega
  · rw [hh]; exact h.no (by rw [hF] at e; omega) k

/-- Another one is struck. -/
theorem Pay.struck {n : Nat} {g0 g : PGame} {F F1 : Nat → Int} (h : Pay n g0 g F) {v s : Nat} {x : Int} (hv : v < 8) (hx : x = 25 ∨ x = 60) (hl : 0 < (g.seat v).health) (hs : v ≠ s) (hF : sumTo F 8 = sumTo F1 8 + 1) (h1 : ∀ k, k ≠ s → F k = F1 k)
    (n1 : ∀ k, F1 k = 0 ∨ F1 k = 1) (w1 : sumTo (fun k => if (g.seat k).health < (g0.seat k).health then 1 else 0) 8 ≤ sumTo F1 8) (c1 : sumTo (fun k => (g0.seat k).health - (g.seat k).health) 8 ≤ 60 * sumTo F1 8) : Pay n g0 (g.put v ((g.seat v).hurt x g.tick)) F := by
  have nn := sumTo_nonneg (f := F1) 8 (fun k _ => by rcases n1 k with e | e <;> omega)
  have ha : ∀ k, ((g.put v ((g.seat v).hurt x g.tick)).seat k).ammo = (g.seat k).ammo ∧ ((g.put v ((g.seat v).hurt x g.tick)).seat k).ready = (g.seat k).ready := fun k => by
    by_cases e : k = v
    · subst e; rw [PGame.put_at]; unfold PSeat.hurt; split <;> exact ⟨rfl, rfl⟩
    · rw [PGame.put_ne _ _ e]; exact ⟨rfl, rfl⟩
  have hh : (g.put v ((g.seat v).hurt x g.tick)).seat v = (g.seat v).hurt x g.tick := PGame.put_at _ _ _
  have hu : (((g.seat v).hurt x g.tick).health = (g.seat v).health - x ∧ x < (g.seat v).health) ∨ (((g.seat v).hurt x g.tick).health = 0 ∧ ((g.seat v).hurt x g.tick).back = g.tick + 8 ∧ (g.seat v).health ≤ x) := by
    unfold PSeat.hurt
    split
    · exact .inl ⟨rfl, by assumption⟩
    · exact .inr ⟨rfl, rfl, by omega⟩
  have hk := h.h v
  have W1 := sumTo_one (f := fun k => if (g.seat k).health < (g0.seat k).health then 1 else 0) (g := fun k => if ((g.put v ((g.seat v).hurt x g.tick)).seat k).health < (g0.seat k).health then 1 else 0) (v := v) (x := 1) (by omega) (by split <;> split <;> omega) (fun k e => by rw [PGame.put_ne _ _ e]) 8
  have C1 := sumTo_one (f := fun k => (g0.seat k).health - (g.seat k).health) (g := fun k => (g0.seat k).health - ((g.put v ((g.seat v).hurt x g.tick)).seat k).health) (v := v) (x := 60) (by omega) (by rw [hh]; rcases hu with e | e <;> omega) (fun k e => by rw [PGame.put_ne _ _ e]) 8
  refine ⟨h.t, h.out, h.f01, fun k e => ?_, fun k e => ?_, fun k => ?_, fun k e => ?_, by omega, by omega, fun e => by omega, fun e k hk8 e2 => ?_⟩
  · rw [(ha k).1, (ha k).2]; exact h.s0 k e
  · rw [(ha k).1, (ha k).2]; exact h.s1 k e
  · by_cases ek : k = v
    · subst ek; rw [hh]; rcases hu with e | e <;> omega
    · rw [PGame.put_ne _ _ ek]; exact h.h k
  · by_cases ek : k = v
    · subst ek
      rw [hh] at e ⊢
      rcases hu with e3 | e3
      · omega
      · exact .inr ⟨by omega, by rw [e3.2.1, h.t]⟩
    · rw [PGame.put_ne _ _ ek] at e ⊢; exact h.d k e
  · have z : sumTo F1 8 = 0 := by omega
    have ks : k = s := by
      by_cases e3 : k = s
      · exact e3
      · have := h1 k e3
        have := sumTo_ge (f := F1) (i := k) 8 hk8 (fun k _ => by rcases n1 k with e | e <;> omega)
        omega
    rw [PGame.put_ne _ _ (by rw [ks]; exact fun e => hs e.symm)]
    exact h.one e k hk8 e2

theorem Pay.shoot {n : Nat} {g0 g : PGame} {F : Nat → Int} (h : Pay n g0 g F) (hn : n < 8) (ls : List Lf) (c : Cmd) : ∃ F', Pay (n + 1) g0 (g.shoot ls n c) F' := by
  unfold PGame.shoot
  by_cases hc : g.canShoot n = true
  · rw [if_pos hc]
    obtain ⟨F', p1, p2, p3, p4⟩ := h.spend hn hc
    have hh : ∀ k, ((g.put n ((g.seat n).spent g.tick)).seat k).health = (g.seat k).health := fun k => by
      by_cases e : k = n
      · subst e; rw [PGame.put_at]; rfl
      · rw [PGame.put_ne _ _ e]
    have w1 : sumTo (fun k => if ((g.put n ((g.seat n).spent g.tick)).seat k).health < (g0.seat k).health then 1 else 0) 8 ≤ sumTo F 8 := by
      rw [sumTo_congr (g := fun k => if (g.seat k).health < (g0.seat k).health then 1 else 0) 8 (fun k _ => by rw [hh])]; exact h.w
    have c1 : sumTo (fun k => (g0.seat k).health - ((g.put n ((g.seat n).spent g.tick)).seat k).health) 8 ≤ 60 * sumTo F 8 := by
      rw [sumTo_congr (g := fun k => (g0.seat k).health - (g.seat k).health) 8 (fun k _ => by rw [hh])]; exact h.c
    generalize g.put n ((g.seat n).spent g.tick) = g1 at *
    unfold PGame.strike
    split
    · exact ⟨F', p1⟩
    · rename_i a k x e
      split
      · rcases firstTo_is g1 n (g.seat n).place (wayP c.aim) (timeP g.tick c.time) 8 with e2 | ⟨v, e1, e2, e3, e4, e5⟩
        · rw [e2] at e; cases e
        · rw [e1]
          exact ⟨F', p1.struck e2 (firstTo_dmg e) e4 e3 p3 p4 h.f01 w1 c1⟩
      · exact ⟨F', p1⟩
  · rw [if_neg hc]; exact ⟨F, h.skip⟩
theorem Pay.all (g0 : PGame) (h0 : ∀ k, 0 ≤ (g0.seat k).health) (ls : List Lf) (cm : Nat → Cmd) : ∀ n, n ≤ 8 → ∃ F, Pay n g0 (g0.shootTo ls cm n) F
  | 0, _ => ⟨_, Pay.start g0 h0⟩
  | n + 1, hn => by
    obtain ⟨F, h⟩ := Pay.all g0 h0 ls cm n (by omega)
    unfold PGame.shootTo
    split
    · exact h.shoot (by omega) ls _
    · exact ⟨F, h.skip⟩

/-- Of the dead the book knows when they come back. -/
def Dead (b : Book) (g : PGame) : Prop := ∀ i, i < 8 → (0 ≤ b.died i ∧ b.died i ≤ 3000) ∧ ((g.seat i).taken = true → (g.seat i).health = 0 → (g.seat i).back = b.died i + 8 ∧ g.tick < (g.seat i).back)
theorem Dead.none : Dead Book.none PGame.fresh := fun i hi => ⟨⟨Int.le_refl 0, show (0 : Int) ≤ 3000 by decide⟩, fun h => by cases h⟩

theorem obeyed_more (s : PSeat) (ls : List Lf) : (s.obeyed ls).health = s.health ∧ (s.obeyed ls).ammo = s.ammo ∧ (s.obeyed ls).ready = s.ready ∧ (s.obeyed ls).back = s.back ∧ (s.obeyed ls).taken = s.taken := by
  unfold PSeat.obeyed
  split
  · exact ⟨rfl, rfl, rfl, rfl, rfl⟩
  split
  · unfold PSeat.moved
    split <;> exact ⟨rfl, rfl, rfl, rfl, rfl⟩
  · exact ⟨rfl, rfl, rfl, rfl, rfl⟩
/-- A slot behind who comes back, who walks and what is recorded. -/
theorem notes_more (g : PGame) (ls : List Lf) {k : Nat} (hk : k < 8) : ((g.notes ls).seat k).health = ((g.seat k).revived (g.tick + 1)).health ∧ ((g.notes ls).seat k).ammo = ((g.seat k).revived (g.tick + 1)).ammo ∧ ((g.notes ls).seat k).ready = ((g.seat k).revived (g.tick + 1)).ready ∧ ((g.notes ls).seat k).back = ((g.seat k).revived (g.tick + 1)).back ∧ ((g.notes ls).seat k).taken = (g.seat k).taken := by
  rw [notes_at g ls hk]
  generalize hs : (g.seat k).revived (g.tick + 1) = s
  have ht : s.taken = (g.seat k).taken := by rw [← hs, revived_taken]
  obtain ⟨h1, h2, h3, h4, h5⟩ := obeyed_more s ls
  obtain ⟨tr, n, e⟩ := note_same (s.obeyed ls) (g.tick + 1)
  rw [e]
  exact ⟨h1, h2, h3, h4, h5.trans ht⟩

theorem PSeat.Ok.byte {s : PSeat} (h : s.Ok) {t : Int} (hr : s.ready ≤ t + 3) : (s.span t).Byte where
  l0 := by show 0 ≤ s.liveN; unfold PSeat.liveN; split <;> decide
  l1 := by show s.liveN ≤ 255; unfold PSeat.liveN; split <;> decide
  h0 := h.h0
  h1 := by show s.health ≤ 255; have := h.h1; omega
  a0 := h.a0
  a1 := by show s.ammo ≤ 255; have := h.a1; omega
  f0 := by show 0 ≤ s.cooling t; unfold PSeat.cooling; split <;> omega
  f1 := by show s.cooling t ≤ 255; unfold PSeat.cooling; split <;> omega
theorem lives_byte {b : Book} {g : PGame} (h : g.Ok) (i : Nat) : (livesA b g i).Byte := by
  unfold livesA
  split
  · exact (h.s i).byte (h.r i)
  · exact ⟨by decide, by decide, by decide, by decide, by decide, by decide, by decide, by decide⟩

theorem lives_live (b : Book) (g : PGame) (i : Nat) : (livesA b g i).live = 0 ∨ (livesA b g i).live = 1 := by
  unfold livesA
  split
  · show (g.seat i).liveN = 0 ∨ (g.seat i).liveN = 1
    unfold PSeat.liveN
    split
    · exact .inr rfl
    · exact .inl rfl
  · exact .inl rfl

/-- A tick's shots, told of the slots themselves. -/
theorem fair_step {b : Book} {g : PGame} (hO : b.Of g) (hk : g.Ok) (hd : Dead b g) (ht : ¬ 3000 ≤ g.tick) (ls : List Lf) :
    Fair { b with tick := b.tick + 1 } (livesA b g) (livesA { b with tick := b.tick + 1 } (g.walk ls)) ∧ Dead (({ b with tick := b.tick + 1 } : Book).paidTo (livesA b g) (livesA { b with tick := b.tick + 1 } (g.walk ls)) 8) (g.walk ls) := by
  have ok0 := hk.notes ht ls
  have okW : (g.walk ls).Ok := ok0.shootTo ls _ 8
  obtain ⟨F, P⟩ := Pay.all (g.notes ls) (fun k => (ok0.s k).h0) ls g.orders 8 (Nat.le_refl _)
  have T0 : (g.notes ls).tick = g.tick + 1 := rfl
  change Pay 8 (g.notes ls) (g.walk ls) F at P
  have TW : (g.walk ls).tick = g.tick + 1 := walk_tick g ls
  obtain ⟨B, hB⟩ : ∃ B : Book, B = { b with tick := b.tick + 1 } := ⟨_, rfl⟩
  rw [← hB]
  have Bt : B.tick = g.tick + 1 := by rw [hB, ← hO.t]
  have Bh : ∀ i, B.here i = b.here i := fun i => by rw [hB]
  have Bd : ∀ i, B.died i = b.died i := fun i => by rw [hB]
  obtain ⟨old, hold⟩ : ∃ o, livesA b g = o := ⟨_, rfl⟩
  obtain ⟨now, hnow⟩ : ∃ o, livesA B (g.walk ls) = o := ⟨_, rfl⟩
  rw [hold, hnow]
  -- as it was: the slot behind who comes back
  have was : ∀ i, i < 8 → B.here i = true → (B.was old i).health = ((g.notes ls).seat i).health ∧ (B.was old i).ammo = ((g.notes ls).seat i).ammo ∧ ((B.was old i).live = if 0 < ((g.notes ls).seat i).health then 1 else 0) ∧ ((B.was old i).left = if ((g.notes ls).seat i).ready ≤ g.tick then 0 else ((g.notes ls).seat i).ready - g.tick) ∧ ((old i).live = 0 ∨ (old i).health = ((g.notes ls).seat i).health) := fun i hi hh => by
    have hb : b.here i = true := Bh i ▸ hh
    have tk : (g.seat i).taken = true := by rw [← hO.h i hi]; exact hb
    obtain ⟨m1, m2, m3, m4, m5⟩ := notes_more g ls hi
    have oi : old i = (g.seat i).span g.tick := by rw [← hold]; unfold livesA; rw [if_pos hb]
    have lv : (old i).live = (g.seat i).liveN := by rw [oi]; rfl
    have hdi := hd i hi
    have h0 := (hk.s i).h0
    have r0 := (hk.s i).r0
    rw [m1, m2, m3]
    unfold Book.was
    rw [Bt, Bd]
    by_cases c : (old i).live = 0 ∧ g.tick + 1 = b.died i + 8
    · rw [if_pos c]
      have z : (g.seat i).health = 0 := by
        have := c.1; rw [lv] at this; unfold PSeat.liveN at this; split at this
        · cases this
        · omega
      have bk := hdi.2 tk z
      have e : (g.seat i).revived (g.tick + 1) = (g.seat i).enter (g.seat i).home := by unfold PSeat.revived; rw [if_pos ⟨tk, by omega, by omega⟩]
      rw [e]
      refine ⟨rfl, rfl, by rfl, ?_, .inl c.1⟩
      show (0 : Int) = if (0 : Int) ≤ g.tick then 0 else 0 - g.tick
      rw [if_pos hk.t0]
    · rw [if_neg c]
      have e : (g.seat i).revived (g.tick + 1) = g.seat i := by
        unfold PSeat.revived
        rw [if_neg]
        rintro ⟨_, e2, e3⟩
        have z : (g.seat i).health = 0 := by omega
        have bk := hdi.2 tk z
        apply c
        refine ⟨?_, by omega⟩
        rw [lv]; unfold PSeat.liveN; rw [if_neg e2]
      rw [e, oi]
      exact ⟨rfl, rfl, rfl, rfl, .inr rfl⟩
  have nowi : ∀ i, i < 8 → B.here i = true → now i = ((g.walk ls).seat i).span (g.tick + 1) := fun i hi hh => by
    rw [← hnow]; unfold livesA; rw [if_pos hh, TW]
  -- who has no client has no part in it
  have free : ∀ i, i < 8 → ¬ B.here i = true → F i = 0 ∧ ((g.notes ls).seat i).health = 0 ∧ ((g.walk ls).seat i).health = 0 := fun i hi hh => by
    have tk : (g.seat i).taken = false := by
      have := hO.h i hi; rw [Bh] at hh
      cases e : (g.seat i).taken
      · rfl
      · rw [e] at this; exact absurd this hh
    obtain ⟨m1, m2, m3, m4, m5⟩ := notes_more g ls hi
    have z : ((g.notes ls).seat i).health = 0 := (ok0.s i).free (m5.trans tk)
    refine ⟨?_, z, by have := P.h i; omega⟩
    rcases P.f01 i with e | e
    · exact e
    · have := (P.s1 i e).2.2.1; omega
  have cool : ∀ i, i < 8 → B.here i = true → (now i).left = ((g.walk ls).seat i).cooling (g.tick + 1) := fun i hi hh => by rw [nowi i hi hh]; rfl
  have sN : ∀ i, i < 8 → B.shotN old now i = F i := fun i hi => by
    unfold Book.shotN
    by_cases hh : B.here i = true
    · have w := was i hi hh
      have na : (now i).ammo = ((g.walk ls).seat i).ammo := by rw [nowi i hi hh]; rfl
      rcases P.f01 i with e | e
      · rw [if_neg (fun k => k.2 (by rw [na, w.2.1]; exact (P.s0 i e).1)), e]
      · have := (P.s1 i e).1
        rw [if_pos ⟨hh, by rw [na, w.2.1]; omega⟩, e]
    · rw [if_neg (fun k => hh k.1), (free i hi hh).1]
  have nh : ∀ i, i < 8 → B.here i = true → (now i).health = ((g.walk ls).seat i).health := fun i hi hh => by rw [nowi i hi hh]; rfl
  have wN : ∀ i, i < 8 → B.woundN old now i = if ((g.walk ls).seat i).health < ((g.notes ls).seat i).health then 1 else 0 := fun i hi => by
    unfold Book.woundN
    by_cases hh : B.here i = true
    · have w := was i hi hh
      rw [nh i hi hh, w.1]
      by_cases c : ((g.walk ls).seat i).health < ((g.notes ls).seat i).health
      · rw [if_pos ⟨hh, c⟩, if_pos c]
      · rw [if_neg (fun k => c k.2), if_neg c]
    · have f := free i hi hh
      rw [if_neg (fun k => hh k.1), if_neg (by omega)]
  have cN : ∀ i, i < 8 → B.costN old now i = ((g.notes ls).seat i).health - ((g.walk ls).seat i).health := fun i hi => by
    unfold Book.costN
    have := P.h i
    by_cases hh : B.here i = true
    · have w := was i hi hh
      rw [nh i hi hh, w.1]
      by_cases c : ((g.walk ls).seat i).health < ((g.notes ls).seat i).health
      · rw [if_pos ⟨hh, c⟩]
      · rw [if_neg (fun k => c k.2)]; omega
    · have f := free i hi hh
      rw [if_neg (fun k => hh k.1)]; omega
  have sS : sumTo (B.shotN old now) 8 = sumTo F 8 := sumTo_congr 8 sN
  refine ⟨⟨fun i hi hh => ?_, fun i => by rw [← hold]; exact lives_byte hk i, fun i => by rw [← hold]; exact lives_live b g i, fun i => by rw [← hnow]; exact lives_byte okW i, by rw [sS, sumTo_congr 8 wN]; exact P.w, by rw [sS, sumTo_congr 8 cN]; exact P.c, fun e i hi e2 => ?_, by rw [Bt]; have := hk.t0; omega, by rw [Bt]; omega, fun i hi => by rw [Bd]; exact (hd i hi).1⟩, fun i hi => ⟨?_, fun tk z => ?_⟩⟩
  · have w := was i hi hh
    have ni := nowi i hi hh
    have nl : (now i).live = ((g.walk ls).seat i).liveN := by rw [ni]; rfl
    have na : (now i).ammo = ((g.walk ls).seat i).ammo := by rw [ni]; rfl
    have nf := cool i hi hh
    have ph := P.h i
    refine ⟨?_, by rw [nh i hi hh, w.1]; exact ph.1, ?_, ?_, fun z => ?_⟩
    · unfold fairB
      rcases P.f01 i with e | e
      · have s := P.s0 i e
        rw [if_pos (by rw [na, w.2.1]; exact s.1)]
        refine decide_eq_true ?_
        rw [nf, w.2.2.2.1]
        unfold PSeat.cooling lessI
        rw [s.2]
        split <;> split <;> split <;> omega
      · have s := P.s1 i e
        rw [if_neg (by rw [na, w.2.1]; omega), Bool.and_eq_true, Bool.and_eq_true]
        refine ⟨⟨decide_eq_true (by rw [na, w.2.1]; exact s.1), decide_eq_true ?_⟩, decide_eq_true ?_⟩
        · rw [w.2.2.2.1]; have := s.2.2.2; rw [T0] at this; split <;> omega
        · rw [nf]; unfold PSeat.cooling; rw [s.2.1, T0, if_neg (by omega)]; omega
    · rw [nl, nh i hi hh]; unfold PSeat.liveN
      split
      · exact ⟨fun _ => by assumption, fun _ => rfl⟩
      · exact ⟨fun e => (by cases e), fun e => (by omega)⟩
    · rw [nl]; unfold PSeat.liveN; split <;> decide
    · rw [na, w.2.1]
      rw [w.2.2.1] at z
      rcases P.f01 i with e | e
      · exact (P.s0 i e).1
      · have := (P.s1 i e).2.2.1
        rw [if_pos this] at z; cases z
  · rw [sS] at e
    rw [sN i hi] at e2
    have hh : B.here i = true := by
      by_cases hh : B.here i = true
      · exact hh
      · have := (free i hi hh).1; omega
    have w := was i hi hh
    have := P.one e i hi e2
    rcases w.2.2.2.2 with h | h
    · exact .inr h
    · exact .inl (by rw [nh i hi hh, h]; exact this)
  · show 0 ≤ (if _ then B.tick else B.died i) ∧ (if _ then B.tick else B.died i) ≤ 3000
    have := hk.t0
    split
    · rw [Bt]; omega
    · rw [Bd]; exact (hd i hi).1
  · have tk0 : (g.seat i).taken = true := by rw [← walk_taken g ls hi]; exact tk
    have hh : B.here i = true := by rw [Bh, hO.h i hi]; exact tk0
    have w := was i hi hh
    obtain ⟨m1, m2, m3, m4, m5⟩ := notes_more g ls hi
    have nl : (now i).live = 0 := by rw [nowi i hi hh]; show ((g.walk ls).seat i).liveN = 0; unfold PSeat.liveN; rw [if_neg (by omega)]
    show ((g.walk ls).seat i).back = (if i < 8 ∧ B.here i = true ∧ (B.was old i).live = 1 ∧ (now i).live = 0 then B.tick else B.died i) + 8 ∧ (g.walk ls).tick < ((g.walk ls).seat i).back
    rw [TW]
    rcases P.d i z with ⟨e1, e2⟩ | ⟨e1, e2⟩
    · rw [w.2.2.1, if_neg (show ¬ 0 < ((g.notes ls).seat i).health by omega), if_neg (fun k => by cases k.2.2.1), Bd]
      have z0 : ((g.seat i).revived (g.tick + 1)).health = 0 := by rw [← m1]; exact e1
      have nr : ¬ ((g.seat i).taken = true ∧ ¬ 0 < (g.seat i).health ∧ (g.seat i).back ≤ g.tick + 1) := fun k => by
        unfold PSeat.revived at z0; rw [if_pos k] at z0; cases z0
      have er : (g.seat i).revived (g.tick + 1) = g.seat i := by unfold PSeat.revived; rw [if_neg nr]
      rw [er] at z0 m4
      have bk := (hd i hi).2 tk0 z0
      rw [e2, m4]
      refine ⟨bk.1, ?_⟩
      have : ¬ (g.seat i).back ≤ g.tick + 1 := fun k => nr ⟨tk0, by omega, k⟩
      omega
    · rw [w.2.2.1, if_pos e1, if_pos ⟨hi, hh, rfl, nl⟩, e2, T0, Bt]
      exact ⟨rfl, by omega⟩

/-- A step that is no tick keeps what the book knows of the dead. -/
theorem Dead.same {b b' : Book} {g g' : PGame} (h : Dead b g) (hd : ∀ i, b'.died i = b.died i) (ht : g'.tick = g.tick) (hs : ∀ i, i < 8 → (g'.seat i).health = 0 → (g'.seat i).taken = true → (g.seat i).taken = true ∧ (g.seat i).health = 0 ∧ (g'.seat i).back = (g.seat i).back) : Dead b' g' := fun i hi => by
  rw [hd]
  refine ⟨(h i hi).1, fun tk z => ?_⟩
  obtain ⟨a1, a2, a3⟩ := hs i hi z tk
  rw [ht, a3]; exact (h i hi).2 a1 a2
theorem Dead.play {b : Book} {g : PGame} (h : Dead b g) (o : KOp) (ht : (playG g o).tick = g.tick) : Dead (playB b g o) (playG g o) := by
  refine h.same (fun i => ?_) ht (fun i hi z tk => ?_)
  · unfold playB Book.join Book.leave Book.up Book.set
    split
    · split
      · split <;> rfl
      · rfl
    · split
      · split <;> rfl
      · split
        · rfl
        · split <;> rfl
  · unfold playG at ht z tk ⊢
    by_cases h1 : o.kind = 1
    · rw [if_pos h1] at z tk ⊢
      unfold PGame.connect at z tk ⊢
      split at z
      · rename_i c; rw [if_pos c] at tk ⊢; exact ⟨tk, z, rfl⟩
      · rename_i c
        rw [if_neg c] at tk ⊢
        cases hf : g.free with
        | none => rw [hf] at z tk; exact ⟨tk, z, rfl⟩
        | some k =>
          rw [hf] at z tk
          by_cases e : i = k
          · subst e; rw [PGame.put_at] at z; cases z
          · rw [PGame.put_ne _ _ e] at z tk; rw [PGame.put_ne _ _ e]; exact ⟨tk, z, rfl⟩
    · rw [if_neg h1] at z tk ht ⊢
      by_cases h2 : o.kind = 2
      · rw [if_pos h2] at z tk ⊢
        unfold PGame.leave at z tk ⊢
        split at z
        · rename_i c
          rw [if_pos c] at tk ⊢
          by_cases e : i = o.slot.toNat
          · subst e; rw [PGame.put_at] at tk; cases tk
          · rw [PGame.put_ne _ _ e] at z tk ⊢; exact ⟨tk, z, rfl⟩
        · rename_i c; rw [if_neg c] at tk ⊢; exact ⟨tk, z, rfl⟩
      · rw [if_neg h2] at z tk ht ⊢
        by_cases h3 : o.kind = 3
        · rw [if_pos h3] at z tk ⊢
          have pk : ((g.packet o.slot (decR o.s) (decE o.s)).2.seat i).taken = (g.seat i).taken ∧ ((g.packet o.slot (decR o.s) (decE o.s)).2.seat i).health = (g.seat i).health ∧ ((g.packet o.slot (decR o.s) (decE o.s)).2.seat i).back = (g.seat i).back := by
            unfold PGame.packet
            split
            · exact ⟨rfl, rfl, rfl⟩
            split
            · exact ⟨rfl, rfl, rfl⟩
            split
            · exact ⟨rfl, rfl, rfl⟩
            split
            · exact ⟨rfl, rfl, rfl⟩
            · by_cases e : i = o.slot.toNat
              · subst e; rw [PGame.put_at]; exact ⟨rfl, rfl, rfl⟩
              · rw [PGame.put_ne _ _ e]; exact ⟨rfl, rfl, rfl⟩
          exact ⟨pk.1 ▸ tk, pk.2.1 ▸ z, pk.2.2⟩
        · rw [if_neg h3] at z tk ht ⊢
          unfold PGame.step at z tk ht ⊢
          split at z
          · rename_i c; rw [if_pos c] at tk ⊢; exact ⟨tk, z, rfl⟩
          · rename_i c; rw [if_neg c] at ht; have : (g.walk z0L).tick = g.tick := ht; rw [walk_tick] at this; omega

/- The sums of one tick, slot by slot. -/
theorem shotN_01 (b : Book) (old now : Nat → Span) (i : Nat) : b.shotN old now i = 0 ∨ b.shotN old now i = 1 := by
  unfold Book.shotN; split
  · exact .inr rfl
  · exact .inl rfl
theorem woundN_01 (b : Book) (old now : Nat → Span) (i : Nat) : 0 ≤ b.woundN old now i ∧ b.woundN old now i ≤ 1 := by unfold Book.woundN; split <;> decide
theorem was_byte {b : Book} {old now : Nat → Span} (h : Fair b old now) (i : Nat) : (b.was old i).Byte := by
  unfold Book.was; split
  · exact ⟨by decide, by decide, by decide, by decide, by decide, by decide, by decide, by decide⟩
  · exact h.o i
theorem was_live {b : Book} {old now : Nat → Span} (h : Fair b old now) (i : Nat) : (b.was old i).live = 0 ∨ (b.was old i).live = 1 := by
  unfold Book.was; split
  · exact .inr rfl
  · exact h.ol i
theorem costN_bd {b : Book} {old now : Nat → Span} (h : Fair b old now) (i : Nat) : 0 ≤ b.costN old now i ∧ b.costN old now i ≤ 255 := by
  have := was_byte h i
  have a := this.h1
  have c := (h.n i).h0
  unfold Book.costN; split
  · omega
  · decide
theorem sums_bd {b : Book} {old now : Nat → Span} (h : Fair b old now) (n : Nat) (hn : n ≤ 8) : (0 ≤ sumTo (b.shotN old now) n ∧ sumTo (b.shotN old now) n ≤ 8) ∧ (0 ≤ sumTo (b.woundN old now) n ∧ sumTo (b.woundN old now) n ≤ 8) ∧ (0 ≤ sumTo (b.costN old now) n ∧ sumTo (b.costN old now) n ≤ 2040) := by
  have s1 := sumTo_nonneg (f := b.shotN old now) n (fun k _ => by rcases shotN_01 b old now k with e | e <;> omega)
  have s2 := sumTo_le (f := b.shotN old now) (c := 1) (by decide) n (fun k _ => by rcases shotN_01 b old now k with e | e <;> omega)
  have w1 := sumTo_nonneg (f := b.woundN old now) n (fun k _ => (woundN_01 b old now k).1)
  have w2 := sumTo_le (f := b.woundN old now) (c := 1) (by decide) n (fun k _ => (woundN_01 b old now k).2)
  have c1 := sumTo_nonneg (f := b.costN old now) n (fun k _ => (costN_bd h k).1)
  have c2 := sumTo_le (f := b.costN old now) (c := 255) (by decide) n (fun k _ => (costN_bd h k).2)
  omega
theorem last_is (b : Book) (old now : Nat → Span) : ∀ n, 0 < sumTo (b.shotN old now) n → ∃ i : Nat, i < n ∧ b.lastN old now n = i ∧ b.shotN old now i = 1
  | 0, h => by cases h
  | n + 1, h => by
    unfold Book.lastN
    rcases shotN_01 b old now n with e | e
    · rw [if_neg (by omega)]
      unfold sumTo at h
      obtain ⟨i, h1, h2, h3⟩ := last_is b old now n (by omega)
      exact ⟨i, by omega, h2, h3⟩
    · rw [if_pos e]; exact ⟨n, by omega, rfl, e⟩
theorem paidTo_0 (b : Book) (old now : Nat → Span) : b.paidTo old now 0 = b := by
  unfold Book.paidTo
  have : (fun i => if i < 0 ∧ b.here i = true ∧ (b.was old i).live = 1 ∧ (now i).live = 0 then b.tick else b.died i) = b.died := by funext i; rw [if_neg (fun k => by omega)]
  rw [this]
theorem paidTo_at (b : Book) (old now : Nat → Span) (j : Nat) : (b.paidTo old now j).died j = b.died j := by
  show (if j < j ∧ _ then b.tick else b.died j) = _; rw [if_neg (fun k => by omega)]
theorem paidTo_skip (b : Book) (old now : Nat → Span) (j : Nat) (h : ¬ (b.here j = true ∧ (b.was old j).live = 1 ∧ (now j).live = 0)) : b.paidTo old now (j + 1) = b.paidTo old now j := by
  unfold Book.paidTo
  congr 1
  funext i
  by_cases e : i = j
  · subst e; rw [if_neg (fun k => h k.2), if_neg (fun k => h k.2)]
  · by_cases c : b.here i = true ∧ (b.was old i).live = 1 ∧ (now i).live = 0
    · by_cases l : i < j
      · rw [if_pos ⟨by omega, c⟩, if_pos ⟨l, c⟩]
      · rw [if_neg (fun k => by omega), if_neg (fun k => by omega)]
    · rw [if_neg (fun k => c k.2), if_neg (fun k => c k.2)]
theorem paidTo_died (b : Book) (old now : Nat → Span) (j : Nat) (h : b.here j = true ∧ (b.was old j).live = 1 ∧ (now j).live = 0) : b.paidTo old now (j + 1) = { b.paidTo old now j with died := fun i => if i = j then b.tick else (b.paidTo old now j).died i } := by
  unfold Book.paidTo
  congr 1
  funext i
  by_cases e : i = j
  · subst e; rw [if_pos ⟨by omega, h⟩, if_pos rfl]
  · rw [if_neg e]
    show _ = if i < j ∧ b.here i = true ∧ (b.was old i).live = 1 ∧ (now i).live = 0 then b.tick else b.died i
    by_cases c : b.here i = true ∧ (b.was old i).live = 1 ∧ (now i).live = 0
    · by_cases l : i < j
      · rw [if_pos ⟨by omega, c⟩, if_pos ⟨l, c⟩]
      · rw [if_neg (fun k => by omega), if_neg (fun k => by omega)]
    · rw [if_neg (fun k => c k.2), if_neg (fun k => c k.2)]

end Go.Proofs.Ytonmihojfcjmjab.M
