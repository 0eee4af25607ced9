import Derived.Test.YtonmihojfcjmjaaGreatBM
/- The meaning of the document's game: no memory in sight. -/
namespace Go.Proofs.YtonmihojfcjmjaaGreat.M

/-- A slot. -/
structure Seat where
  here : Bool
  live : Bool
  pos : V3
  home : V3
  health : Int
  ammo : Int
  shot : Int
  died : Int
  gen : Int
  last : Int
  wait : List Cmd

/-- A record that was ever made. -/
structure Track where
  slot : Int
  gen : Int
  tick : Int
  pos : V3

/-- A game. -/
structure Game where
  map : ByteArray
  leafs : List Lf
  tick : Int
  seat : Nat → Seat
  log : List Track

def V3.nil : V3 := ⟨0, 0, 0⟩
def Seat.none (gen : Int) : Seat := ⟨false, false, V3.nil, V3.nil, 0, 0, 0, 0, gen, 0, []⟩
def Game.put (g : Game) (i : Nat) (s : Seat) : Game := { g with seat := fun j => if j = i then s else g.seat j }
theorem Game.put_at (g : Game) (i : Nat) (s : Seat) : (g.put i s).seat i = s := by simp [Game.put]
theorem Game.put_ne (g : Game) {i j : Nat} (s : Seat) (h : j ≠ i) : (g.put i s).seat j = g.seat j := by simp [Game.put, h]

/-- New. -/
def Game.fresh (m : ByteArray) (ls : List Lf) : Game := ⟨m, ls, 0, fun _ => Seat.none 0, []⟩

/-- The slot's player is live, at its home. -/
def Seat.arrive (s : Seat) : Seat := { s with live := true, pos := s.home, health := 100, ammo := 6, shot := -1, gen := s.gen + 1 }

/-- Has the slot a client? -/
def Game.hereB (g : Game) (slot : Int) : Bool := decide (0 ≤ slot) && decide (slot < 8) && (g.seat slot.toNat).here

/-- The lowest free slot, from i on. -/
def Game.freeFrom (g : Game) : Nat → Nat → Option Nat
  | 0, _ => Option.none
  | n + 1, i => if (g.seat i).here = false then some i else g.freeFrom n (i + 1)
def Game.free (g : Game) : Option Nat := g.freeFrom 8 0


/-- Connect: the answer, the error, the game behind it. -/
def Game.connect (g : Game) (p : V3) : Int × Int × Game :=
  if (cubB p && decide (0 ≤ zR p g.leafs (-1))) = false then (0, 5, g)
  else match g.free with
    | some i => ((i : Int), 0, g.put i (Seat.arrive { Seat.none (g.seat i).gen with here := true, home := p }))
    | Option.none => (0, 6, g)

/-- Disconnect. -/
def Game.leave (g : Game) (slot : Int) : Int × Game :=
  if g.hereB slot then (0, g.put slot.toNat (Seat.none (g.seat slot.toNat).gen)) else (7, g)

/-- A command waits. -/
def Seat.queue (s : Seat) (c : Cmd) : Seat := { s with wait := s.wait ++ [c], last := c.seq }

/-- Packet, of what Decode tells. -/
def Game.packet (g : Game) (slot : Int) (c : Cmd) (e : Int) : Int × Game :=
  if g.hereB slot = false then (7, g)
  else if e ≠ 0 then (e, g)
  else if c.seq ≤ (g.seat slot.toNat).last then (9, g)
  else if 4 ≤ (g.seat slot.toNat).wait.length then (10, g)
  else (0, g.put slot.toNat ((g.seat slot.toNat).queue c))

def bring (v lo hi : Int) : Int := if v < lo then lo else if v > hi then hi else v
theorem bring_bd {v lo hi : Int} (h : lo ≤ hi) : lo ≤ bring v lo hi ∧ bring v lo hi ≤ hi := by unfold bring; split; omega; split <;> omega

/-- The goal of a move. -/
def goal (p m : V3) : V3 := ⟨bring (p.x + bring m.x (-32) 32) 0 4096, bring (p.y + bring m.y (-32) 32) 0 4096, bring (p.z + bring m.z (-32) 32) 0 4096⟩

/-- The two bytes of a number. -/
def two (n : Int) : List UInt8 := [b8 n, b8 (n / 256)]

/-- Is the player of slot j told of to the client of slot i? -/
def Game.told (g : Game) (i j : Nat) : Bool :=
  decide (i = j) || ((g.seat j).here && (g.seat j).live &&
    decide (((g.seat i).pos.x - (g.seat j).pos.x) * ((g.seat i).pos.x - (g.seat j).pos.x) + ((g.seat i).pos.y - (g.seat j).pos.y) * ((g.seat i).pos.y - (g.seat j).pos.y) + ((g.seat i).pos.z - (g.seat j).pos.z) * ((g.seat i).pos.z - (g.seat j).pos.z) ≤ 1048576) &&
    sees g.map (zR (g.seat i).pos g.leafs (-1)) (zR (g.seat j).pos g.leafs (-1)))

/-- What is told of one player. -/
def Seat.entry (s : Seat) (j : Nat) : List UInt8 := [b8 j, b8 s.gen, b8 s.health] ++ two s.pos.x ++ two s.pos.y ++ two s.pos.z
def Game.entries (g : Game) (i : Nat) : Nat → Nat → List UInt8
  | 0, _ => []
  | n + 1, j => (if g.told i j then (g.seat j).entry j else []) ++ g.entries i n (j + 1)
def Game.count (g : Game) (i : Nat) : Nat → Nat → Nat
  | 0, _ => 0
  | n + 1, j => (if g.told i j then 1 else 0) + g.count i n (j + 1)
/-- Ticks until the next shot. -/
def Game.left (g : Game) (s : Seat) : Int := if 0 ≤ s.shot then bring (s.shot + 3 - g.tick) 0 3 else 0
def Game.snap (g : Game) (i : Nat) : List UInt8 :=
  [83] ++ two g.tick ++ [b8 i, b8 (fireN (g.seat i).live), b8 (g.seat i).health, b8 (g.seat i).ammo, b8 (g.left (g.seat i)), b8 (g.count i 8 0)] ++ g.entries i 8 0

end Go.Proofs.YtonmihojfcjmjaaGreat.M

/- Two ways to keep a game are one: records and times. No memory in sight. -/
namespace Go.Proofs.YtonmihojfcjmjaaGreat.M
set_option linter.unusedVariables false

/- A list's last seventeen. -/
def last17 (l : List Rec) : List Rec := l.drop (l.length - 17)
theorem last17_short {l : List Rec} (h : l.length ≤ 17) : last17 l = l := by unfold last17; rw [show l.length - 17 = 0 by omega]; rfl
theorem last17_len (l : List Rec) : (last17 l).length = min l.length 17 := by unfold last17; rw [List.length_drop]; omega
theorem last17_snoc (l : List Rec) (r : Rec) : last17 (last17 l ++ [r]) = last17 (l ++ [r]) := by
  unfold last17
  rw [List.length_append, List.length_append, List.length_drop, List.length_singleton]
  by_cases h : l.length ≤ 16
  · rw [show l.length - 17 = 0 by omega]; rfl
  · rw [List.drop_append_of_le_length (by rw [List.length_drop]; omega), List.drop_append_of_le_length (by omega), List.drop_drop]
    congr 2
    omega

/-- The records are of all ticks up to u. -/
def Runs (u : Int) (l : List Rec) : Prop := ∀ (i : Nat) (r : Rec), l[i]? = some r → r.tick + l.length = u + 1 + i
theorem Runs.nil (u : Int) : Runs u [] := fun i r h => by simp at h
theorem Runs.snoc {u : Int} {l : List Rec} (h : Runs u l) {r : Rec} (hr : r.tick = u + 1) : Runs (u + 1) (l ++ [r]) := fun i x hx => by
  rw [List.length_append, List.length_singleton]
  by_cases hi : i < l.length
  · rw [List.getElem?_append_left hi] at hx
    have := h i x hx
    omega
  · rw [List.getElem?_append_right (by omega)] at hx
    have : i - l.length = 0 := by
      by_cases e : i - l.length = 0
      · exact e
      · rw [List.getElem?_eq_none (by simp; omega)] at hx; cases hx
    rw [this] at hx
    have e : r = x := by simpa using hx
    rw [← e]; omega

theorem poseF_skip (t : Int) : ∀ (l : List Rec) (a b : Rec) (m : List Rec), (∀ r ∈ l, 256 * r.tick ≤ t) → 256 * b.tick ≤ t → poseF a t (l ++ b :: m) = poseF b t m
  | [], a, b, m, _, hb => by show (if t < 256 * b.tick then _ else _) = _; rw [if_neg (by omega)]
  | x :: l, a, b, m, h, hb => by
    show (if t < 256 * x.tick then _ else poseF x t (l ++ b :: m)) = _
    rw [if_neg (by have := h x (by simp); omega)]
    exact poseF_skip t l x b m (fun r hr => h r (by simp [hr])) hb
theorem mid_first {a b : Rec} {t : Int} (h : t = 256 * a.tick) (hb : a.tick < b.tick) : mid a b t = a.pos := by
  have bl : ∀ x y : Int, blend x y (t - 256 * a.tick) (256 * b.tick - t) = x := fun x y => by
    unfold blend
    rw [show t - 256 * a.tick = 0 by omega, Int.mul_zero, Int.add_zero, Int.zero_add]
    exact Int.mul_ediv_cancel _ (by omega)
  unfold mid
  rw [bl, bl, bl]
/-- The last seventeen tell as much as all. -/
theorem pose_last {u t : Int} {l : List Rec} (h : Runs u l) (ht : 256 * (u - 16) ≤ t) : pose t (last17 l) = pose t l := by
  by_cases hs : l.length ≤ 17
  · rw [last17_short hs]
  · obtain ⟨A, B, e, eA⟩ : ∃ A B, l = A ++ B ∧ A.length = l.length - 17 := ⟨l.take (l.length - 17), l.drop (l.length - 17), (List.take_append_drop _ _).symm, by rw [List.length_take]; omega⟩
    have eB : last17 l = B := by unfold last17; rw [← eA]; conv => lhs; rw [e]
                                 exact List.drop_left
    rw [eB]
    have lB : B.length = 17 := by have := congrArg List.length e; rw [List.length_append] at this; omega
    match B, lB, e with
    | b :: c :: B', lB, e =>
      have hb : b.tick = u - 16 := by
        have := h A.length b (by rw [e, List.getElem?_append_right (by omega)]; simp)
        omega
      have hc : c.tick = u - 15 := by
        have := h (A.length + 1) c (by rw [e, List.getElem?_append_right (by omega)]; simp)
        omega
      match A, eA, e with
      | [], eA, e => exact absurd eA (by rw [List.length_nil]; omega)
      | a :: A', eA, e =>
        have hA : ∀ r ∈ a :: A', r.tick < u - 16 := fun r hr => by
          obtain ⟨i, hi, ei⟩ := List.getElem_of_mem hr
          have := h i r (by rw [e, List.getElem?_append_left hi, List.getElem?_eq_getElem hi, ei])
          omega
        rw [e]
        show (if t ≤ 256 * b.tick then b.pos else poseF b t (b :: c :: B')) = (if t ≤ 256 * a.tick then a.pos else poseF a t ((a :: A') ++ b :: c :: B'))
        have ha := hA a (by simp)
        rw [if_neg (by omega : ¬ t ≤ 256 * a.tick), poseF_skip t (a :: A') a b _ (fun r hr => by have := hA r hr; omega) (by omega)]
        by_cases hq : t ≤ 256 * b.tick
        · rw [if_pos hq]
          show _ = if t < 256 * c.tick then mid b c t else _
          rw [if_pos (by omega), mid_first (by omega) (by omega)]
        · rw [if_neg hq]
          show (if t < 256 * b.tick then _ else poseF b t (c :: B')) = _
          rw [if_neg (by omega)]

/- What the first records of the track are. -/
theorem range_snoc {α : Type} (f : Nat → α) (n : Nat) : (List.range (n + 1)).map f = (List.range n).map f ++ [f n] := by rw [List.range_succ, List.map_append]; rfl
theorem range_head {α : Type} (f : Nat → α) (n : Nat) : (List.range (n + 1)).map f = f 0 :: (List.range n).map (fun i => f (i + 1)) := by
  rw [List.range_succ_eq_map, List.map_cons, List.map_map]; rfl
theorem range_congr {α : Type} {f g : Nat → α} {n : Nat} (h : ∀ i, i < n → f i = g i) : (List.range n).map f = (List.range n).map g :=
  List.map_congr_left (fun i hi => h i (List.mem_range.1 hi))

/- Times: fractions of which the lower number is one or more. -/
theorem frac_le_lt {a b c d e f : Int} (hb : 1 ≤ b) (hd : 1 ≤ d) (hf : 1 ≤ f) (h1 : a * d ≤ c * b) (h2 : c * f < e * d) : a * f < e * b := by
  have x1 : a * d * f ≤ c * b * f := Int.mul_le_mul_of_nonneg_right h1 (by omega)
  have x2 : c * f * b < e * d * b := Int.mul_lt_mul_of_pos_right h2 (by omega)
  have x3 : a * f * d < e * b * d := by
    have e1 : a * d * f = a * f * d := by rw [Int.mul_assoc, Int.mul_comm d f, ← Int.mul_assoc]
    have e2 : c * b * f = c * f * b := by rw [Int.mul_assoc, Int.mul_comm b f, ← Int.mul_assoc]
    have e3 : e * d * b = e * b * d := by rw [Int.mul_assoc, Int.mul_comm d b, ← Int.mul_assoc]
    omega
  exact Int.lt_of_mul_lt_mul_right x3 (by omega)
theorem frac_lt_le {a b c d e f : Int} (hb : 1 ≤ b) (hd : 1 ≤ d) (hf : 1 ≤ f) (h1 : a * d < c * b) (h2 : c * f ≤ e * d) : a * f < e * b := by
  have x1 : a * d * f < c * b * f := Int.mul_lt_mul_of_pos_right h1 (by omega)
  have x2 : c * f * b ≤ e * d * b := Int.mul_le_mul_of_nonneg_right h2 (by omega)
  have x3 : a * f * d < e * b * d := by
    have e1 : a * d * f = a * f * d := by rw [Int.mul_assoc, Int.mul_comm d f, ← Int.mul_assoc]
    have e2 : c * b * f = c * f * b := by rw [Int.mul_assoc, Int.mul_comm b f, ← Int.mul_assoc]
    have e3 : e * d * b = e * b * d := by rw [Int.mul_assoc, Int.mul_comm d b, ← Int.mul_assoc]
    omega
  exact Int.lt_of_mul_lt_mul_right x3 (by omega)
def Hit.Pos : Hit → Prop
  | Option.none => True
  | some (_, k, _) => 1 ≤ k
theorem entO_pos {U : Int → Int → Prop} {n k : Int} (h : entO U = some (n, k)) : 1 ≤ k := by
  unfold entO at h
  split at h
  · rename_i hx
    have := Classical.choose_spec hx
    have e : Classical.choose hx = (n, k) := Option.some.inj h
    rw [e] at this
    exact (this.yes rfl).2.1
  · cases h
theorem boxHit_pos (p d lo hi : V3) (D : Int) : Hit.Pos (boxHit p d lo hi D) := by
  unfold boxHit
  cases e : entO (lies p d lo hi) with
  | none => trivial
  | some q => obtain ⟨n, k⟩ := q; exact entO_pos e
theorem hitAt_pos (p d q : V3) : Hit.Pos (hitAt p d q) := by
  unfold hitAt
  split
  · exact boxHit_pos _ _ _ _ _
  · exact boxHit_pos _ _ _ _ _

/-- Is nothing solid ahead of this hit? -/
def reachH (wall : Option (Int × Int)) : Hit → Bool
  | Option.none => false
  | some (a, k, _) => reachB wall a k
/-- One more victim is looked at: the document's way. -/
def lookR (wall : Option (Int × Int)) (sh : Nat) (live : Nat → Bool) (h : Nat → Hit) (i : Nat) (a : Nat × Hit) : Nat × Hit :=
  if i = sh ∨ live i = false then a else if reachH wall (h i) = true ∧ Hit.ahead (h i) a.2 = true then (i, h i) else a
def firstR (wall : Option (Int × Int)) (sh : Nat) (live : Nat → Bool) (h : Nat → Hit) : Nat → Nat × Hit
  | 0 => (0, Option.none)
  | n + 1 => lookR wall sh live h n (firstR wall sh live h n)
/-- The program's way. -/
def lookP (sh : Nat) (live : Nat → Bool) (h : Nat → Hit) (i : Nat) (a : Nat × Hit) : Nat × Hit :=
  if i = sh ∨ live i = false then a else if Hit.ahead (h i) a.2 = true then (i, h i) else a
def firstP (sh : Nat) (live : Nat → Bool) (h : Nat → Hit) : Nat → Nat × Hit
  | 0 => (0, Option.none)
  | n + 1 => lookP sh live h n (firstP sh live h n)
theorem firstP_pos {sh : Nat} {live : Nat → Bool} {h : Nat → Hit} (hp : ∀ i, Hit.Pos (h i)) : ∀ n, Hit.Pos (firstP sh live h n).2
  | 0 => trivial
  | n + 1 => by
    show Hit.Pos (lookP sh live h n (firstP sh live h n)).2
    unfold lookP
    split
    · exact firstP_pos hp n
    split
    · exact hp n
    · exact firstP_pos hp n
def WallPos (wall : Option (Int × Int)) : Prop := ∀ n k, wall = some (n, k) → 1 ≤ k
theorem reach_mono {wall : Option (Int × Int)} (hw : WallPos wall) {a b : Hit} (ha : Hit.Pos a) (hb : Hit.Pos b) (h : Hit.ahead a b = true) (hr : reachH wall b = true) : reachH wall a = true := by
  match a, b, ha, hb, h, hr with
  | some (n, k, x), some (m, e, y), ha, hb, h, hr =>
    have h : n * e < m * k := by simpa [Hit.ahead] using h
    cases wall with
    | none => rfl
    | some q =>
      obtain ⟨c, d⟩ := q
      have hd := hw c d rfl
      have hr : ¬ c * e < m * d := by simpa [reachH, reachB] using hr
      show (!decide (c * k < n * d)) = true
      have : ¬ c * k < n * d := fun hc => by
        have := frac_lt_le (a := c) (b := d) (c := n) (d := k) (e := m) (f := e) hd ha hb hc (by omega)
        exact hr this
      simp [this]
  | some _, Option.none, _, _, _, hr => cases hr
  | Option.none, b, _, _, h, _ => cases b <;> cases h
theorem reach_none {wall : Option (Int × Int)} (hw : WallPos wall) {a b : Hit} (ha : Hit.Pos a) (hb : Hit.Pos b) (hb2 : b ≠ Option.none) (h : ¬ Hit.ahead a b = true) (hr : ¬ reachH wall b = true) : ¬ reachH wall a = true := by
  match a, b, ha, hb, hb2, h, hr with
  | some (n, k, x), some (m, e, y), ha, hb, hb2, h, hr =>
    have h : ¬ n * e < m * k := by simpa [Hit.ahead] using h
    cases wall with
    | none => exact absurd rfl hr
    | some q =>
      obtain ⟨c, d⟩ := q
      have hd := hw c d rfl
      have hr : c * e < m * d := by simpa [reachH, reachB] using hr
      show ¬ (!decide (c * k < n * d)) = true
      have : c * k < n * d := frac_lt_le (a := c) (b := d) (c := m) (d := e) (e := n) (f := k) hd hb ha hr (by omega)
      simp [this]
  | Option.none, b, _, _, _, _, _ => exact fun e => by cases e
  | some _, Option.none, _, _, hb2, _, _ => exact absurd rfl hb2
/-- The two ways find the same. -/
theorem first_one {wall : Option (Int × Int)} (hw : WallPos wall) {sh : Nat} {live : Nat → Bool} {h : Nat → Hit} (hp : ∀ i, Hit.Pos (h i)) : ∀ n,
    (reachH wall (firstP sh live h n).2 = true ∧ firstR wall sh live h n = firstP sh live h n) ∨ (¬ reachH wall (firstP sh live h n).2 = true ∧ (firstR wall sh live h n).2 = Option.none)
  | 0 => .inr ⟨(fun e => by cases e), rfl⟩
  | n + 1 => by
    have ih := first_one hw (sh := sh) (live := live) hp n
    have pp := firstP_pos (sh := sh) (live := live) hp n
    show (reachH wall (lookP sh live h n (firstP sh live h n)).2 = true ∧ lookR wall sh live h n (firstR wall sh live h n) = lookP sh live h n (firstP sh live h n)) ∨ (¬ reachH wall (lookP sh live h n (firstP sh live h n)).2 = true ∧ (lookR wall sh live h n (firstR wall sh live h n)).2 = Option.none)
    unfold lookP lookR
    by_cases e1 : n = sh ∨ live n = false
    · rw [if_pos e1, if_pos e1]; exact ih
    · rw [if_neg e1, if_neg e1]
      have pn := hp n
      generalize firstP sh live h n = P at ih pp
      generalize firstR wall sh live h n = R at ih
      generalize h n = H at pn
      by_cases e2 : Hit.ahead H P.2 = true
      · rw [if_pos e2]
        rcases ih with ⟨r1, r2⟩ | ⟨r1, r2⟩
        · rw [r2]
          have := reach_mono hw pn pp e2 r1
          rw [if_pos ⟨this, e2⟩]
          exact .inl ⟨this, rfl⟩
        · by_cases r3 : reachH wall H = true
          · have a2 : Hit.ahead H R.2 = true := by
              rw [r2]
              cases H with
              | none => cases r3
              | some _ => rfl
            rw [if_pos ⟨r3, a2⟩]; exact .inl ⟨r3, rfl⟩
          · rw [if_neg (fun k => r3 k.1)]; exact .inr ⟨r3, r2⟩
      · rw [if_neg e2]
        rcases ih with ⟨r1, r2⟩ | ⟨r1, r2⟩
        · rw [r2, if_neg (fun k => e2 k.2)]; exact .inl ⟨r1, rfl⟩
        · refine .inr ⟨r1, ?_⟩
          cases hP : P.2 with
          | none =>
            have : H = Option.none := by
              cases H with
              | none => rfl
              | some _ => rw [hP] at e2; exact absurd rfl e2
            rw [this, if_neg (fun k => by cases k.1)]; exact r2
          | some q =>
            have := reach_none hw pn pp (by rw [hP]; exact fun e => by cases e) e2 r1
            rw [if_neg (fun k => this k.1)]; exact r2

end Go.Proofs.YtonmihojfcjmjaaGreat.M

/- The document's tick, as plain data. No memory in sight. -/
namespace Go.Proofs.YtonmihojfcjmjaaGreat.M
set_option linter.unusedVariables false

/-- Who comes back. -/
def Seat.back (s : Seat) (t : Int) : Seat := if s.here = true ∧ s.live = false ∧ s.died + 8 = t then s.arrive else s
noncomputable def wallB (p d : V3) (ls : List Lf) : Bool := (entO (US p d ls)).isSome
def wayTo (p q : V3) : V3 := ⟨q.x - p.x, q.y - p.y, q.z - p.z⟩
noncomputable def walkR (ls : List Lf) (p m : V3) : V3 := if wallB p (wayTo p (goal p m)) ls = true then p else goal p m
/-- The command that has waited longest is taken, and obeyed. -/
noncomputable def Seat.obey (s : Seat) (ls : List Lf) : Seat :=
  if s.here = false then s else match s.wait with
    | [] => s
    | c :: r => if s.live = true then { s with wait := r, pos := walkR ls s.pos c.mv } else { s with wait := r }
def Seat.cmd (s : Seat) : Option Cmd := if s.here = false ∨ s.live = false then Option.none else s.wait.head?
def Game.mapTo (g : Game) (f : Seat → Seat) (j : Nat) : Game := { g with seat := fun k => if k < j then f (g.seat k) else g.seat k }
theorem Game.map_0 (g : Game) (f : Seat → Seat) : g.mapTo f 0 = g := by
  unfold Game.mapTo
  have : (fun k => if k < 0 then f (g.seat k) else g.seat k) = g.seat := by funext k; rw [if_neg (by omega)]
  rw [this]
theorem Game.map_at (g : Game) (f : Seat → Seat) (j : Nat) : (g.mapTo f j).seat j = g.seat j := by show (if j < j then _ else _) = _; rw [if_neg (by omega)]
theorem Game.map_in (g : Game) (f : Seat → Seat) {j k : Nat} (h : k < j) : (g.mapTo f j).seat k = f (g.seat k) := by show (if k < j then _ else _) = _; rw [if_pos h]
theorem Game.map_out (g : Game) (f : Seat → Seat) {j k : Nat} (h : ¬ k < j) : (g.mapTo f j).seat k = g.seat k := by show (if k < j then _ else _) = _; rw [if_neg h]
theorem Game.map_next (g : Game) (f : Seat → Seat) (j : Nat) : (g.mapTo f j).put j (f (g.seat j)) = g.mapTo f (j + 1) := by
  unfold Game.mapTo Game.put
  congr 1
  funext k
  by_cases e : k = j
  · subst e; rw [if_pos rfl, if_pos (by omega)]
  · rw [if_neg e]
    show (if k < j then _ else _) = _
    by_cases h : k < j
    · rw [if_pos h, if_pos (by omega)]
    · rw [if_neg h, if_neg (by omega)]
/-- Who shoots, and how. -/
def Seat.fires (s : Seat) (i : Nat) : List (Nat × Cmd) := match s.cmd with
  | some c => if c.fire = true then [(i, c)] else []
  | Option.none => []
def Game.firesTo (g : Game) : Nat → List (Nat × Cmd)
  | 0 => []
  | n + 1 => g.firesTo n ++ (g.seat n).fires n
/-- What is recorded. -/
def Seat.mark (s : Seat) (i : Nat) (t : Int) : List Track := if s.here = true ∧ s.live = true then [⟨i, s.gen, t, s.pos⟩] else []
def Game.marks (g : Game) : Nat → List Track
  | 0 => []
  | n + 1 => g.marks n ++ (g.seat n).mark n g.tick
/-- The records of a slot's present generation. -/
def recsOf (l : List Track) (i : Nat) (gen : Int) : List Rec := (l.filter (fun t => decide (t.slot = (i : Int)) && decide (t.gen = gen))).map (fun t => ⟨t.tick, t.pos⟩)
def Game.recs (g : Game) (i : Nat) : List Rec := recsOf g.log i (g.seat i).gen
def Game.stood (g : Game) (i : Nat) (t : Int) : V3 := if (g.recs i).isEmpty = true then (g.seat i).pos else pose t (g.recs i)
/-- May it shoot? -/
def Game.mayShoot (g : Game) (i : Nat) : Bool := (g.seat i).live && !decide ((g.seat i).ammo = 0) && !(decide (0 ≤ (g.seat i).shot) && decide (g.tick - (g.seat i).shot < 3))
def Seat.paid (s : Seat) (t : Int) : Seat := { s with ammo := s.ammo - 1, shot := t }
def Seat.harm (s : Seat) (x t : Int) : Seat := if 0 < s.health - x then { s with health := s.health - x } else { s with health := 0, live := false, died := t }
noncomputable def Game.victim (g : Game) (i : Nat) (p d : V3) (t : Int) : Nat → Nat × Hit :=
  firstR (entO (US p d g.leafs)) i (fun j => (g.seat j).here && (g.seat j).live) (fun j => hitAt p d (g.stood j t))
theorem Game.victim_succ (g : Game) (i : Nat) (p d : V3) (t : Int) (j : Nat) : g.victim i p d t (j + 1) = lookR (entO (US p d g.leafs)) i (fun j => (g.seat j).here && (g.seat j).live) (fun j => hitAt p d (g.stood j t)) j (g.victim i p d t j) := rfl
def Game.harmed (g : Game) (v : Nat × Hit) : Game := match v.2 with
  | Option.none => g
  | some (_, _, x) => g.put v.1 ((g.seat v.1).harm x g.tick)
noncomputable def Game.shot (g : Game) (i : Nat) (c : Cmd) : Game :=
  if g.mayShoot i = true then (g.put i ((g.seat i).paid g.tick)).harmed ((g.put i ((g.seat i).paid g.tick)).victim i (g.seat i).pos (wayP c.aim) (bring c.time (256 * (g.tick - 16)) (256 * g.tick)) 8)
  else g
/-- A tick. -/
def Game.up1 (g : Game) : Game := { g with tick := g.tick + 1 }
def Game.backs (g : Game) : Game := g.up1.mapTo (fun s => s.back (g.tick + 1)) 8
noncomputable def Game.walks (g : Game) : Game := g.backs.mapTo (fun s => s.obey g.leafs) 8
noncomputable def Game.notes (g : Game) : Game := { g.walks with log := g.walks.log ++ g.walks.marks 8 }
noncomputable def shotAll (g : Game) (l : List (Nat × Cmd)) : Game := l.foldl (fun g q => g.shot q.1 q.2) g
noncomputable def Game.walk (g : Game) : Game := shotAll g.notes (g.backs.firesTo 8)
noncomputable def Game.step (g : Game) : Int × Game := if 3000 ≤ g.tick then (11, g) else (0, g.walk)

/-- What Snapshot tells, of all numbers. -/
def Game.snapS (g : Game) (slot : Int) : ByteArray × Int := if g.hereB slot = true then (⟨(g.snap slot.toNat).toArray⟩, 0) else (⟨#[]⟩, 7)

end Go.Proofs.YtonmihojfcjmjaaGreat.M

/- A text that is a map: what its leaves are. No memory in sight. -/
namespace Go.Proofs.YtonmihojfcjmjaaGreat.M
set_option linter.unusedVariables false

/-- The text is a map, and these are its leaves. -/
structure Good (m : ByteArray) (ls : List Lf) : Prop where
  sz : m.size ≤ 512
  tp : (top m).1 = true
  wr : (top m).2.wrong < 0
  pr : pairsF m (m.size + 1) (top m).2.place = Option.none
  lv : (top m).2.leaves = ls
theorem good_of {m : ByteArray} (h : (errS m).1 = 0) : Good m (top m).2.leaves := by
  unfold errS at h
  by_cases h1 : 512 < m.size
  · rw [if_pos h1] at h; cases h
  rw [if_neg h1] at h
  by_cases h2 : (top m).1 = false
  · rw [if_pos h2] at h; cases h
  rw [if_neg h2] at h
  cases h3 : pairsF m (m.size + 1) (top m).2.place with
  | some k => rw [h3] at h; cases h
  | none =>
    rw [h3] at h
    by_cases h4 : 0 ≤ (top m).2.wrong
    · simp only [if_pos h4] at h; cases h
    · exact ⟨by omega, by simpa using h2, by omega, h3, rfl⟩
theorem Good.err {m : ByteArray} {ls : List Lf} (h : Good m ls) : errS m = (0, 0) := by
  unfold errS
  rw [if_neg (by have := h.sz; omega), if_neg (by rw [h.tp]; exact fun e => by cases e), h.pr]
  simp only
  rw [if_neg (by have := h.wr; omega)]
theorem Good.len {m : ByteArray} {ls : List Lf} (h : Good m ls) : ls.length ≤ 512 := by
  have i := top_inv m
  have := i.lv; have := i.pl; have := h.sz
  rw [← h.lv]; omega
theorem Good.cub {m : ByteArray} {ls : List Lf} (h : Good m ls) : ∀ l ∈ ls, l.lo.Cub ∧ l.hi.Cub := fun l hl => by
  have := (top_inv m).bx l (by rw [h.lv]; exact hl)
  exact ⟨this.1, this.2.1⟩
theorem Good.zone {m : ByteArray} {ls : List Lf} (h : Good m ls) : ∀ l ∈ ls, -1 ≤ l.zone ∧ l.zone ≤ 7 := fun l hl => ((top_inv m).bx l (by rw [h.lv]; exact hl)).2.2
theorem Good.one {m : ByteArray} {ls : List Lf} (h : Good m ls) {p : V3} (hp : InB cubeLo cubeHi p) : zP p ls (-1) = zR p ls (-1) := by
  rw [← h.lv]; exact zones_one h.tp h.wr hp
theorem lastZ_mem {f : Lf → Bool} {z : Int} : ∀ {ls : List Lf}, lastZ f ls = some z → ∃ l ∈ ls, l.zone = z
  | [], h => by cases h
  | x :: ls, h => by
    unfold lastZ at h
    cases e : lastZ f ls with
    | some y =>
      rw [e] at h
      obtain ⟨l, hl, e2⟩ := lastZ_mem e
      exact ⟨l, List.mem_cons_of_mem _ hl, e2.trans (by simpa using h)⟩
    | none =>
      rw [e] at h
      by_cases hx : f x = true
      · exact ⟨x, List.mem_cons_self, by simpa [hx] using h⟩
      · simp [hx] at h
theorem lastZ_mem2 {f : Lf → Bool} {z : Int} : ∀ {ls : List Lf}, lastZ f ls = some z → ∃ l ∈ ls, l.zone = z ∧ f l = true
  | [], h => by cases h
  | x :: ls, h => by
    unfold lastZ at h
    cases e : lastZ f ls with
    | some y =>
      rw [e] at h
      obtain ⟨l, hl, e2, e3⟩ := lastZ_mem2 e
      exact ⟨l, List.mem_cons_of_mem _ hl, e2.trans (by simpa using h), e3⟩
    | none =>
      rw [e] at h
      by_cases hx : f x = true
      · exact ⟨x, List.mem_cons_self, by simpa [hx] using h, hx⟩
      · simp [hx] at h
/-- A point of the cube that does not lie in a solid leaf has a zone. -/
theorem Good.open {m : ByteArray} {ls : List Lf} (h : Good m ls) {p : V3} (hp : InB cubeLo cubeHi p) (hn : ¬ ∃ l ∈ ls, holdsB2 l p = true ∧ l.zone = -1) : 0 ≤ zP p ls (-1) := by
  obtain ⟨ls', e, hc⟩ := tree_cov m 12 cubeLo cubeHi st0 h.tp h.wr
  have e' : ls = ls' := by
    rw [← h.lv]
    show (tree m 12 cubeLo cubeHi st0).2.leaves = ls'
    rw [e]; rfl
  subst e'
  obtain ⟨l, hl, hin⟩ := hc.all p hp
  obtain ⟨z, hz⟩ := lastZ_some (f := fun l => holdsB2 l p) hl (holdsB2_iff.2 hin)
  rw [zP_open hn, hz]
  obtain ⟨q, hq, eq⟩ := lastZ_mem2 hz
  have := (h.zone q hq).1
  show 0 ≤ z
  by_cases e0 : z = -1
  · exact absurd ⟨q, hq, eq.2, by rw [eq.1]; exact e0⟩ hn
  · omega
theorem Good.le7 {m : ByteArray} {ls : List Lf} (h : Good m ls) (p : V3) : zP p ls (-1) ≤ 7 := by
  by_cases hn : ∃ l ∈ ls, holdsB2 l p = true ∧ l.zone = -1
  · rw [zP_solid hn]; omega
  · rw [zP_open hn]
    cases e : lastZ (fun l => holdsB2 l p) ls with
    | none => show (-1 : Int) ≤ 7; decide
    | some z =>
      obtain ⟨l, hl, e2⟩ := lastZ_mem e
      have := (h.zone l hl).2
      show z ≤ 7; omega
/-- There is an answer. -/
theorem US_exists {p d : V3} (hp : p.Near) (hd : d.Near) (ls : List Lf) (hc : ∀ l ∈ ls, l.lo.Near ∧ l.hi.Near) : ∃ f n k, EntG (US p d ls) f n k := by
  obtain ⟨r, e⟩ : ∃ r : List Lf, ls = r.reverse := ⟨ls.reverse, by simp⟩
  subst e
  induction r with
  | nil => exact ⟨false, 0, 0, US_nil⟩
  | cons l r ih =>
    rw [List.reverse_cons] at hc ⊢
    obtain ⟨f, n, k, h⟩ := ih (fun x hx => hc x (List.mem_append_left _ hx))
    by_cases hz : l.zone = -1
    · obtain ⟨hl1, hl2⟩ := hc l (by simp)
      obtain ⟨i, a, b, he⟩ := ent_exists hp hd hl1 hl2
      have g := he.toG
      cases i
      · exact ⟨f, n, k, (h.none g).congr (US_solid hz)⟩
      · cases f
        · exact ⟨true, a, b, (h.new g).congr (US_solid hz)⟩
        · by_cases hx : a * k < n * b
          · exact ⟨true, a, b, (h.less g hx).congr (US_solid hz)⟩
          · exact ⟨true, n, k, (h.more g hx).congr (US_solid hz)⟩
    · exact ⟨f, n, k, h.congr (US_open hz)⟩
theorem lies_end {p q lo hi : V3} (h : InB lo hi q) : lies p (wayTo p q) lo hi 1 1 := by
  obtain ⟨a1, a2, a3, a4, a5, a6⟩ := h
  refine ⟨⟨?_, ?_⟩, ⟨?_, ?_⟩, ⟨?_, ?_⟩⟩ <;> (simp only [wayTo]; omega)
theorem wallB_is {p d : V3} {ls : List Lf} {f : Bool} {n k : Int} (h : EntG (US p d ls) f n k) : wallB p d ls = f := by
  unfold wallB
  rw [entO_is h]
  cases f <;> rfl
/-- Where there is no wall on the way, its end is no solid place. -/
theorem no_wall {p q : V3} {ls : List Lf} (hp : p.Near) (hd : (wayTo p q).Near) (hc : ∀ l ∈ ls, l.lo.Near ∧ l.hi.Near) (h : ¬ wallB p (wayTo p q) ls = true) : ¬ ∃ l ∈ ls, holdsB2 l q = true ∧ l.zone = -1 := by
  obtain ⟨f, n, k, he⟩ := US_exists hp hd ls hc
  rw [wallB_is he] at h
  obtain rfl : f = false := by simpa using h
  obtain ⟨_, _, no⟩ := he.no rfl
  rintro ⟨l, hl, h1, h2⟩
  exact no 1 1 (by omega) (by omega) (by omega) ⟨l, hl, h2, lies_end (holdsB2_iff.1 h1)⟩

end Go.Proofs.YtonmihojfcjmjaaGreat.M
