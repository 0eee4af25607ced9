/- The program's game, as plain data: no memory in sight. -/
import Derived.Test.YtonmihojfcjmjaaPackM
import Derived.Test.YtonmihojfcjmjaaPoseM
import Derived.Test.YtonmihojfcjmjaaZoneM
import Derived.Test.YtonmihojfcjmjaaPairM
namespace Go.Proofs.Ytonmihojfcjmjaa.M

def V3.zero : V3 := ⟨0, 0, 0⟩
def Cmd.nought : Cmd := ⟨0, false, V3.zero, V3.zero, 0⟩
def Rec.zero : Rec := ⟨0, V3.zero⟩

/-- A slot, as the program keeps it. -/
structure PSeat where
  taken : Bool
  gen : Int
  last : Int
  q : Nat → Cmd
  waiting : Int
  home : V3
  place : V3
  health : Int
  ammo : Int
  ready : Int
  back : Int
  track : Nat → Rec
  count : Int

/-- A game. -/
structure PGame where
  tick : Int
  seat : Nat → PSeat

def PSeat.empty (gen : Int) : PSeat := ⟨false, gen, 0, fun _ => Cmd.nought, 0, V3.zero, V3.zero, 0, 0, 0, 0, fun _ => Rec.zero, 0⟩
/-- A new player. -/
def PSeat.enter (s : PSeat) (p : V3) : PSeat := { s with gen := (s.gen + 1) % 256, home := p, place := p, health := 100, ammo := 6, ready := 0, back := 0, track := fun _ => Rec.zero, count := 0 }
/-- The seat is given. -/
def PSeat.give (s : PSeat) (p : V3) : PSeat := ({ s with taken := true } : PSeat).enter p
def PGame.put (g : PGame) (i : Nat) (s : PSeat) : PGame := { g with seat := fun j => if j = i then s else g.seat j }
theorem PGame.put_at (g : PGame) (i : Nat) (s : PSeat) : (g.put i s).seat i = s := by simp [PGame.put]
theorem PGame.put_ne (g : PGame) {i j : Nat} (s : PSeat) (h : j ≠ i) : (g.put i s).seat j = g.seat j := by simp [PGame.put, h]
def PGame.fresh : PGame := ⟨0, fun _ => PSeat.empty 0⟩

/-- Has the slot a client? -/
def PGame.takenB (g : PGame) (slot : Int) : Bool := decide (0 ≤ slot) && decide (slot < 8) && (g.seat slot.toNat).taken
/-- The lowest free slot, from i on. -/
def PGame.freeFrom (g : PGame) : Nat → Nat → Option Nat
  | 0, _ => Option.none
  | n + 1, i => if (g.seat i).taken = false then some i else g.freeFrom n (i + 1)
def PGame.free (g : PGame) : Option Nat := g.freeFrom 8 0

/-- Connect: the answer, the error, the game behind it. -/
def PGame.connect (g : PGame) (can : Bool) (p : V3) : Int × Int × PGame :=
  if can = false then (0, 5, g)
  else match g.free with
    | some i => ((i : Int), 0, g.put i ((g.seat i).give p))
    | Option.none => (0, 6, g)

/-- Do two zones see each other? -/
def seesP (ps : Nat → Bool) (a b : Int) : Bool := decide (0 ≤ a) && decide (a < 8) && decide (0 ≤ b) && decide (b < 8) && (decide (a = b) || ps (8 * a.toNat + b.toNat))
def nearP (p q : V3) : Bool := decide ((p.x - q.x) * (p.x - q.x) + (p.y - q.y) * (p.y - q.y) + (p.z - q.z) * (p.z - q.z) ≤ 1048576)
/-- Is the client of own told of other? -/
def showsP (ls : List Lf) (ps : Nat → Bool) (own other : PSeat) : Bool :=
  decide (0 < other.health) && nearP own.place other.place && seesP ps (zP own.place ls (-1)) (zP other.place ls (-1))

/-- A number's two bytes. -/
def twoP (n : Int) : List UInt8 := [b8 n, b8 (n / 256)]
/-- What is told of a player. -/
def PSeat.row (s : PSeat) (j : Nat) : List UInt8 := [b8 j, b8 s.gen, b8 s.health] ++ twoP s.place.x ++ twoP s.place.y ++ twoP s.place.z
def PGame.toldB (g : PGame) (ls : List Lf) (ps : Nat → Bool) (i j : Nat) : Bool := decide (j = i) || showsP ls ps (g.seat i) (g.seat j)
def PGame.rows (g : PGame) (ls : List Lf) (ps : Nat → Bool) (i : Nat) : Nat → Nat → List UInt8
  | 0, _ => []
  | n + 1, j => (if g.toldB ls ps i j then (g.seat j).row j else []) ++ g.rows ls ps i n (j + 1)
def PGame.count (g : PGame) (ls : List Lf) (ps : Nat → Bool) (i : Nat) : Nat → Nat → Nat
  | 0, _ => 0
  | n + 1, j => (if g.toldB ls ps i j then 1 else 0) + g.count ls ps i n (j + 1)
/-- Ticks until it may shoot. -/
def PSeat.cooling (s : PSeat) (tick : Int) : Int := if s.ready ≤ tick then 0 else s.ready - tick
def PSeat.liveN (s : PSeat) : Int := if 0 < s.health then 1 else 0
def PGame.headP (g : PGame) (i : Nat) (n : Int) : List UInt8 :=
  [83] ++ twoP g.tick ++ [b8 i, b8 (g.seat i).liveN, b8 (g.seat i).health, b8 (g.seat i).ammo, b8 ((g.seat i).cooling g.tick), b8 n]
def PGame.snap (g : PGame) (ls : List Lf) (ps : Nat → Bool) (i : Nat) : List UInt8 := g.headP i (g.count ls ps i 8 0) ++ g.rows ls ps i 8 0

end Go.Proofs.Ytonmihojfcjmjaa.M
