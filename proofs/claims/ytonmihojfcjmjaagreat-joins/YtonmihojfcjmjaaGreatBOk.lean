import Derived.Test.YtonmihojfcjmjaaGreatBQc
import Derived.Test.YtonmihojfcjmjaaGreatBM
import Derived.Test.YtonmihojfcjmjaaGreatBSi
import Derived.Test.YtonmihojfcjmjaaGreatBSj
/- What holds of every game that the calls leave. -/
namespace Go.Proofs.YtonmihojfcjmjaaGreat.M
set_option linter.unusedVariables false

theorem cube_in {p : V3} (h : InB cubeLo cubeHi p) : Cube p := by
  obtain ⟨a1, a2, a3, a4, a5, a6⟩ := h
  exact ⟨a1, a2, a3, a4, a5, a6⟩
theorem zero_in : InB cubeLo cubeHi V3.zero := ⟨by decide, by decide, by decide, by decide, by decide, by decide⟩

theorem PSeat.Ok.empty {n : Int} (h0 : 0 ≤ n) (h1 : n ≤ 255) : (PSeat.empty n).Ok :=
  ⟨h0, h1, Int.le_refl 0, show (0 : Int) ≤ 4 by decide, fun _ => CmdOk.nought, zero_in, zero_in, Int.le_refl 0, show (0 : Int) ≤ 100 by decide, Int.le_refl 0, show (0 : Int) ≤ 6 by decide, Int.le_refl 0, show (0 : Int) ≤ 3003 by decide, Int.le_refl 0, show (0 : Int) ≤ 3008 by decide, Int.le_refl 0, show (0 : Int) ≤ 17 by decide, fun i h => absurd (show (i : Int) < 0 from h) (by omega), fun _ => rfl⟩
theorem PSeat.Ok.enter {s : PSeat} (h : s.Ok) {p : V3} (ht : s.taken = true) (hp : InB cubeLo cubeHi p) : (s.enter p).Ok :=
  ⟨(by show 0 ≤ (s.gen + 1) % 256; omega), (by show (s.gen + 1) % 256 ≤ 255; omega), h.w0, h.w1, h.q, hp, hp, by show (0 : Int) ≤ 100; decide, by show (100 : Int) ≤ 100; decide, by show (0 : Int) ≤ 6; decide, by show (6 : Int) ≤ 6; decide, by show (0 : Int) ≤ 0; decide, by show (0 : Int) ≤ 3003; decide, by show (0 : Int) ≤ 0; decide, by show (0 : Int) ≤ 3008; decide, by show (0 : Int) ≤ 0; decide, by show (0 : Int) ≤ 17; decide, fun i hi => absurd (show (i : Int) < 0 from hi) (by omega), fun e => by rw [show (s.enter p).taken = s.taken from rfl, ht] at e; cases e⟩
theorem PSeat.Ok.give {s : PSeat} (h : s.Ok) {p : V3} (hp : InB cubeLo cubeHi p) : (s.give p).Ok :=
  PSeat.Ok.enter (s := { s with taken := true }) ⟨h.g0, h.g1, h.w0, h.w1, h.q, h.home, h.place, h.h0, h.h1, h.a0, h.a1, h.r0, h.r1, h.b0, h.b1, h.n0, h.n1, h.tr, fun e => by cases e⟩ rfl hp
theorem PSeat.Ok.put {s : PSeat} (h : s.Ok) {c : Cmd} (hc : CmdOk c) (hw : ¬ 4 ≤ s.waiting) : (s.put c).Ok :=
  ⟨h.g0, h.g1, (by show 0 ≤ s.waiting + 1; have := h.w0; omega), (by show s.waiting + 1 ≤ 4; omega), (fun j => by show CmdOk (if (j : Int) = s.waiting then c else s.q j); by_cases e : (j : Int) = s.waiting <;> simp only [e, if_true, if_false] <;> first | exact hc | exact h.q j), h.home, h.place, h.h0, h.h1, h.a0, h.a1, h.r0, h.r1, h.b0, h.b1, h.n0, h.n1, h.tr, h.free⟩
theorem PSeat.Ok.up {s : PSeat} (h : s.Ok) (hw : s.waiting ≠ 0) : s.up.Ok :=
  ⟨h.g0, h.g1, (by show 0 ≤ s.waiting - 1; have := h.w0; omega), (by show s.waiting - 1 ≤ 4; have := h.w1; omega), (fun j => by show CmdOk (if j < 3 then s.q (j + 1) else s.q j); by_cases e : j < 3 <;> simp only [e, if_true, if_false] <;> exact h.q _), h.home, h.place, h.h0, h.h1, h.a0, h.a1, h.r0, h.r1, h.b0, h.b1, h.n0, h.n1, h.tr, h.free⟩
theorem PSeat.Ok.at_ {s : PSeat} (h : s.Ok) {p : V3} (hp : InB cubeLo cubeHi p) : ({ s with place := p } : PSeat).Ok :=
  ⟨h.g0, h.g1, h.w0, h.w1, h.q, h.home, hp, h.h0, h.h1, h.a0, h.a1, h.r0, h.r1, h.b0, h.b1, h.n0, h.n1, h.tr, h.free⟩
theorem PSeat.Ok.moved {s : PSeat} (h : s.Ok) (ls : List Lf) (m : V3) : (s.moved ls m).Ok := by
  unfold PSeat.moved
  split
  · exact h
  · exact h.at_ (goal_in _ _)
theorem PSeat.Ok.obeyed {s : PSeat} (h : s.Ok) (ls : List Lf) : (s.obeyed ls).Ok := by
  unfold PSeat.obeyed
  split
  · exact h
  · rename_i e
    split
    · exact (h.up e).moved ls _
    · exact h.up e
theorem PSeat.Ok.lay {s : PSeat} (h : s.Ok) {r : Rec} (hr : M.Ok r) (hn : s.count < 17) : (s.lay r).Ok :=
  ⟨h.g0, h.g1, h.w0, h.w1, h.q, h.home, h.place, h.h0, h.h1, h.a0, h.a1, h.r0, h.r1, h.b0, h.b1, (by show 0 ≤ s.count + 1; have := h.n0; omega), (by show s.count + 1 ≤ 17; omega), (fun i hi => by
    show M.Ok (if (i : Int) = s.count then r else s.track i)
    have hi : (i : Int) < s.count + 1 := hi
    by_cases e : (i : Int) = s.count
    · rw [if_pos e]; exact hr
    · rw [if_neg e]; exact h.tr i (by omega)), h.free⟩
theorem PSeat.Ok.drop1 {s : PSeat} (h : s.Ok) (hn : 17 ≤ s.count) : s.drop1.Ok :=
  ⟨h.g0, h.g1, h.w0, h.w1, h.q, h.home, h.place, h.h0, h.h1, h.a0, h.a1, h.r0, h.r1, h.b0, h.b1, by show (0 : Int) ≤ 16; decide, by show (16 : Int) ≤ 17; decide, (fun i hi => by
    have hi : (i : Int) < 16 := hi
    show M.Ok (if i + 1 < 17 then s.track (i + 1) else s.track i)
    rw [if_pos (by omega)]
    exact h.tr (i + 1) (by omega)), h.free⟩
theorem PSeat.Ok.add {s : PSeat} (h : s.Ok) {r : Rec} (hr : M.Ok r) : (s.add r).Ok := by
  unfold PSeat.add
  split
  · rename_i e; exact (h.drop1 e).lay hr (by show (16 : Int) < 17; decide)
  · exact h.lay hr (by omega)
theorem PSeat.Ok.note {s : PSeat} (h : s.Ok) {t : Int} (t0 : 0 ≤ t) (t1 : t ≤ 3000) : (s.note t).Ok := by
  unfold PSeat.note
  split
  · exact h.add ⟨t0, t1, cube_in h.place⟩
  · exact h
theorem PSeat.Ok.spent {s : PSeat} (h : s.Ok) {t : Int} (ha : s.ammo ≠ 0) (t0 : 0 ≤ t) (t1 : t ≤ 3000) : (s.spent t).Ok :=
  ⟨h.g0, h.g1, h.w0, h.w1, h.q, h.home, h.place, h.h0, h.h1, (by show 0 ≤ s.ammo - 1; have := h.a0; omega), (by show s.ammo - 1 ≤ 6; have := h.a1; omega), (by show 0 ≤ t + 3; omega), (by show t + 3 ≤ 3003; omega), h.b0, h.b1, h.n0, h.n1, h.tr, h.free⟩
theorem PSeat.Ok.hurt {s : PSeat} (h : s.Ok) {d t : Int} (d0 : 0 ≤ d) (t0 : 0 ≤ t) (t1 : t ≤ 3000) : (s.hurt d t).Ok := by
  unfold PSeat.hurt
  split
  · rename_i e
    exact ⟨h.g0, h.g1, h.w0, h.w1, h.q, h.home, h.place, (by show 0 ≤ s.health - d; omega), (by show s.health - d ≤ 100; have := h.h1; omega), h.a0, h.a1, h.r0, h.r1, h.b0, h.b1, h.n0, h.n1, h.tr, fun e => by have := h.free e; omega⟩
  · exact ⟨h.g0, h.g1, h.w0, h.w1, h.q, h.home, h.place, by show (0 : Int) ≤ 0; decide, by show (0 : Int) ≤ 100; decide, h.a0, h.a1, h.r0, h.r1, (by show 0 ≤ t + 8; omega), (by show t + 8 ≤ 3008; omega), h.n0, h.n1, h.tr, fun _ => rfl⟩

theorem PGame.Ok.fresh : PGame.fresh.Ok := ⟨by decide, by decide, fun _ => PSeat.Ok.empty (by decide) (by decide), fun _ => by show (0 : Int) ≤ 0 + 3; decide⟩
theorem PGame.Ok.put {g : PGame} (h : g.Ok) {i : Nat} {s : PSeat} (hs : s.Ok) (hr : s.ready ≤ g.tick + 3) : (g.put i s).Ok :=
  ⟨h.t0, h.t1, fun j => by
    show ((if j = i then s else g.seat j) : PSeat).Ok
    by_cases e : j = i
    · rw [if_pos e]; exact hs
    · rw [if_neg e]; exact h.s j, fun j => by
    show ((if j = i then s else g.seat j) : PSeat).ready ≤ g.tick + 3
    by_cases e : j = i
    · rw [if_pos e]; exact hr
    · rw [if_neg e]; exact h.r j⟩
theorem PGame.Ok.connect {g : PGame} (h : g.Ok) {can : Bool} {p : V3} (hp : can = true → InB cubeLo cubeHi p) : (g.connect can p).2.2.Ok := by
  unfold PGame.connect
  split
  · exact h
  · rename_i e
    split
    · exact h.put ((h.s _).give (hp (by simpa using e))) (by show (0 : Int) ≤ g.tick + 3; have := h.t0; omega)
    · exact h
theorem PGame.Ok.leave {g : PGame} (h : g.Ok) (slot : Int) : (g.leave slot).2.Ok := by
  unfold PGame.leave
  split
  · exact h.put (PSeat.Ok.empty (h.s _).g0 (h.s _).g1) (by show (0 : Int) ≤ g.tick + 3; have := h.t0; omega)
  · exact h
theorem decR_ok (p : ByteArray) : CmdOk (decR p) := by
  unfold decR
  split
  · rename_i e
    unfold okB at e
    simp only [Bool.and_eq_true] at e
    have f := (fitsB_iff _).1 e.1.2
    exact ⟨f.aim, f.t1, f.t2⟩
  · exact ⟨⟨by decide, by decide, by decide, by decide, by decide, by decide⟩, by decide, by decide⟩

theorem PGame.Ok.strike {g : PGame} (h : g.Ok) {ls : List Lf} {p d : V3} {v : Nat × Hit} (hv : ∀ a k x, v.2 = some (a, k, x) → 0 ≤ x) : (g.strike ls p d v).Ok := by
  unfold PGame.strike
  split
  · exact h
  · rename_i a k x e
    split
    · exact h.put ((h.s _).hurt (hv a k x e) h.t0 h.t1) (by unfold PSeat.hurt; split <;> exact h.r _)
    · exact h
theorem PGame.Ok.shoot {g : PGame} (h : g.Ok) (ls : List Lf) (i : Nat) (c : Cmd) : (g.shoot ls i c).Ok := by
  unfold PGame.shoot
  split
  · rename_i e
    unfold PGame.canShoot at e
    simp only [Bool.and_eq_true, Bool.not_eq_true', decide_eq_false_iff_not] at e
    exact (h.put ((h.s i).spent e.1.2 h.t0 h.t1) (by show g.tick + 3 ≤ g.tick + 3; omega)).strike (fun a k x hx => by rcases firstTo_dmg hx with rfl | rfl <;> decide)
  · exact h

/-- The first j slots are turned. -/
def PGame.mapTo (g : PGame) (f : PSeat → PSeat) (j : Nat) : PGame := { g with seat := fun k => if k < j then f (g.seat k) else g.seat k }
theorem PGame.map_0 (g : PGame) (f : PSeat → PSeat) : g.mapTo f 0 = g := by
  unfold PGame.mapTo
  have : (fun k => if k < 0 then f (g.seat k) else g.seat k) = g.seat := by funext k; rw [if_neg (by omega)]
  rw [this]
theorem PGame.map_at (g : PGame) (f : PSeat → PSeat) (j : Nat) : (g.mapTo f j).seat j = g.seat j := by show (if j < j then _ else _) = _; rw [if_neg (by omega)]
theorem PGame.map_in (g : PGame) (f : PSeat → PSeat) {j k : Nat} (h : k < j) : (g.mapTo f j).seat k = f (g.seat k) := by show (if k < j then _ else _) = _; rw [if_pos h]
theorem PGame.map_out (g : PGame) (f : PSeat → PSeat) {j k : Nat} (h : ¬ k < j) : (g.mapTo f j).seat k = g.seat k := by show (if k < j then _ else _) = _; rw [if_neg h]
theorem PGame.map_next (g : PGame) (f : PSeat → PSeat) (j : Nat) : (g.mapTo f j).put j (f (g.seat j)) = g.mapTo f (j + 1) := by
  unfold PGame.put PGame.mapTo
  congr 1
  funext k
  by_cases h : k = j
  · subst h; simp
  · by_cases h2 : k < j
    · simp [h, h2, Nat.lt_succ_of_lt h2]
    · simp [h, h2, show ¬ k < j + 1 by omega]
theorem PGame.Ok.map {g : PGame} (h : g.Ok) {f : PSeat → PSeat} (hf : ∀ s, s.Ok → (f s).Ok) (hr : ∀ s, s.Ok → s.ready ≤ g.tick + 3 → (f s).ready ≤ g.tick + 3) (j : Nat) : (g.mapTo f j).Ok :=
  ⟨h.t0, h.t1, fun k => by
    by_cases e : k < j
    · rw [PGame.map_in _ _ e]; exact hf _ (h.s k)
    · rw [PGame.map_out _ _ e]; exact h.s k, fun k => by
    show ((g.mapTo f j).seat k).ready ≤ g.tick + 3
    by_cases e : k < j
    · rw [PGame.map_in _ _ e]; exact hr _ (h.s k) (h.r k)
    · rw [PGame.map_out _ _ e]; exact h.r k⟩
theorem PSeat.Ok.revived {s : PSeat} (h : s.Ok) (t : Int) : (s.revived t).Ok := by
  unfold PSeat.revived
  split
  · rename_i e; exact h.enter e.1 h.home
  · exact h
theorem PSeat.revived_ready {s : PSeat} (h : s.Ok) (t : Int) : (s.revived t).ready ≤ s.ready := by
  unfold PSeat.revived
  split
  · exact h.r0
  · exact Int.le_refl _
theorem PSeat.obeyed_ready (s : PSeat) (ls : List Lf) : (s.obeyed ls).ready = s.ready := by
  unfold PSeat.obeyed
  split
  · rfl
  split
  · unfold PSeat.moved
    split <;> rfl
  · rfl
theorem PSeat.obeyed_count (s : PSeat) (ls : List Lf) : (s.obeyed ls).count = s.count := by
  unfold PSeat.obeyed
  split
  · rfl
  split
  · unfold PSeat.moved
    split <;> rfl
  · rfl
theorem PSeat.note_ready (s : PSeat) (t : Int) : (s.note t).ready = s.ready := by
  unfold PSeat.note PSeat.add
  split
  · split <;> rfl
  · rfl
theorem PSeat.note_live (s : PSeat) (t : Int) : (s.note t).health = s.health := by
  unfold PSeat.note PSeat.add
  split
  · split <;> rfl
  · rfl
theorem PSeat.Ok.shown {s : PSeat} (h : s.Ok) {t : Int} (t0 : 0 ≤ t) (t1 : t ≤ 3000) : (s.note t).Shown :=
  ⟨fun hl => by
    rw [PSeat.note_live] at hl
    unfold PSeat.note
    rw [if_pos hl]
    unfold PSeat.add
    split
    · show (1 : Int) ≤ 16 + 1; decide
    · show 1 ≤ s.count + 1; have := h.n0; omega, (h.note t0 t1).n1, (h.note t0 t1).tr⟩

/-- The shots of the first slots. -/
noncomputable def PGame.shootTo (g : PGame) (ls : List Lf) (cm : Nat → Cmd) : Nat → PGame
  | 0 => g
  | n + 1 => if (cm n).fire = true then (g.shootTo ls cm n).shoot ls n (cm n) else g.shootTo ls cm n
theorem PSeat.Shown.hurt {s : PSeat} (h : s.Shown) (hl : 0 < s.health) (d t : Int) : (s.hurt d t).Shown := by
  unfold PSeat.hurt
  split
  · exact ⟨fun _ => h.n1 hl, h.n2, h.tr⟩
  · exact ⟨fun _ => h.n1 hl, h.n2, h.tr⟩
def PGame.AllShown (g : PGame) : Prop := ∀ j, j < 8 → (g.seat j).Shown
theorem PGame.AllShown.put {g : PGame} (h : g.AllShown) {i : Nat} {s : PSeat} (hs : s.Shown) : (g.put i s).AllShown := fun j hj => by
  by_cases e : j = i
  · subst e; rw [PGame.put_at]; exact hs
  · rw [PGame.put_ne _ _ e]; exact h j hj
theorem PGame.AllShown.shoot {g : PGame} (h : g.AllShown) (ls : List Lf) {i : Nat} (hi : i < 8) (c : Cmd) : (g.shoot ls i c).AllShown := by
  unfold PGame.shoot
  split
  · have h1 : (g.put i ((g.seat i).spent g.tick)).AllShown := h.put ⟨(h i hi).n1, (h i hi).n2, (h i hi).tr⟩
    unfold PGame.strike
    split
    · exact h1
    · rename_i a k d e
      split
      · rcases firstTo_is (g.put i ((g.seat i).spent g.tick)) i (g.seat i).place (wayP c.aim) (timeP g.tick c.time) 8 with e2 | ⟨v, e1, e2, e3, e4, e5⟩
        · rw [e2] at e; cases e
        · rw [e1]; exact h1.put ((h1 v e2).hurt e4 _ _)
      · exact h1
  · exact h
theorem PGame.Ok.shootTo {g : PGame} (h : g.Ok) (ls : List Lf) (cm : Nat → Cmd) : ∀ n, (g.shootTo ls cm n).Ok
  | 0 => h
  | n + 1 => by
    unfold PGame.shootTo
    split
    · exact (h.shootTo ls cm n).shoot ls n (cm n)
    · exact h.shootTo ls cm n
theorem PGame.AllShown.shootTo {g : PGame} (h : g.AllShown) (ls : List Lf) (cm : Nat → Cmd) : ∀ n, n ≤ 8 → (g.shootTo ls cm n).AllShown
  | 0, _ => h
  | n + 1, hn => by
    unfold PGame.shootTo
    split
    · exact (h.shootTo ls cm n (by omega)).shoot ls (by omega) (cm n)
    · exact h.shootTo ls cm n (by omega)

/-- A tick goes by: who comes back, who walks, what is recorded, who shoots. -/
noncomputable def PGame.up1 (g : PGame) : PGame := { g with tick := g.tick + 1 }
noncomputable def PGame.backs (g : PGame) : PGame := g.up1.mapTo (fun s => s.revived (g.tick + 1)) 8
noncomputable def PGame.walks (g : PGame) (ls : List Lf) : PGame := g.backs.mapTo (fun s => s.obeyed ls) 8
noncomputable def PGame.notes (g : PGame) (ls : List Lf) : PGame := (g.walks ls).mapTo (fun s => s.note (g.tick + 1)) 8
noncomputable def PGame.orders (g : PGame) (k : Nat) : Cmd := (g.backs.seat k).order
noncomputable def PGame.walk (g : PGame) (ls : List Lf) : PGame := (g.notes ls).shootTo ls g.orders 8
noncomputable def PGame.step (g : PGame) (ls : List Lf) : Int × PGame := if 3000 ≤ g.tick then (11, g) else (0, g.walk ls)

theorem PGame.Ok.up1 {g : PGame} (h : g.Ok) (ht : ¬ 3000 ≤ g.tick) : g.up1.Ok :=
  ⟨by show 0 ≤ g.tick + 1; have := h.t0; omega, by show g.tick + 1 ≤ 3000; omega, h.s, fun i => by show (g.seat i).ready ≤ g.tick + 1 + 3; have := h.r i; omega⟩
theorem PGame.Ok.backs {g : PGame} (h : g.Ok) (ht : ¬ 3000 ≤ g.tick) : g.backs.Ok := (h.up1 ht).map (fun s hs => hs.revived _) (fun s hs hr => Int.le_trans (PSeat.revived_ready hs _) hr) 8
theorem PGame.Ok.walks {g : PGame} (h : g.Ok) (ht : ¬ 3000 ≤ g.tick) (ls : List Lf) : (g.walks ls).Ok := (h.backs ht).map (fun s hs => hs.obeyed ls) (fun s hs hr => by rw [PSeat.obeyed_ready]; exact hr) 8
theorem PGame.Ok.notes {g : PGame} (h : g.Ok) (ht : ¬ 3000 ≤ g.tick) (ls : List Lf) : (g.notes ls).Ok :=
  (h.walks ht ls).map (fun s hs => hs.note (by have := h.t0; omega) (by omega)) (fun s hs hr => by rw [PSeat.note_ready]; exact hr) 8
theorem PGame.Ok.allShown {g : PGame} (h : g.Ok) (ht : ¬ 3000 ≤ g.tick) (ls : List Lf) : (g.notes ls).AllShown := fun j hj => by
  unfold PGame.notes
  rw [PGame.map_in _ _ hj]
  exact ((h.walks ht ls).s j).shown (by have := h.t0; omega) (by omega)
theorem PGame.Ok.step {g : PGame} (h : g.Ok) (ls : List Lf) : (g.step ls).2.Ok := by
  unfold PGame.step
  split
  · exact h
  · rename_i e; exact (h.notes e ls).shootTo ls _ 8
theorem PGame.Ok.order {g : PGame} (h : g.Ok) (ht : ¬ 3000 ≤ g.tick) (k : Nat) : CmdOk (g.orders k) := by
  unfold PGame.orders PSeat.order
  split
  · exact CmdOk.nought
  split
  · exact ((h.backs ht).s k).q 0
  · exact CmdOk.nought

end Go.Proofs.YtonmihojfcjmjaaGreat.M

/- Contracts of the program's game: Tick. -/
namespace Go.Proofs.YtonmihojfcjmjaaGreat
open Go.RowKit
set_option linter.unusedVariables false
attribute [local go_sem] cell_set_off cell_set_blk
attribute [local go_sem ↓] big65 big65'

theorem Pg.tick {W : World} {b : Nat} {mv : Value} {ps : Nat → Bool} {g : M.PGame} (h : Pg W b mv ps g) (t : Int) : Pg (W.setCell ⟨b, 65, none⟩ (.int .i64 t)) b mv ps { g with tick := t } := by
  refine ⟨fun j hj => ?_, World.cell?_setCell_same _ _ _ h.ct, fun i k hi hk => ?_, fun o => by rw [World.frozen?_setCell]; exact h.free o, by simpa using h.lt⟩
  · rw [cell_set_off _ _ _ _ _ (by omega)]; exact h.cm j hj
  · rw [cell_set_off _ _ _ _ _ (by omega)]; exact h.cs i k hi hk

/-- The cells of eight commands. -/
def cmdsC (cm : Nat → M.Cmd) (k : Nat) : Value := cmdC (cm (k / 9)) (k % 9)
theorem zeroCmds : Tryz.zeroCells141 = cellsOf 72 (cmdsC (fun _ => M.Cmd.nought)) := by kernel_rfl
theorem cmdsC_set (cm : Nat → M.Cmd) (j : Nat) (c : M.Cmd) (k : Nat) : (if j * 9 ≤ k ∧ k < j * 9 + 9 then cmdC c (k - j * 9) else cmdsC cm k) = cmdsC (fun i => if i = j then c else cm i) k := by
  show _ = cmdC (if k / 9 = j then c else cm (k / 9)) (k % 9)
  by_cases h : j * 9 ≤ k ∧ k < j * 9 + 9
  · rw [if_pos h, if_pos (show k / 9 = j by omega), show k % 9 = k - j * 9 by omega]
  · rw [if_neg h, if_neg (show ¬ k / 9 = j by omega)]; rfl
/-- Some rows of a game's slots, at their own places. -/
def tmpOrders (g : M.PGame) (j k : Nat) : M.Cmd := if k < j then (g.seat k).order else M.Cmd.nought
theorem orders_next (g : M.PGame) (j : Nat) : (fun i => if i = j then (g.seat j).order else tmpOrders g j i) = tmpOrders g (j + 1) := by
  funext i
  unfold tmpOrders
  by_cases e : i = j
  · subst e; rw [if_pos rfl, if_pos (by omega)]
  · rw [if_neg e]
    by_cases h : i < j
    · rw [if_pos h, if_pos (by omega)]
    · rw [if_neg h, if_neg (by omega)]

set_option maxRecDepth 100000 in
set_option maxHeartbeats 2000000 in
theorem pTick_any (b : Nat) (x : Option Addr) (n cap : Nat) (ps : Nat → Bool) (ls : List M.Lf) (g : M.PGame) (w : World) (h : Pg w b (.slice x n cap) ps g) (hown : w.ownsRow 0 137 7 (.slice x n cap) ls.length (flat ls)) (hne : ∀ k, (Value.slice x n cap).ownBlock = some k → k ≠ b) (hl : ls.length ≤ 512) (hc : ∀ l ∈ ls, l.lo.Cub ∧ l.hi.Cub) (hk : g.Ok) (F : Int × M.PGame) (hF : Hid (g.step ls = F)) :
    Calls Tryz.prog 61 #[.pointer (some ⟨b, 0, none⟩)] w (ErrPost b (.slice x n cap) ps w F) := by
  have HP := hid h
  have HO := hid hown
  have HC := hid hc
  have HK := hid hk
  have HN := hid hne
  have hlt := h.lt
  have c65 := h.ct
  have fr := h.free 65
  have t0 := hk.t0
  have t1 := hk.t1
  clear h hown hc hk hne
  by_cases h3 : 3000 ≤ g.tick
  · obtain rfl : (11, g) = F := by rw [← hF.out]; unfold M.PGame.step; rw [if_pos h3]
    clear hF
    go_enter Tryz.func61, Tryz.ntmps61
    go_wp2
    go_ret
    exact ⟨rfl, HP.out, On.refl _ _⟩
  · have HF : Hid ((0, g.walk ls) = F) := by unfold Hid; rw [← hF.out]; unfold M.PGame.step; rw [if_neg h3]
    have KB := hid (HK.out.backs h3)
    have KW := hid (HK.out.walks h3 ls)
    have KN := hid (HK.out.notes h3 ls)
    have KS := hid (HK.out.allShown h3 ls)
    have KO := hid (HK.out.order h3)
    clear hF
    go_enter Tryz.func61, Tryz.ntmps61
    have P1 := hid (HP.out.tick (g.tick + 1))
    have O1 := hid (On.set b 65 w (.int .i64 (g.tick + 1)))
    clear HP
    go_wp2_with fail
    generalize w.setCell ⟨b, 65, none⟩ (.int .i64 (g.tick + 1)) = W1 at *
    go_loopg [3, 20] 9 (fun k u3 u20 wr => ∃ j : Nat, u20 = .int .i64 j ∧ j ≤ 8 ∧ k + j = 9 ∧ Hid (Pg wr b (.slice x n cap) ps (g.up1.mapTo (fun s => s.revived (g.tick + 1)) j)) ∧ Hid (On b w wr))
    case atStart => exact ⟨0, rfl, by omega, rfl, by unfold Hid; rw [M.PGame.map_0]; exact P1.out, O1⟩
    case round =>
      obtain ⟨j, rfl, hj, hk, PJ, OJ⟩ := hrel
      have j0 : (0 : Int) ≤ (j : Int) := by omega
      by_cases hlt8 : j < 8
      · have j1 : (j : Int) < 8 := by omega
        have K := hid (pBring_any b (.slice x n cap) ps (g.up1.mapTo (fun s => s.revived (g.tick + 1)) j) j wr PJ.out hlt8 (by rw [M.PGame.map_at]; exact (HK.out.s j).g0) (by rw [M.PGame.map_at]; exact (HK.out.s j).g1))
        rw [M.PGame.map_at, show (g.up1.mapTo (fun s => s.revived (g.tick + 1)) j).tick = g.tick + 1 from rfl, M.PGame.map_next g.up1 (fun s => s.revived (g.tick + 1)) j] at K
        go_wp2_with fail
        refine K.out.mono ?_
        rintro e u2 ⟨rfl, hp2, ho2⟩
        have P2 := hid hp2
        have O2 := hid (OJ.out.trans ho2)
        clear hp2 ho2 PJ OJ K
        go_wp2
        go_roundg (gk - 1)
        case measure => omega
        case rel => exact ⟨j + 1, by go_num, by omega, by omega, P2, O2⟩
      · have j1 : ¬ (j : Int) < 8 := by omega
        obtain rfl : j = 8 := by omega
        clear P1 O1
        have PB : Hid (Pg wr b (.slice x n cap) ps g.backs) := PJ
        clear PJ
        have hst := store_same (P := Tryz.prog) (show Blk (wr.alloc (.cells Tryz.zeroCells141 141)) wr.heap.size Tryz.zeroCells141 141 from Blk.new rfl) (by rw [zeroCmds]; exact cellsOf_one (fun k _ => cmdC_one _ _))
        obtain ⟨V0, hV0⟩ : ∃ V0, wr.alloc (.cells Tryz.zeroCells141 141) = V0 := ⟨_, rfl⟩
        have A0 := hid (show Range V0 wr.heap.size 0 72 (cmdsC (tmpOrders g.backs 0)) from fun k hk => by
          have q : Blk V0 wr.heap.size (cellsOf 72 (cmdsC (fun _ => M.Cmd.nought))) 141 := by rw [← zeroCmds, ← hV0]; exact Blk.new rfl
          rw [Nat.zero_add]; exact q.cellC k hk)
        have Z0 := hid (show ∀ m, V0.frozen? ⟨wr.heap.size, m, none⟩ = false from fun m => by rw [← hV0]; exact (show Blk (wr.alloc (.cells Tryz.zeroCells141 141)) wr.heap.size Tryz.zeroCells141 141 from Blk.new rfl).frozen m)
        have B0 : Below wr.heap.size wr V0 := by rw [← hV0]; go_grown
        have L0 : wr.heap.size < V0.heap.size := by rw [← hV0]; simp
        have P0 := hid (PB.out.after B0)
        have O0 := hid (OJ.out.trans (On.below B0))
        have lw := OJ.out.size
        have lb := PB.out.lt
        rw [hV0] at hst
        go_wp2_with fail
        try rw [hV0]
        clear hst hV0 B0 PB OJ
        generalize wr.heap.size = oB at *
        go_loopg [5, 32] 9 (fun k u5 u32 wq => ∃ j : Nat, u32 = .int .i64 j ∧ j ≤ 8 ∧ k + j = 9 ∧ Hid (Pg wq b (.slice x n cap) ps (g.backs.mapTo (fun s => s.obeyed ls) j)) ∧ Hid (On b w wq) ∧ Hid (Range wq oB 0 72 (cmdsC (tmpOrders g.backs j))) ∧ Hid (∀ m, wq.frozen? ⟨oB, m, none⟩ = false) ∧ oB < wq.heap.size)
        case atStart => exact ⟨0, rfl, by omega, rfl, by unfold Hid; rw [M.PGame.map_0]; exact P0.out, O0, A0, Z0, L0⟩
        case round =>
          clear P0 O0 A0 Z0 L0
          obtain ⟨j, rfl, hj, hk, PJ, OJ, AJ, ZJ, LJ⟩ := hrel
          have j0 : (0 : Int) ≤ (j : Int) := by omega
          by_cases hlt8 : j < 8
          · have j1 : (j : Int) < 8 := by omega
            have K := hid (pObey_any b x n cap ps ls (g.backs.mapTo (fun s => s.obeyed ls) j) j wr PJ.out (own_of HO.out (fun k hk => OJ.out.block k (own_lt HO.out hk) (HN.out k hk))) HN.out hl HC.out hlt8 (by rw [M.PGame.map_at]; exact (KB.out.s j).place) (by rw [M.PGame.map_at]; exact (KB.out.s j).w0) (by rw [M.PGame.map_at]; exact (KB.out.s j).w1))
            rw [M.PGame.map_at, M.PGame.map_next g.backs (fun s => s.obeyed ls) j] at K
            obtain ⟨c, hcc⟩ : ∃ c, (g.backs.seat j).order = c := ⟨_, rfl⟩
            rw [hcc] at K
            have HCC := hid hcc
            clear hcc
            go_wp2_with fail
            refine K.out.mono ?_
            rintro e u2 ⟨rfl, hp2, ho2⟩
            have P2 := hid hp2
            have O2 := hid (OJ.out.trans ho2)
            have eB := ho2.block oB LJ (by omega)
            have A2 := hid (AJ.out.block eB)
            have Z2 := hid (fun m => (World.frozen?_of_block (a := ⟨oB, m, none⟩) eB).trans (ZJ.out m))
            have L2 : oB < u2.heap.size := by have := ho2.size; omega
            have hs9 : (cellsOf 9 (cmdC c)).size = 9 := cellsOf_size _ _
            have wz : IntKind.i64.wrap (j : Int) = (j : Int) := IntWalk.i64_in _ ⟨by omega, by omega⟩
            have hst := store_range (P := Tryz.prog) (W := u2) (b := oB) (o := j * 9) (cellsOf 9 (cmdC c)).toList (fun k hk => by
              have h9 : k < 9 := by simpa [cellsOf] using hk
              have := A2.out (j * 9 + k) (by omega)
              rw [Nat.zero_add] at this
              rw [this]; rfl) Z2.out (cellsOf_one (fun i _ => cmdC_one _ _))
            have A3 := hid ((A2.out.setNa (j * 9) (j * 9) 9 (by omega) (by omega) (cmdC c)).congr (c' := cmdsC (tmpOrders g.backs (j + 1))) (fun k hk => by rw [← orders_next, HCC.out]; exact cmdsC_set _ j c k))
            have O3 := hid (OnR.setNa (b := oB) (o := 0) (n := 72) u2 (j * 9) (j * 9) (by omega) (cellsOf 9 (cmdC c)).toList (by simp [cellsOf]; omega))
            have P3 := hid (P2.out.on O3.out.on (by omega))
            have O4 := hid (O2.out.far O3.out.on (by omega))
            have Z3 := hid (fun m => (O3.out.fz m).trans (Z2.out m))
            have L3 : oB < (u2.setCells oB (j * 9) (cellsOf 9 (cmdC c)).toList).heap.size := by have := O3.out.on.size; omega
            clear hp2 ho2 PJ OJ AJ ZJ LJ K eB A2 Z2 P2 O2
            go_wp2
            go_roundg (gk - 1)
            case measure => omega
            case rel => exact ⟨j + 1, by go_num, by omega, by omega, P3, O4, A3, Z3, L3⟩
          · have j1 : ¬ (j : Int) < 8 := by omega
            obtain rfl : j = 8 := by omega
            have PB : Hid (Pg wr b (.slice x n cap) ps (g.walks ls)) := PJ
            clear PJ
            go_wp2_with fail
            go_loopg [6, 45] 9 (fun k u6 u45 wq => ∃ j : Nat, u45 = .int .i64 j ∧ j ≤ 8 ∧ k + j = 9 ∧ Hid (Pg wq b (.slice x n cap) ps ((g.walks ls).mapTo (fun s => s.note (g.tick + 1)) j)) ∧ Hid (On b w wq) ∧ Hid (Range wq oB 0 72 (cmdsC (tmpOrders g.backs 8))) ∧ oB < wq.heap.size)
            case atStart => exact ⟨0, rfl, by omega, rfl, by unfold Hid; rw [M.PGame.map_0]; exact PB.out, OJ, AJ, LJ⟩
            case round =>
              clear PB OJ AJ ZJ LJ
              obtain ⟨j, rfl, hj, hk, PJ, OJ, AJ, LJ⟩ := hrel
              have j0 : (0 : Int) ≤ (j : Int) := by omega
              by_cases hlt8 : j < 8
              · have j1 : (j : Int) < 8 := by omega
                have K := hid (pRecord_any b (.slice x n cap) ps ((g.walks ls).mapTo (fun s => s.note (g.tick + 1)) j) j wr PJ.out hlt8 (by rw [M.PGame.map_at]; exact (KW.out.s j).n0) (by rw [M.PGame.map_at]; exact (KW.out.s j).n1))
                rw [M.PGame.map_at, show ((g.walks ls).mapTo (fun s => s.note (g.tick + 1)) j).tick = g.tick + 1 from rfl, M.PGame.map_next (g.walks ls) (fun s => s.note (g.tick + 1)) j] at K
                go_wp2_with fail
                refine K.out.mono ?_
                rintro e u2 ⟨rfl, hp2, ho2⟩
                have P2 := hid hp2
                have O2 := hid (OJ.out.trans ho2)
                have A2 := hid (AJ.out.block (ho2.block oB LJ (by omega)))
                have L2 : oB < u2.heap.size := by have := ho2.size; omega
                clear hp2 ho2 PJ OJ AJ LJ K
                go_wp2
                go_roundg (gk - 1)
                case measure => omega
                case rel => exact ⟨j + 1, by go_num, by omega, by omega, P2, O2, A2, L2⟩
              · have j1 : ¬ (j : Int) < 8 := by omega
                obtain rfl : j = 8 := by omega
                have PB : Hid (Pg wr b (.slice x n cap) ps (g.notes ls)) := PJ
                clear PJ
                go_wp2_with fail
                go_loopg [7, 57] 9 (fun k u7 u57 wq => ∃ j : Nat, u57 = .int .i64 j ∧ j ≤ 8 ∧ k + j = 9 ∧ Hid (Pg wq b (.slice x n cap) ps ((g.notes ls).shootTo ls g.orders j)) ∧ Hid (On b w wq) ∧ Hid (Range wq oB 0 72 (cmdsC (tmpOrders g.backs 8))) ∧ oB < wq.heap.size)
                case atStart => exact ⟨0, rfl, by omega, rfl, PB, OJ, AJ, LJ⟩
                case round =>
                  clear PB OJ AJ LJ
                  obtain ⟨j, rfl, hj, hk, PJ, OJ, AJ, LJ⟩ := hrel
                  have j0 : (0 : Int) ≤ (j : Int) := by omega
                  by_cases hlt8 : j < 8
                  · have j1 : (j : Int) < 8 := by omega
                    obtain ⟨c, hcc⟩ : ∃ c, g.orders j = c := ⟨_, rfl⟩
                    have ec : tmpOrders g.backs 8 j = c := by unfold tmpOrders; rw [if_pos hlt8]; exact hcc
                    have RJ := hid (show Range wr oB (j * 9) 9 (cmdC c) from fun k hk => by
                      have := AJ.out (j * 9 + k) (by omega)
                      rw [Nat.zero_add] at this
                      rw [this]; unfold cmdsC; rw [show (j * 9 + k) / 9 = j by omega, show (j * 9 + k) % 9 = k by omega, ec])
                    have c1 : wr.cell? ⟨oB, j * 9 + 1, none⟩ = some (.bool c.fire) := RJ.out 1 (by omega)
                    have wz : IntKind.i64.wrap (j : Int) = (j : Int) := IntWalk.i64_in _ ⟨by omega, by omega⟩
                    cases hfr : c.fire
                    · have EN : Hid ((g.notes ls).shootTo ls g.orders (j + 1) = (g.notes ls).shootTo ls g.orders j) := by unfold Hid; show (if (g.orders j).fire = true then _ else _) = _; rw [hcc, if_neg (by simp [hfr])]
                      rw [hfr] at c1
                      clear hfr hcc ec RJ
                      go_wp2
                      go_roundg (gk - 1)
                      case measure => omega
                      case rel => exact ⟨j + 1, by go_num, by omega, by omega, by unfold Hid; rw [EN.out]; exact PJ.out, OJ, AJ, LJ⟩
                    · have EN : Hid ((g.notes ls).shootTo ls g.orders (j + 1) = ((g.notes ls).shootTo ls g.orders j).shoot ls j c) := by unfold Hid; show (if (g.orders j).fire = true then _ else _) = _; rw [hcc, if_pos hfr]
                      have K := hid (pShoot_any b x n cap ps ls ((g.notes ls).shootTo ls g.orders j) j c wr PJ.out (own_of HO.out (fun k hk => OJ.out.block k (own_lt HO.out hk) (HN.out k hk))) HN.out hl HC.out hlt8 (KN.out.shootTo ls g.orders j) (KS.out.shootTo ls g.orders j (by omega)) (hcc ▸ KO.out j))
                      rw [← EN.out] at K
                      rw [hfr] at c1
                      have l0 : wr.cell? ⟨oB, j * 9, none⟩ = some (.int .i64 c.seq) := RJ.out 0 (by omega)
                      have l1 : wr.cell? ⟨oB, j * 9 + 1, none⟩ = some (.bool c.fire) := RJ.out 1 (by omega)
                      have l2 : wr.cell? ⟨oB, j * 9 + 2, none⟩ = some (.int .i64 c.mv.x) := RJ.out 2 (by omega)
                      have l3 : wr.cell? ⟨oB, j * 9 + 3, none⟩ = some (.int .i64 c.mv.y) := RJ.out 3 (by omega)
                      have l4 : wr.cell? ⟨oB, j * 9 + 4, none⟩ = some (.int .i64 c.mv.z) := RJ.out 4 (by omega)
                      have l5 : wr.cell? ⟨oB, j * 9 + 5, none⟩ = some (.int .i64 c.aim.x) := RJ.out 5 (by omega)
                      have l6 : wr.cell? ⟨oB, j * 9 + 6, none⟩ = some (.int .i64 c.aim.y) := RJ.out 6 (by omega)
                      have l7 : wr.cell? ⟨oB, j * 9 + 7, none⟩ = some (.int .i64 c.aim.z) := RJ.out 7 (by omega)
                      have l8 : wr.cell? ⟨oB, j * 9 + 8, none⟩ = some (.int .i64 c.time) := RJ.out 8 (by omega)
                      rw [hfr] at l1 K
                      clear hfr hcc ec RJ EN
                      go_wp2_with fail
                      refine K.out.mono ?_
                      rintro e u2 ⟨rfl, hp2, ho2⟩
                      have P2 := hid hp2
                      have O2 := hid (OJ.out.trans ho2)
                      have A2 := hid (AJ.out.block (ho2.block oB LJ (by omega)))
                      have L2 : oB < u2.heap.size := by have := ho2.size; omega
                      clear hp2 ho2 PJ OJ AJ LJ K l0 l1 l2 l3 l4 l5 l6 l7 l8 c1
                      go_wp2
                      go_roundg (gk - 1)
                      case measure => omega
                      case rel => exact ⟨j + 1, by go_num, by omega, by omega, P2, O2, A2, L2⟩
                  · have j1 : ¬ (j : Int) < 8 := by omega
                    obtain rfl : j = 8 := by omega
                    obtain rfl := HF.out
                    go_wp2
                    go_ret
                    exact ⟨rfl, PJ.out, OJ.out⟩

end Go.Proofs.YtonmihojfcjmjaaGreat
