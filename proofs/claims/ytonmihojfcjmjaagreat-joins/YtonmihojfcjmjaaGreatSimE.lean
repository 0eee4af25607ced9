import Derived.Test.YtonmihojfcjmjaaGreatBSb
import Derived.Test.YtonmihojfcjmjaaGreatDd5
import Derived.Test.YtonmihojfcjmjaaGreatBDb
/- What a game's numbers are, out of the two ways to keep it. No memory in sight. -/
namespace Go.Proofs.YtonmihojfcjmjaaGreat.M
set_option linter.unusedVariables false

theorem firstR_is {wall : Option (Int × Int)} {sh : Nat} {live : Nat → Bool} {h : Nat → Hit} : ∀ n, (firstR wall sh live h n).2 = Option.none ∨ ((firstR wall sh live h n).1 < n ∧ (firstR wall sh live h n).2 = h (firstR wall sh live h n).1)
  | 0 => .inl rfl
  | n + 1 => by
    have ih := firstR_is (wall := wall) (sh := sh) (live := live) (h := h) n
    show (lookR wall sh live h n (firstR wall sh live h n)).2 = Option.none ∨ ((lookR wall sh live h n (firstR wall sh live h n)).1 < n + 1 ∧ (lookR wall sh live h n (firstR wall sh live h n)).2 = h (lookR wall sh live h n (firstR wall sh live h n)).1)
    unfold lookR
    split
    · exact ih.imp (fun e => e) (fun e => ⟨by omega, e.2⟩)
    split
    · exact .inr ⟨Nat.lt_succ_self n, rfl⟩
    · exact ih.imp (fun e => e) (fun e => ⟨by omega, e.2⟩)

theorem Game.Fit.harm {g : Game} (h : g.Fit) {i : Nat} (hi : i < 8) {x : Int} (hx : 0 ≤ x) : (g.put i ((g.seat i).harm x g.tick)).Fit := by
  have sn := h.s i hi
  obtain ⟨e1, e2, e3, e4, e5⟩ := (show ((g.seat i).harm x g.tick).gen = (g.seat i).gen ∧ ((g.seat i).harm x g.tick).pos = (g.seat i).pos ∧ ((g.seat i).harm x g.tick).ammo = (g.seat i).ammo ∧ ((g.seat i).harm x g.tick).shot = (g.seat i).shot ∧ (((g.seat i).harm x g.tick).live = true → (g.seat i).live = true) from by
    unfold Seat.harm
    split
    · exact ⟨rfl, rfl, rfl, rfl, fun e => e⟩
    · exact ⟨rfl, rfl, rfl, rfl, fun e => by cases e⟩)
  have t0 := h.t0
  have t1 := h.t1
  have hh : 0 ≤ ((g.seat i).harm x g.tick).health ∧ ((g.seat i).harm x g.tick).health ≤ 100 := by
    have := sn.h2
    unfold Seat.harm
    split
    · constructor <;> (simp only; omega)
    · constructor <;> (simp only; omega)
  have hd : ((g.seat i).harm x g.tick).here = true → ((g.seat i).harm x g.tick).live = false → -8 ≤ ((g.seat i).harm x g.tick).died ∧ ((g.seat i).harm x g.tick).died ≤ 3000 := by
    unfold Seat.harm
    split
    · exact h.d i hi
    · intro _ _; constructor <;> (simp only; omega)
  refine ⟨h.t0, h.t1, fun j hj => ?_, fun j hj => ?_, h.lo, h.ln, fun j hj => ?_, h.lc, h.ll⟩
  · by_cases e : j = i
    · subst e; rw [Game.put_at]
      exact ⟨by rw [e1]; exact sn.g1, by rw [e1]; exact sn.g2, hh.1, hh.2, by rw [e3]; exact sn.a1, by rw [e3]; exact sn.a2, by rw [e4]; exact sn.s1, by rw [e4]; exact sn.s2, by rw [e2]; exact sn.p⟩
    · rw [Game.put_ne _ _ e]; exact h.s j hj
  · by_cases e : j = i
    · subst e; rw [Game.put_at]; exact hd
    · rw [Game.put_ne _ _ e]; exact h.d j hj
  · unfold Game.recs
    by_cases e : j = i
    · subst e; rw [Game.put_at, e1]; exact fun hl => h.up j hj (e5 hl)
    · rw [Game.put_ne _ _ e]; exact h.up j hj
theorem Game.Fit.shot {g : Game} (h : g.Fit) {i : Nat} (hi : i < 8) (c : Cmd) : (g.shot i c).Fit := by
  unfold Game.shot
  split
  · rename_i hm
    have ha : ¬ (g.seat i).ammo = 0 := fun e => by
      unfold Game.mayShoot at hm
      simp [e] at hm
    have h1 := h.paid hi ha
    generalize g.put i ((g.seat i).paid g.tick) = G at h1 ⊢
    unfold Game.harmed
    split
    · exact h1
    · rename_i a k x hx
      unfold Game.victim at hx ⊢
      rcases firstR_is (wall := entO (US (g.seat i).pos (wayP c.aim) G.leafs)) (sh := i) (live := fun j => (G.seat j).here && (G.seat j).live) (h := fun j => hitAt (g.seat i).pos (wayP c.aim) (G.stood j (bring c.time (256 * (g.tick - 16)) (256 * g.tick)))) 8 with e | ⟨e1, e2⟩
      · rw [e] at hx; cases hx
      · rw [hx] at e2
        refine h1.harm e1 ?_
        rcases hitAt_dmg e2.symm with rfl | rfl <;> decide
  · exact h
theorem Game.Fit.shotAll : ∀ {l : List (Nat × Cmd)} {g : Game} (h : g.Fit) (hl : ∀ q ∈ l, q.1 < 8), (shotAll g l).Fit
  | [], g, h, _ => h
  | q :: l, g, h, hl => Game.Fit.shotAll (l := l) (h.shot (hl q List.mem_cons_self) q.2) (fun r hr => hl r (List.mem_cons_of_mem _ hr))

theorem InC.of {p : V3} (h : InB cubeLo cubeHi p) : InC p := ⟨h.x1, h.x2, h.y1, h.y2, h.z1, h.z2⟩
theorem Rel.fit {N : Int} {P : PGame} {G : Game} (h : Rel N G.tick P G) (hk : P.Ok) {m : ByteArray} (hg : Good m G.leafs) (hN : N ≤ 4611686018427380000) : G.Fit where
  t0 := by have := hk.t0; rw [h.t] at this; exact this
  t1 := by have := hk.t1; rw [h.t] at this; exact this
  s := fun j hj => by
    have hs := h.s j hj
    have ok := hk.s j
    have t1 := hk.t1
    rw [h.t] at t1
    refine ⟨hs.g0, by have := h.gb j hj; omega, by rw [← hs.hp]; exact ok.h0, by rw [← hs.hp]; exact ok.h1, by rw [← hs.ammo]; exact ok.a0, by rw [← hs.ammo]; exact ok.a1, ?_, ?_, by rw [← hs.pos]; exact InC.of ok.place⟩
    · cases e : (G.seat j).here
      · rw [hs.gone e]; show -1 ≤ (0 : Int); decide
      · rcases hs.ready e with q | q
        · rw [q.1]; decide
        · omega
    · cases e : (G.seat j).here
      · rw [hs.gone e]; show (0 : Int) ≤ 3000; decide
      · rcases hs.ready e with q | q
        · rw [q.1]; decide
        · have := hk.r j; rw [h.t] at this; omega
  d := fun j hj hh hl => by
    have := (h.s j hj).back hh hl
    have := (hk.s j).b0
    have := (hk.s j).b1
    omega
  lo := h.lo
  ln := by
    have t1 := hk.t1
    rw [h.t] at t1
    have := h.ln
    omega
  up := fun j hj hl r s hr hs => by
    have := (h.r j hj hl).2
    have a := this 0 r hr
    have b := this 1 s hs
    omega
  lc := fun l hl => ⟨(hg.cub l hl).1, (hg.cub l hl).2, hg.zone l hl⟩
  ll := hg.len
theorem Rel.steps {N : Int} {P : PGame} {G : Game} (h : Rel N G.tick P G) (hk : P.Ok) {m : ByteArray} (hg : Good m G.leafs) (hN : N ≤ 4611686018427380000) : G.Steps where
  p := fun i hi => by
    have hb := h.backs.s i hi
    have eP : P.backs.seat i = (P.seat i).revived (P.tick + 1) := by unfold PGame.backs; rw [PGame.map_in _ _ hi]; rfl
    rw [← hb.pos, eP]
    exact InC.of ((hk.s i).revived _).place
  l := fun i hi => by
    rw [(h.s i hi).len]
    have := (hk.s i).w1
    omega
  c := fun i hi c hc => by
    rw [(h.s i hi).wait] at hc
    obtain ⟨j, _, rfl⟩ := List.mem_map.1 hc
    exact (hk.s i).q j
  n := fun ht => by
    have e2 : ¬ 3000 ≤ P.tick := by rw [h.t]; omega
    have n1 := (h.notes hk e2 hg).1
    exact Rel.fit (G := G.notes) n1 (hk.notes e2 G.leafs) (m := m) hg hN

end Go.Proofs.YtonmihojfcjmjaaGreat.M
