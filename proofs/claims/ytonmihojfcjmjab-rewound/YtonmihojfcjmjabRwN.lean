import Derived.Test.YtonmihojfcjmjabRwM
/- Rewound: the tick of the shot, and what it costs. No memory in sight. -/
namespace Go.Proofs.Ytonmihojfcjmjab.M
set_option linter.unusedVariables false

theorem Rw.last {v : Int} {B : V3} {j : Nat} {g : PGame} (h : Rw v B j g) (v1 : -32 ≤ v) (v2 : v ≤ 32) (hj : j < 40) (hB : InB cubeLo cubeHi B) (aim t : Int) (t0 : 0 ≤ t) :
    ∃ G, ((g.put 0 ((g.seat 0).put (wcmd v j))).put 1 ((g.seat 1).put (scmd aim t))).step z0L = (0, G) ∧ G.tick = ((j + 1 : Nat) : Int) ∧ (G.seat 0).taken = true ∧ (G.seat 0).ammo = 6 ∧ (G.seat 0).place = ⟨2048, 2048 + ((j + 1 : Nat) : Int) * v, 2048⟩ ∧
      (G.seat 1).taken = true ∧ (G.seat 1).health = 100 ∧ (G.seat 1).ammo = 5 ∧ (G.seat 1).ready = ((j + 1 : Nat) : Int) + 3 ∧
      (G.seat 0).health = 100 - cost z0L B ⟨16 * aim, 0, 0⟩ (wat v (if timeP ((j + 1 : Nat) : Int) t < 256 then 256 else timeP ((j + 1 : Nat) : Int) t)) := by
  obtain ⟨s, hs, w1, w2, w3, w4, w5, w6, f, k, k1, k2, k3, k4, k5, k6⟩ := walker h v1 v2 hj
  generalize hg : (g.put 0 ((g.seat 0).put (wcmd v j))).put 1 ((g.seat 1).put (scmd aim t)) = g'
  have g0 : g'.seat 0 = (g.seat 0).put (wcmd v j) := by rw [← hg, PGame.put_ne _ _ (by decide), PGame.put_at]
  have g1 : g'.seat 1 = (g.seat 1).put (scmd aim t) := by rw [← hg, PGame.put_at]
  have g2 : ∀ k, 2 ≤ k → g'.seat k = PSeat.empty 0 := fun k hk => by rw [← hg, PGame.put_ne _ _ (by omega), PGame.put_ne _ _ (by omega)]; exact h.e k hk
  have gt : g'.tick = j := by rw [← hg]; exact h.t
  have T1 : g'.tick + 1 = ((j + 1 : Nat) : Int) := by rw [gt]; rfl
  have q1 : ((g.seat 1).put (scmd aim t)).q 0 = scmd aim t := by show (if ((0 : Nat) : Int) = (g.seat 1).waiting then scmd aim t else _) = _; rw [h.s1w]; rfl
  have o1 : g'.orders 1 = scmd aim t := by
    rw [orders_at g' (by omega), g1, revived_live (by show 0 < (g.seat 1).health; rw [h.s1h]; decide)]
    unfold PSeat.order
    rw [if_neg (by show ¬ (g.seat 1).waiting + 1 = 0; rw [h.s1w]; decide), if_pos (by show 0 < (g.seat 1).health; rw [h.s1h]; decide), q1]
  have ok : ∀ k, k < 8 → k ≠ 1 → (g'.orders k).fire = false := fun k hk h1 => by
    rw [orders_at g' hk]
    by_cases h0 : k = 0
    · subst h0
      rw [g0, revived_live (by show 0 < (g.seat 0).health; rw [h.s0h]; decide)]
      unfold PSeat.order
      rw [if_neg (by show ¬ (g.seat 0).waiting + 1 = 0; rw [h.s0w]; decide), if_pos (by show 0 < (g.seat 0).health; rw [h.s0h]; decide)]
      show ((if ((0 : Nat) : Int) = (g.seat 0).waiting then wcmd v j else _) : Cmd).fire = false
      rw [h.s0w]; rfl
    · rw [g2 k (by omega), revived_free rfl]; rfl
  have n0 : (g'.notes z0L).seat 0 = s := by rw [notes_at g' z0L (by omega), g0, T1, revived_live (by show 0 < (g.seat 0).health; rw [h.s0h]; decide)]; exact hs
  have n1 : ((g'.notes z0L).seat 1).taken = true ∧ ((g'.notes z0L).seat 1).health = 100 ∧ ((g'.notes z0L).seat 1).ammo = 6 ∧ ((g'.notes z0L).seat 1).ready = 0 ∧ ((g'.notes z0L).seat 1).place = B := by
    rw [notes_at g' z0L (by omega), g1, T1, revived_live (by show 0 < (g.seat 1).health; rw [h.s1h]; decide)]
    have ob : ((g.seat 1).put (scmd aim t)).obeyed z0L = { ((g.seat 1).put (scmd aim t)).up with place := B } := by
      unfold PSeat.obeyed
      rw [if_neg (by show ¬ (g.seat 1).waiting + 1 = 0; rw [h.s1w]; decide), if_pos (by show 0 < (g.seat 1).health; rw [h.s1h]; decide), z0_moved, q1]
      have pl : ((g.seat 1).put (scmd aim t)).up.place = B := h.s1p
      rw [pl]
      show ({ ((g.seat 1).put (scmd aim t)).up with place := goalP B ⟨0, 0, 0⟩ } : PSeat) = _
      have b3 : 0 ≤ B.y := hB.y1
      have b4 : B.y ≤ 4096 := hB.y2
      rw [goal_y hB (by decide) (by decide) (by omega) (by omega), Int.add_zero]
    rw [ob]
    obtain ⟨tr, n, hn⟩ := note_same { ((g.seat 1).put (scmd aim t)).up with place := B } ((j + 1 : Nat) : Int)
    rw [hn]
    exact ⟨h.s1t, h.s1h, h.s1m, h.s1r, rfl⟩
  have n2 : ∀ k, k < 8 → k ≠ 1 → k ≠ 0 → ¬ 0 < ((g'.notes z0L).seat k).health := fun k hk h1 h0 => by
    rw [notes_at g' z0L hk, g2 k (by omega), revived_free rfl, obeyed_none rfl, note_dead rfl]
    show ¬ (0 : Int) < 0
    decide
  have tk : (g'.notes z0L).tick = ((j + 1 : Nat) : Int) := T1
  have st : (g'.step z0L).2 = (g'.notes z0L).shoot z0L 1 (scmd aim t) := by
    unfold PGame.step
    rw [if_neg (by omega)]
    show (g'.notes z0L).shootTo z0L g'.orders 8 = _
    rw [shootTo_one _ _ _ 1 ok 8 (by omega), o1, if_pos ⟨by omega, rfl⟩]
  have h2 := shoot_two (g'.notes z0L) z0L 1 0 (scmd aim t) (by omega) (by omega) (by omega) (by
    unfold PGame.canShoot
    rw [n1.2.1, n1.2.2.1, n1.2.2.2.1, tk, decide_eq_true (show (0 : Int) ≤ ((j + 1 : Nat) : Int) by omega)]; rfl) (by rw [n0, w2]; decide) n2
  have T0 : 0 ≤ timeP ((j + 1 : Nat) : Int) t ∧ timeP ((j + 1 : Nat) : Int) t ≤ 256 * ((j + 1 : Nat) : Int) ∧ 256 * (((j + 1 : Nat) : Int) - 16) ≤ timeP ((j + 1 : Nat) : Int) t := by
    unfold timeP
    split
    · omega
    · split <;> omega
  have ps : s.poseAt (timeP ((j + 1 : Nat) : Int) t) = wat v (if timeP ((j + 1 : Nat) : Int) t < 256 then 256 else timeP ((j + 1 : Nat) : Int) t) := by
    rw [k6.pose k5 _ (by rw [show f + k - 1 = j + 1 by omega]; exact T0.2.1)]
    congr 1
    generalize timeP ((j + 1 : Nat) : Int) t = T at *
    rcases k3 with e | e
    · subst e; rfl
    · have : 256 * (f : Int) ≤ T := by omega
      rw [if_neg (by omega), if_neg (by omega)]
  have e0 : ((g'.step z0L).2.seat 0) = { s with health := 100 - cost z0L B ⟨16 * aim, 0, 0⟩ (wat v (if timeP ((j + 1 : Nat) : Int) t < 256 then 256 else timeP ((j + 1 : Nat) : Int) t)) } := by
    rw [st, h2, PGame.put_at, n0, tk, n1.2.2.2.2, w2]
    show ({ s with health := 100 - cost z0L B (wayP ⟨aim, 0, 0⟩) (s.poseAt (timeP ((j + 1 : Nat) : Int) t)) } : PSeat) = _
    rw [ps]
    have : wayP ⟨aim, 0, 0⟩ = ⟨16 * aim, 0, 0⟩ := by unfold wayP; rfl
    rw [this]
  have e1 : ((g'.step z0L).2.seat 1) = ((g'.notes z0L).seat 1).spent ((j + 1 : Nat) : Int) := by
    rw [st, h2, PGame.put_ne _ _ (by decide), PGame.put_at, tk]
  have e2 : (g'.step z0L).2.tick = ((j + 1 : Nat) : Int) := by
    rw [st, h2]; exact tk
  refine ⟨(g'.step z0L).2, Prod.ext (by unfold PGame.step; rw [if_neg (by omega)]) rfl, e2, by rw [e0]; exact w1, by rw [e0]; exact w3, by rw [e0]; exact w6, by rw [e1]; exact n1.1, by rw [e1]; exact n1.2.1, by rw [e1]; show ((g'.notes z0L).seat 1).ammo - 1 = 5; rw [n1.2.2.1]; decide, by rw [e1]; rfl, by rw [e0]⟩

/-- What the shot along x costs one that stood at y. -/
theorem rew_cost {w y z Y : Int} (w1 : 1 ≤ w) (w2 : w ≤ 120) (y1 : -1300 ≤ y) (y2 : y ≤ 1300) (z1 : -30 ≤ z) (z2 : z ≤ 30) (Y1 : 0 ≤ Y) (Y2 : Y ≤ 4096) :
    cost z0L ⟨2048 - 8 * w, 2048 + y, 2048 + z⟩ ⟨16 * w, 0, 0⟩ ⟨2048, Y, 2048⟩ = if (-16 ≤ z ∧ z ≤ 8) ∧ (Y - (2048 + y) ≤ 8 ∧ 2048 + y - Y ≤ 8) then 25 else if (8 < z ∧ z ≤ 16) ∧ (Y - (2048 + y) ≤ 4 ∧ 2048 + y - Y ≤ 4) then 60 else 0 := by
  rw [z0_cost]
  have np : (⟨2048 - 8 * w, 2048 + y, 2048 + z⟩ : V3).Near := ⟨by dsimp only; omega, by dsimp only; omega, by dsimp only; omega, by dsimp only; omega, by dsimp only; omega, by dsimp only; omega⟩
  have nd : (⟨16 * w, 0, 0⟩ : V3).Near := ⟨by dsimp only; omega, by dsimp only; omega, by dsimp only; omega, by dsimp only; omega, by dsimp only; omega, by dsimp only; omega⟩
  have nq : InB cubeLo cubeHi ⟨2048, Y, 2048⟩ := ⟨by show (0 : Int) ≤ 2048; decide, by show (2048 : Int) ≤ 4096; decide, Y1, Y2, by show (0 : Int) ≤ 2048; decide, by show (2048 : Int) ≤ 4096; decide⟩
  obtain ⟨n1, n2, n3, n4⟩ := near_lo nq
  have head := boxX 60 np nd n3 n4 (show 1 ≤ 16 * w by omega) (by show (2048 : Int) - 4 ≤ 2048 + 4; decide)
  have body := boxX 25 np nd n1 n2 (show 1 ≤ 16 * w by omega) (by show (2048 : Int) - 8 ≤ 2048 + 8; decide)
  have bm : xMeets ⟨2048 - 8 * w, 2048 + y, 2048 + z⟩ (bodyLo ⟨2048, Y, 2048⟩) (bodyHi ⟨2048, Y, 2048⟩) (16 * w) ↔ (-16 ≤ z ∧ z ≤ 8) ∧ (Y - (2048 + y) ≤ 8 ∧ 2048 + y - Y ≤ 8) := by
    unfold xMeets
    show ((Y - 8 ≤ 2048 + y ∧ 2048 + y ≤ Y + 8) ∧ ((2048 : Int) - 16 ≤ 2048 + z ∧ 2048 + z ≤ (2048 : Int) + 8) ∧ 2048 - 8 * w ≤ (2048 : Int) + 8 ∧ (2048 : Int) - 8 ≤ 2048 - 8 * w + 16 * w) ↔ _
    omega
  have hm : xMeets ⟨2048 - 8 * w, 2048 + y, 2048 + z⟩ (headLo ⟨2048, Y, 2048⟩) (headHi ⟨2048, Y, 2048⟩) (16 * w) ↔ (8 ≤ z ∧ z ≤ 16) ∧ (Y - (2048 + y) ≤ 4 ∧ 2048 + y - Y ≤ 4) := by
    unfold xMeets
    show ((Y - 4 ≤ 2048 + y ∧ 2048 + y ≤ Y + 4) ∧ ((2048 : Int) + 8 ≤ 2048 + z ∧ 2048 + z ≤ (2048 : Int) + 16) ∧ 2048 - 8 * w ≤ (2048 : Int) + 4 ∧ (2048 : Int) - 4 ≤ 2048 - 8 * w + 16 * w) ↔ _
    omega
  have wb : xWay ⟨2048 - 8 * w, 2048 + y, 2048 + z⟩ (bodyLo ⟨2048, Y, 2048⟩) = 8 * w - 8 := by
    unfold xWay
    show (if (2048 : Int) - 8 ≤ 2048 - 8 * w then (0 : Int) else 2048 - 8 - (2048 - 8 * w)) = _
    split <;> omega
  have wh : xWay ⟨2048 - 8 * w, 2048 + y, 2048 + z⟩ (headLo ⟨2048, Y, 2048⟩) = 8 * w - 4 := by
    unfold xWay
    show (if (2048 : Int) - 4 ≤ 2048 - 8 * w then (0 : Int) else 2048 - 4 - (2048 - 8 * w)) = _
    split <;> omega
  unfold hitAt
  by_cases hb : (-16 ≤ z ∧ z ≤ 8) ∧ (Y - (2048 + y) ≤ 8 ∧ 2048 + y - Y ≤ 8)
  · rw [if_pos hb]
    obtain ⟨nb, eb, hb1, hb2, hb3⟩ := body.2 (bm.2 hb)
    rw [hb1]
    by_cases hh : (8 ≤ z ∧ z ≤ 16) ∧ (Y - (2048 + y) ≤ 4 ∧ 2048 + y - Y ≤ 4)
    · obtain ⟨nh, eh, hh1, hh2, hh3⟩ := head.2 (hm.2 hh)
      rw [hh1]
      rw [wb] at hb3
      rw [wh] at hh3
      have := (segX_lt (show 1 ≤ 16 * w by omega) hb2 hh2 hb3 hh3).2 (by omega)
      rw [if_pos (show Hit.ahead (some (nb, eb, 25)) (some (nh, eh, 60)) = true from decide_eq_true this)]
    · rw [head.1 (fun k => hh (hm.1 k))]; rfl
  · rw [if_neg hb, body.1 (fun k => hb (bm.1 k))]
    show (match (boxHit _ _ _ _ 60 : Hit) with | Option.none => (0 : Int) | some (_, _, x) => x) = _
    by_cases hh : (8 ≤ z ∧ z ≤ 16) ∧ (Y - (2048 + y) ≤ 4 ∧ 2048 + y - Y ≤ 4)
    · obtain ⟨nh, eh, hh1, _, _⟩ := head.2 (hm.2 hh)
      rw [hh1, if_pos (by omega)]
    · rw [head.1 (fun k => hh (hm.1 k)), if_neg (by omega)]

end Go.Proofs.Ytonmihojfcjmjab.M
