import Derived.Test.YtonmihojfcjmjabPaM
import Derived.BigQuiet
import Derived.Test.YtonmihojfcjmjabBBk
import Derived.Test.YtonmihojfcjmjabPq8
/- Contracts of the statements' helpers: less, shot. -/
namespace Go.Proofs.Ytonmihojfcjmjab
open Go.RowKit
set_option linter.unusedVariables false
attribute [local go_sem] cell_set_off cell_set_blk

def spanL (s : M.Span) : Array Value := #[.int .i64 s.live, .int .i64 s.health, .int .i64 s.ammo, .int .i64 s.left]
theorem kless_any (n : Int) (w : World) (h0 : 0 ≤ n) (h1 : n ≤ 255) (r : Int) (hr : Hid (M.lessI n = r)) :
    Calls Try.prog 55 #[.int .i64 n] w fun e w' => e = .returned (.int .i64 r) ∧ w' = w := by
  by_cases h : 0 < n
  · obtain rfl : n - 1 = r := by rw [← hr.out]; unfold M.lessI; rw [if_pos h]
    clear hr
    go_enter Try.func55, Try.ntmps55
    go_wp2
    go_ret
    exact ⟨rfl, rfl⟩
  · obtain rfl : 0 = r := by rw [← hr.out]; unfold M.lessI; rw [if_neg h]
    clear hr
    go_enter Try.func55, Try.ntmps55
    go_wp2
    go_ret
    exact ⟨rfl, rfl⟩

set_option maxHeartbeats 1000000 in
theorem kshot_any (p q : M.Span) (w : World) (hp : p.Byte) (hq : q.Byte) (hf : M.fairB p q = true) (B : Bool) (hB : Hid ((!decide (q.ammo = p.ammo)) = B)) :
    Calls Try.prog 39 #[.agg #[.int .i64 p.live, .int .i64 p.health, .int .i64 p.ammo, .int .i64 p.left], .agg #[.int .i64 q.live, .int .i64 q.health, .int .i64 q.ammo, .int .i64 q.left]] w fun e w' => e = .returned (.tuple #[.bool B, .bool true]) ∧ Below w.heap.size w w' := by
  obtain ⟨p1, p2, p3, p4⟩ := p
  obtain ⟨q1, q2, q3, q4⟩ := q
  obtain ⟨_, _, _, _, a0, a1, f0, f1⟩ := hp
  simp only at a0 a1 f0 f1
  have LF0 := hid f0
  have LF1 := hid f1
  unfold M.fairB at hf
  simp only at hf hB ⊢
  clear hq
  obtain ⟨V, hV⟩ : ∃ V, (w.alloc (.cells #[.int .i64 p1, .int .i64 p2, .int .i64 p3, .int .i64 p4] 62)).alloc (.cells #[.int .i64 q1, .int .i64 q2, .int .i64 q3, .int .i64 q4] 62) = V := ⟨_, rfl⟩
  have QP := hid (show Blk V w.heap.size #[.int .i64 p1, .int .i64 p2, .int .i64 p3, .int .i64 p4] 62 from hV ▸ (Blk.new rfl).alloc)
  have QQ := hid (show Blk V (w.heap.size + 1) #[.int .i64 q1, .int .i64 q2, .int .i64 q3, .int .i64 q4] 62 from hV ▸ Blk.new (by simp))
  have BV := hid (show Below w.heap.size w V from hV ▸ (by go_grown))
  obtain ⟨x0, x1, x2, x3, xf, xl⟩ := QP.out.four
  obtain ⟨y0, y1, y2, y3, yf, yl⟩ := QQ.out.four
  by_cases h : q3 = p3
  · rw [if_pos h] at hf
    obtain rfl : false = B := by rw [← hB.out, decide_eq_true h]; rfl
    have hq4 : M.lessI p4 = q4 := (of_decide_eq_true hf).symm
    have HL := hid hq4
    have z : (q3 == p3) = true := by simp [h]
    clear hf hB h hq4
    go_enter Try.func39, Try.ntmps39
    go_wp2_with fail
    try rw [hV]
    refine (kless_any p4 _ LF0.out LF1.out q4 HL).mono ?_
    rintro e w1 ⟨rfl, rfl⟩
    go_wp2_with fail
    go_quiet (fail)
    go_wp2
    exact bodyPost_ret (v := .tuple #[.bool false, .bool true]) (by simp [results, Try.results39, go_sem]) rfl ⟨rfl, below_drewN BV.out _⟩
  · rw [if_neg h, Bool.and_eq_true, Bool.and_eq_true] at hf
    obtain rfl : true = B := by rw [← hB.out, decide_eq_false h]; rfl
    have e1 : q3 = p3 - 1 := of_decide_eq_true hf.1.1
    have z : (q3 == p3) = false := by simp [h]
    have z2 : p4 ≤ 1 := of_decide_eq_true hf.1.2
    have z3 : q4 = 3 := of_decide_eq_true hf.2
    subst e1 z3
    clear hf hB h
    go_enter Try.func39, Try.ntmps39
    go_wp2_with fail
    try rw [hV]
    go_quiet (fail)
    go_wp2
    exact bodyPost_ret (v := .tuple #[.bool true, .bool true]) (by simp [results, Try.results39, go_sem]) rfl ⟨rfl, below_drewN BV.out _⟩

end Go.Proofs.Ytonmihojfcjmjab

/- Contracts of the statements' book: lives. -/
namespace Go.Proofs.Ytonmihojfcjmjab
open Go.RowKit
set_option linter.unusedVariables false
attribute [local go_sem] cell_set_off cell_set_blk

def spanC (s : M.Span) (k : Nat) : Value := if k = 0 then .int .i64 s.live else if k = 1 then .int .i64 s.health else if k = 2 then .int .i64 s.ammo else .int .i64 s.left
theorem span_lit (s : M.Span) : cellsOf 4 (spanC s) = #[.int .i64 s.live, .int .i64 s.health, .int .i64 s.ammo, .int .i64 s.left] := rfl
theorem spanC_one (s : M.Span) (k : Nat) : (spanC s k).oneCell' = true := by
  unfold spanC
  split
  · rfl
  split
  · rfl
  split <;> rfl
/-- The cells of eight spans. -/
def spansC (f : Nat → M.Span) (k : Nat) : Value := spanC (f (k / 4)) (k % 4)
theorem spansC_set (f : Nat → M.Span) (j : Nat) (s : M.Span) (k : Nat) : (if j * 4 ≤ k ∧ k < j * 4 + 4 then spanC s (k - j * 4) else spansC f k) = spansC (fun i => if i = j then s else f i) k := by
  show _ = spanC (if k / 4 = j then s else f (k / 4)) (k % 4)
  by_cases h : j * 4 ≤ k ∧ k < j * 4 + 4
  · rw [if_pos h, if_pos (show k / 4 = j by omega), show k % 4 = k - j * 4 by omega]
  · rw [if_neg h, if_neg (show ¬ k / 4 = j by omega)]; rfl
def tmpLives (f : Nat → M.Span) (j k : Nat) : M.Span := if k < j then f k else M.Span.zero
theorem tmpLives_next (f : Nat → M.Span) (j : Nat) (s : M.Span) (hs : f j = s) : (fun i => if i = j then s else tmpLives f j i) = tmpLives f (j + 1) := by
  funext i
  unfold tmpLives
  by_cases e : i = j
  · subst e; rw [if_pos rfl, if_pos (by omega), hs]
  · rw [if_neg e]
    by_cases h : i < j
    · rw [if_pos h, if_pos (by omega)]
    · rw [if_neg h, if_neg (by omega)]
theorem tmpLives_skip (f : Nat → M.Span) (j : Nat) (hs : f j = M.Span.zero) : tmpLives f j = tmpLives f (j + 1) := by
  rw [← tmpLives_next f j _ hs]
  funext i
  by_cases e : i = j
  · subst e; rw [if_pos rfl]; unfold tmpLives; rw [if_neg (by omega)]
  · rw [if_neg e]
theorem big32 (a : Addr) : loadCellsFrom a 0 32 #[] = big 32 a := rfl
theorem big32' (a : Addr) : loadCells a 32 = big 32 a := rfl
theorem bigS4 (a : Addr) (x0 x1 x2 x3 : Value) : storeCells a [x0, x1, x2, x3] 0 = bigS a [x0, x1, x2, x3] := rfl
theorem Blk.range {W : World} {b n : Nat} {c : Nat → Value} {t : TypeId} (h : Blk W b (cellsOf n c) t) : Range W b 0 n c := fun k hk => by rw [Nat.zero_add]; exact h.cellC k hk
theorem Blk.setCs {b : Nat} {t : TypeId} : ∀ (vs : List Value) (cs : Array Value) (o : Nat) (W : World), Blk W b cs t → ∃ ds : Array Value, ds.size = cs.size ∧ Blk (W.setCells b o vs) b ds t
  | [], cs, o, W, h => ⟨cs, rfl, h⟩
  | v :: vs, cs, o, W, h => by
    obtain ⟨ds, h1, h2⟩ := Blk.setCs vs _ (o + 1) _ (h.set o v)
    exact ⟨ds, by rw [h1]; simp, h2⟩
theorem Blk.ofRange {W : World} {b n : Nat} {cs : Array Value} {c : Nat → Value} {t : TypeId} (h : Blk W b cs t) (hs : cs.size = n) (hr : Range W b 0 n c) : Blk W b (cellsOf n c) t := by
  have : cs = cellsOf n c := by
    apply Array.ext_getElem?
    intro i
    by_cases hi : i < n
    · rw [cellsOf_get _ hi, ← h.cell i]; have := hr i hi; rw [Nat.zero_add] at this; exact this
    · rw [Array.getElem?_eq_none (by omega), Array.getElem?_eq_none (by rw [cellsOf_size]; omega)]
  rw [← this]; exact h
/-- One span of eight is stored. -/
theorem Blk.setSpan {W : World} {b : Nat} {f : Nat → M.Span} {t : TypeId} (h : Blk W b (cellsOf 32 (spansC f)) t) {j : Nat} (hj : j < 8) (s : M.Span) :
    (bigS ⟨b, j * 4, none⟩ [.int .i64 s.live, .int .i64 s.health, .int .i64 s.ammo, .int .i64 s.left]).run Try.prog W = .ok () (W.setCells b (j * 4) [.int .i64 s.live, .int .i64 s.health, .int .i64 s.ammo, .int .i64 s.left]) ∧
    Blk (W.setCells b (j * 4) [.int .i64 s.live, .int .i64 s.health, .int .i64 s.ammo, .int .i64 s.left]) b (cellsOf 32 (spansC (fun i => if i = j then s else f i))) t := by
  refine ⟨store_range (P := Try.prog) (W := W) (b := b) (o := j * 4) _ (fun k hk => ?_) h.frozen (fun v hv => ?_), ?_⟩
  · have hk : k < 4 := hk
    rw [h.cellC (j * 4 + k) (by omega)]; rfl
  · have : v ∈ (cellsOf 4 (spanC s)).toList := hv
    exact cellsOf_one (fun i _ => spanC_one s i) v this
  · obtain ⟨ds, h1, h2⟩ := Blk.setCs [.int .i64 s.live, .int .i64 s.health, .int .i64 s.ammo, .int .i64 s.left] _ (j * 4) W h
    refine h2.ofRange (by rw [h1, cellsOf_size]) ?_
    have := (h.range.setNa (j * 4) (j * 4) 4 (by omega) (by omega) (spanC s)).congr (fun k hk => spansC_set f j s k)
    exact this

/-- What the client of a slot is told, by bytes. -/
theorem snap_bytes {g : M.PGame} (hk : g.Ok) {ls : List M.Lf} {ps : Nat → Bool} {i : Nat} (hi : i < 8) (ht : (g.seat i).taken = true) : ∃ S : ByteArray, g.snapS ls ps (i : Int) = (S, 0) ∧ ∃ z : 18 ≤ S.size, ((S[3]'(by omega)).toNat : Int) = i ∧ ((S[4]'(by omega)).toNat : Int) = ((g.seat i).span g.tick).live ∧ ((S[5]'(by omega)).toNat : Int) = ((g.seat i).span g.tick).health ∧ ((S[6]'(by omega)).toNat : Int) = ((g.seat i).span g.tick).ammo ∧ ((S[7]'(by omega)).toNat : Int) = ((g.seat i).span g.tick).left := by
  have l := snapS_len (g := g) (ls := ls) (ps := ps) hi ht
  have hB : g.takenB (i : Int) = true := by unfold M.PGame.takenB; simp [ht]; omega
  obtain ⟨n, e⟩ := snap_head g ls ps i
  have by_ := (hk.s i).byte (hk.r i)
  have E : g.snapS ls ps (i : Int) = (⟨([83, M.b8 g.tick, M.b8 (g.tick / 256), M.b8 i, M.b8 (g.seat i).liveN, M.b8 (g.seat i).health, M.b8 (g.seat i).ammo, M.b8 ((g.seat i).cooling g.tick), n] ++ g.rows ls ps i 8 0).toArray⟩, 0) := by
    unfold M.PGame.snapS; rw [if_pos hB, Int.toNat_natCast, e]
  rw [E] at l
  refine ⟨_, E, l.2, ?_, ?_, ?_, ?_, ?_⟩
  · exact M.b8_lt i (by omega) (by omega)
  · exact M.b8_lt _ by_.l0 (by have := by_.l1; show (g.seat i).liveN < 256; have : (g.seat i).liveN ≤ 255 := this; omega)
  · exact M.b8_lt _ by_.h0 (by have : (g.seat i).health ≤ 255 := by_.h1; show (g.seat i).health < 256; omega)
  · exact M.b8_lt _ by_.a0 (by have : (g.seat i).ammo ≤ 255 := by_.a1; show (g.seat i).ammo < 256; omega)
  · exact M.b8_lt _ by_.f0 (by have : (g.seat i).cooling g.tick ≤ 255 := by_.f1; show (g.seat i).cooling g.tick < 256; omega)

end Go.Proofs.Ytonmihojfcjmjab

/- Contracts of the statements' book: lives. -/
namespace Go.Proofs.Ytonmihojfcjmjab
open Go.RowKit
set_option linter.unusedVariables false
attribute [local go_sem] cell_set_off cell_set_blk

theorem zeroSpans : #[.int .i64 0, .int .i64 0, .int .i64 0, .int .i64 0, .int .i64 0, .int .i64 0, .int .i64 0, .int .i64 0, .int .i64 0, .int .i64 0, .int .i64 0, .int .i64 0, .int .i64 0, .int .i64 0, .int .i64 0, .int .i64 0, .int .i64 0, .int .i64 0, .int .i64 0, .int .i64 0, .int .i64 0, .int .i64 0, .int .i64 0, .int .i64 0, .int .i64 0, .int .i64 0, .int .i64 0, .int .i64 0, .int .i64 0, .int .i64 0, .int .i64 0, .int .i64 0] = cellsOf 32 (spansC (fun _ => M.Span.zero)) := by kernel_rfl
theorem spansC_one (f : Nat → M.Span) (k : Nat) : (spansC f k).oneCell' = true := spanC_one _ _

attribute [local go_sem high] bigS4 in
attribute [local go_sem ↓] bigS4 big32 big32' in
set_option maxRecDepth 100000 in
set_option maxHeartbeats 2000000 in
theorem bLives_any (k b : Nat) (v : Value) (ls : List M.Lf) (ps : Nat → Bool) (g : M.PGame) (bk : M.Book) (w : World) (hS : Sv w b v ls ps g) (hK : Bk w k bk) (hO : bk.Of g) :
    Calls Try.prog 25 #[.pointer (some ⟨k, 0, none⟩), .pointer (some ⟨b, 0, none⟩)] w fun e w' => e = .returned (.tuple #[.agg (cellsOf 32 (spansC (M.livesA bk g))), .bool true]) ∧ Below w.heap.size w w' := by
  have HS := hid hS
  have HK := hid hK
  have HO := hid hO
  have lk := Blk.lt hK
  clear hS hK hO
  obtain ⟨A, hA⟩ : ∃ A, M.livesA bk g = A := ⟨_, rfl⟩
  have HA := hid hA
  rw [hA]
  clear hA
  obtain ⟨W0, hW0⟩ : ∃ W, (w.alloc (.cells #[.int .i64 0, .int .i64 0, .int .i64 0, .int .i64 0, .int .i64 0, .int .i64 0, .int .i64 0, .int .i64 0, .int .i64 0, .int .i64 0, .int .i64 0, .int .i64 0, .int .i64 0, .int .i64 0, .int .i64 0, .int .i64 0, .int .i64 0, .int .i64 0, .int .i64 0, .int .i64 0, .int .i64 0, .int .i64 0, .int .i64 0, .int .i64 0, .int .i64 0, .int .i64 0, .int .i64 0, .int .i64 0, .int .i64 0, .int .i64 0, .int .i64 0, .int .i64 0] 63)).alloc (.cells #[.int .i64 0, .int .i64 0, .int .i64 0, .int .i64 0, .int .i64 0, .int .i64 0, .int .i64 0, .int .i64 0, .int .i64 0, .int .i64 0, .int .i64 0, .int .i64 0, .int .i64 0, .int .i64 0, .int .i64 0, .int .i64 0, .int .i64 0, .int .i64 0, .int .i64 0, .int .i64 0, .int .i64 0, .int .i64 0, .int .i64 0, .int .i64 0, .int .i64 0, .int .i64 0, .int .i64 0, .int .i64 0, .int .i64 0, .int .i64 0, .int .i64 0, .int .i64 0] 63) = W := ⟨_, rfl⟩
  have R0 := hid (show Blk W0 w.heap.size (cellsOf 32 (spansC (fun _ => M.Span.zero))) 63 from by rw [← hW0, ← zeroSpans]; exact (Blk.new rfl).alloc)
  have L0 := hid (show Blk W0 (w.heap.size + 1) (cellsOf 32 (spansC (tmpLives A 0))) 63 from by
    rw [show tmpLives A 0 = fun _ => M.Span.zero from rfl, ← hW0, ← zeroSpans]; exact Blk.new (by simp))
  have B0 := hid (show Below w.heap.size w W0 from hW0 ▸ (by go_grown))
  go_enter Try.func25, Try.ntmps25
  go_wp2_with fail
  try rw [hW0]
  clear hW0
  go_loopg [7, 8, 9] 9 (fun m u7 u8 u9 wr => ∃ j : Nat, u7 = .int .i64 j ∧ j ≤ 8 ∧ m + j = 9 ∧ Hid (Blk wr w.heap.size (cellsOf 32 (spansC (fun _ => M.Span.zero))) 63) ∧ Hid (Blk wr (w.heap.size + 1) (cellsOf 32 (spansC (tmpLives A j))) 63) ∧ Hid (Below w.heap.size w wr))
  case atStart => exact ⟨0, rfl, by omega, rfl, R0, L0, B0⟩
  case round =>
    clear R0 L0 B0
    obtain ⟨j, rfl, hj, hm, RJ, LJ, BJ⟩ := hrel
    have j0 : (0 : Int) ≤ (j : Int) := by omega
    by_cases hlt8 : j < 8
    · have j1 : (j : Int) < 8 := by omega
      have KJ := hid (show Bk wr k bk from Blk.after HK.out BJ.out)
      have ch := KJ.out.here hlt8
      cases hh : bk.here j
      · rw [hh] at ch
        have L2 := hid (show Blk wr (w.heap.size + 1) (cellsOf 32 (spansC (tmpLives A (j + 1)))) 63 from by
          rw [← tmpLives_skip A j (by rw [← HA.out]; unfold M.livesA; rw [hh]; rfl)]; exact LJ.out)
        clear hh LJ
        go_wp2
        go_roundg (gk - 1)
        case measure => omega
        case rel => exact ⟨j + 1, by go_num, by omega, by omega, RJ, L2, BJ⟩
      · rw [hh] at ch
        have tk : (g.seat j).taken = true := by rw [← HO.out.h j hlt8]; exact hh
        obtain ⟨S, hS, z, f3, f4, f5, f6, f7⟩ := snap_bytes HS.out.ok (ls := ls) (ps := ps) hlt8 tk
        have HSn := hid hS
        have eA : (g.seat j).span g.tick = A j := by rw [← HA.out]; unfold M.livesA; rw [if_pos hh]
        rw [eA] at f4 f5 f6 f7
        have nx : Hid ((fun i => if i = j then A j else tmpLives A j i) = tmpLives A (j + 1)) := tmpLives_next A j _ rfl
        have by_ : (A j).Byte := by rw [← eA]; exact (HS.out.ok.s j).byte (HS.out.ok.r j)
        generalize A j = sp at *
        obtain ⟨s1, s2, s3, s4⟩ := sp
        obtain ⟨b1, b2, b3, b4, b5, b6, b7, b8⟩ := by_
        simp only at f4 f5 f6 f7 b1 b2 b3 b4 b5 b6 b7 b8
        have z2 : decide ((S.size : Int) < 18) = false := by simp; omega
        have i3 : (3 : Int) < (S.size : Int) := by omega
        have i4 : (4 : Int) < (S.size : Int) := by omega
        have i5 : (5 : Int) < (S.size : Int) := by omega
        have i6 : (6 : Int) < (S.size : Int) := by omega
        have i7 : (7 : Int) < (S.size : Int) := by omega
        have SJ := hid (HS.out.after BJ.out)
        clear hh tk hS eA
        go_wp2_with fail
        refine (sv_snap SJ.out (j : Int) _ HSn).mono ?_
        rintro e w1 ⟨rfl, hb⟩
        have R1 := hid (RJ.out.after hb)
        have L1 := hid (LJ.out.after hb)
        have B1 := hid (bl BJ.out hb)
        clear hb SJ HSn RJ LJ BJ KJ ch
        obtain ⟨st0, qL⟩ := (L1.out.drew).setSpan hlt8 ⟨s1, s2, s3, s4⟩
        rw [nx.out] at qL
        have o3 := On.setN (w.heap.size + 1) (j * 4) [.int .i64 s1, .int .i64 s2, .int .i64 s3, .int .i64 s4] w1.drew
        obtain ⟨V, hV⟩ : ∃ V, w1.drew.setCells (w.heap.size + 1) (j * 4) [.int .i64 s1, .int .i64 s2, .int .i64 s3, .int .i64 s4] = V := ⟨_, rfl⟩
        rw [hV] at o3
        have QL := hid (show Blk V (w.heap.size + 1) (cellsOf 32 (spansC (tmpLives A (j + 1)))) 63 from hV ▸ qL)
        have st : (bigS ⟨w.heap.size + 1, j * 4, none⟩ [.int .i64 s1, .int .i64 s2, .int .i64 s3, .int .i64 s4]).run Try.prog w1.drew = .ok () V := hV ▸ st0
        have R3 := hid ((R1.out.drew).on o3 (by omega))
        have B3 := hid (On.toBelow (B1.out.drew) (by have := L1.out.lt; show w.heap.size ≤ w1.heap.size; omega) o3 (by omega))
        clear qL o3 nx hV st0
        have wz : IntKind.i64.wrap (j : Int) = (j : Int) := IntWalk.i64_in _ ⟨by omega, by omega⟩
        go_wp2_with fail
        refine still_tail5 15 (by kernel_rfl) (by kernel_rfl) ?_
        simp only [List.take_succ_cons, List.take_zero, List.drop_succ_cons, List.drop_zero]
        repeat still_step
        refine wpStill_nil ?_
        go_wp2_with fail
        rw [st]
        clear st
        go_wp2
        go_roundg (gk - 1)
        case measure => omega
        case rel => exact ⟨j + 1, by go_num, by omega, by omega, R3, QL, B3⟩
    · have j1 : ¬ (j : Int) < 8 := by omega
      obtain rfl : j = 8 := by omega
      have e8 : cellsOf 32 (spansC (tmpLives A 8)) = cellsOf 32 (spansC A) := cellsOf_congr (fun k hk => by unfold spansC tmpLives; rw [if_pos (by omega)])
      rw [e8] at LJ
      clear e8
      have ld := big_blk (P := Try.prog) (n := 32) LJ.out (cellsOf_size _ _)
      obtain ⟨V, st, qV, oV⟩ := store_new (P := Try.prog) RJ.out (cellsOf 32 (spansC A)).toList (by simp [cellsOf_size]) (cellsOf_one (fun i _ => spansC_one _ i))
      have QV := hid (show Blk V w.heap.size (cellsOf 32 (spansC A)) 63 from by simpa using qV)
      have BV := hid (On.toBelow BJ.out (by have := LJ.out.lt; omega) oV (by omega))
      have hs32 : (cellsOf 32 (spansC A)).size = 32 := cellsOf_size _ _
      have ld2 := hid (big_blk (P := Try.prog) (n := 32) QV.out (cellsOf_size _ _))
      clear qV oV RJ LJ BJ
      go_wp2
      exact bodyPost_ret (v := .tuple #[.agg (cellsOf 32 (spansC A)), .bool true]) (by simp [results, Try.results25, go_sem, ld2.out]) rfl ⟨rfl, BV.out⟩

end Go.Proofs.Ytonmihojfcjmjab
