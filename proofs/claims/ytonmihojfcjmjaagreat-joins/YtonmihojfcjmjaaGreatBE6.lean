import Derived.Test.YtonmihojfcjmjaaGreatBE4
import Derived.Deep.MidRow
/- The great statements' script: what its servers own. -/
namespace Go.Proofs.YtonmihojfcjmjaaGreat
open Go.RowKit
set_option linter.unusedVariables false

def pairL (l : List (Value × Value)) : List Value := l.flatMap (fun q => [q.1, q.2])
theorem pairL_snoc (l : List (Value × Value)) (q : Value × Value) : pairL (l ++ [q]) = pairL l ++ [q.1, q.2] := by simp [pairL]
theorem infoPair : (Tryz.prog.info? 38).map (fun i => (i.zero, i.size, i.bytes)) = some (some (.agg #[.pointer none, .pointer none]), 2, 16) := by kernel_rfl

/-- The servers so far: the row v of pairs, and what each pair owns. -/
structure Lst (w wr : World) (v : Value) (l : List (Value × Value)) (T : Nat → Nat → Prop) (N : Nat) : Prop where
  bel : Below w.heap.size w wr
  row : wr.ownsRow w.heap.size 38 2 v l.length (pairL l)
  du : ∀ j q, l[j]? = some q → Du N wr (T j) q.1 q.2
  fr : ∀ j k, j < l.length → T j k → w.heap.size ≤ k ∧ k < wr.heap.size ∧ v.ownBlock ≠ some k
  ap : ∀ i j k, i < l.length → j < l.length → T i k → T j k → i = j
  nN : l.length ≤ N
theorem Lst.start (w : World) : Lst w w (.slice none 0 0) [] (fun _ _ => False) 0 :=
  ⟨Below.refl _ _, ⟨rfl, .inl ⟨rfl, rfl⟩⟩, fun j q h => by simp at h, fun j k h => by simp at h, fun i j k h => by simp at h, Nat.le_refl _⟩
theorem Lst.after {w wr wr2 : World} {v : Value} {l : List (Value × Value)} {T : Nat → Nat → Prop} {N N' : Nat} (h : Lst w wr v l T N) (hb : Below wr.heap.size wr wr2) (hN : N ≤ N') : Lst w wr2 v l T N' :=
  ⟨bl h.bel hb, own_of h.row (fun k hk => hb.block k (own_lt h.row hk)), fun j q hq => ((h.du j q hq).after hb).more (by omega) (fun k hk => hk), fun j k hj hk => by have := h.fr j k hj hk; exact ⟨this.1, by have := hb.size; omega, this.2.2⟩, h.ap, by have := h.nN; omega⟩
/-- Something else has changed. -/
theorem Lst.other {w wr wr2 : World} {v : Value} {l : List (Value × Value)} {T : Nat → Nat → Prop} {N c : Nat} (h : Lst w wr v l T N) (ho : On c wr wr2) (hc : w.heap.size ≤ c) (hT : ∀ j, j < l.length → ¬ T j c) (hv : v.ownBlock ≠ some c) : Lst w wr2 v l T N := by
  have os : OnS (fun k => k = c) wr wr2 := OnS.on ho rfl
  have z := ho.size
  refine ⟨OnS.toBelow h.bel h.bel.size os (fun k hk => by omega), own_of h.row (fun k hk => ho.block k (own_lt h.row hk) (fun e => hv (e ▸ hk))), fun j q hq => (h.du j q hq).onS os (fun k hk e => hT j (List.getElem?_eq_some_iff.1 hq).1 (e ▸ hk)), fun j k hj hk => by have := h.fr j k hj hk; exact ⟨this.1, by omega, this.2.2⟩, h.ap, h.nN⟩
/-- One pair has gone on. -/
theorem Lst.play {w wr wr2 : World} {v : Value} {l : List (Value × Value)} {T : Nat → Nat → Prop} {N : Nat} (h : Lst w wr v l T N) {j : Nat} {x y : Value} (hq : l[j]? = some (x, y)) (ho : OnS (T j) wr wr2) (d : Du ((N : Int) + 1) wr2 (grownT (T j) wr wr2) x y) :
    Lst w wr2 v l (fun i => if i = j then grownT (T j) wr wr2 else T i) (N + 1) := by
  have hj : j < l.length := (List.getElem?_eq_some_iff.1 hq).1
  have z := ho.size
  have z0 := h.bel.size
  refine ⟨OnS.toBelow h.bel z0 ho (fun k hk => (h.fr j k hj hk).1), own_of h.row (fun k hk => ho.block k (own_lt h.row hk) (fun e => (h.fr j k hj e).2.2 hk)), fun i q hi => ?_, fun i k hi hk => ?_, fun a b k ha hb h1 h2 => ?_, by have := h.nN; omega⟩
  · by_cases e : i = j
    · subst e
      rw [hq] at hi
      cases hi
      simp only [if_true]
      exact d
    · simp only [if_neg e]
      exact ((h.du i q hi).onS ho (fun k hk hk2 => e (h.ap i j k (List.getElem?_eq_some_iff.1 hi).1 hj hk hk2))).more (by omega) (fun k hk => hk)
  · by_cases e : i = j
    · subst e
      simp only [if_true] at hk
      rcases hk with q | q
      · have := h.fr i k hi q; exact ⟨this.1, by omega, this.2.2⟩
      · exact ⟨by omega, q.2, fun e => by have := own_lt h.row e; omega⟩
    · simp only [if_neg e] at hk
      have := h.fr i k hi hk; exact ⟨this.1, by omega, this.2.2⟩
  · by_cases e : a = j
    · subst e
      simp only [if_true] at h1
      by_cases e2 : b = a
      · exact e2.symm
      · simp only [if_neg e2] at h2
        rcases h1 with q | q
        · exact h.ap a b k ha hb q h2
        · have := (h.fr b k hb h2).2.1; omega
    · simp only [if_neg e] at h1
      by_cases e2 : b = j
      · subst e2
        simp only [if_true] at h2
        rcases h2 with q | q
        · exact h.ap a b k ha hb h1 q
        · have := (h.fr a k ha h1).2.1; omega
      · simp only [if_neg e2] at h2
        exact h.ap a b k ha hb h1 h2
/-- One pair more. -/
theorem Lst.push {w wr W3 w4 : World} {v v' : Value} {l : List (Value × Value)} {T : Nat → Nat → Prop} {N : Nat} (h : Lst w wr v l T N) (hb : Below wr.heap.size wr W3) {x y : Value} {S : Nat → Prop} (d : Du 0 W3 S x y) (hS : ∀ k, S k → wr.heap.size ≤ k ∧ k < W3.heap.size)
    (ho : OnS (fun k => v.ownBlock = some k) W3 w4) (hown : w4.ownsRow w.heap.size 38 2 v' (l.length + 1) (pairL l ++ [x, y])) (hat : ∀ k, v'.ownBlock = some k → v.ownBlock = some k ∨ W3.heap.size ≤ k) :
    Lst w w4 v' (l ++ [(x, y)]) (fun i => if i = l.length then S else T i) (N + 1) := by
  have z := ho.size
  have z0 := h.bel.size
  have z1 := hb.size
  have h3 := h.after hb (Nat.le_refl N)
  refine ⟨OnS.toBelow h3.bel (by omega) ho (fun k hk => row_own2 h.row k hk), by rw [List.length_append, pairL_snoc]; exact hown, fun i q hi => ?_, fun i k hi hk => ?_, fun a b k ha hb2 h1 h2 => ?_, by rw [List.length_append]; have := h.nN; simp; omega⟩
  · by_cases e : i = l.length
    · subst e
      rw [List.getElem?_concat_length] at hi
      cases hi
      simp only [if_true]
      exact (d.onS ho (fun k hk e => by have := hS k hk; have := own_lt h.row e; omega)).more (by omega) (fun k hk => hk)
    · have hlt : i < l.length := by
        have := (List.getElem?_eq_some_iff.1 hi).1
        rw [List.length_append] at this
        simp at this
        omega
      rw [List.getElem?_append_left hlt] at hi
      simp only [if_neg e]
      exact ((h3.du i q hi).onS ho (fun k hk hk2 => (h.fr i k hlt hk).2.2 hk2)).more (by omega) (fun k hk => hk)
  · by_cases e : i = l.length
    · subst e
      simp only [if_true] at hk
      have := hS k hk
      refine ⟨by omega, by omega, fun q => ?_⟩
      rcases hat k q with q | q
      · have := own_lt h.row q; omega
      · omega
    · have hlt : i < l.length := by rw [List.length_append] at hi; simp at hi; omega
      simp only [if_neg e] at hk
      have f := h.fr i k hlt hk
      refine ⟨f.1, by omega, fun q => ?_⟩
      rcases hat k q with q | q
      · exact f.2.2 q
      · omega
  · rw [List.length_append] at ha hb2
    simp at ha hb2
    by_cases e : a = l.length
    · subst e
      simp only [if_true] at h1
      by_cases e2 : b = l.length
      · exact e2.symm
      · simp only [if_neg e2] at h2
        have := hS k h1; have := h.fr b k (by omega) h2; omega
    · simp only [if_neg e] at h1
      by_cases e2 : b = l.length
      · subst e2
        simp only [if_true] at h2
        have := hS k h2; have := h.fr a k (by omega) h1; omega
      · simp only [if_neg e2] at h2
        exact h.ap a b k (by omega) (by omega) h1 h2

/-- From a on lie the steps. -/
def LRow (W : World) (a : Addr) (n : Nat) (os : Nat → M.LOp) : Prop := ∀ i, i < n → ∀ j v, (lopL (os i))[j]? = some v → W.cell? ((a.add (i * 7)).add j) = some v
theorem add_blockL (a : Addr) (k : Nat) : (a.add k).block = a.block := by unfold Addr.add; split <;> rfl
theorem LRow.lt {W : World} {a : Addr} {n : Nat} {os : Nat → M.LOp} (h : LRow W a n os) (hn : 0 < n) : a.block < W.heap.size := by
  have := World.block_lt_of_cell? W _ (h 0 hn 0 _ rfl)
  rwa [add_blockL, add_blockL] at this
theorem LRow.below {W W' : World} {a : Addr} {n : Nat} {os : Nat → M.LOp} (h : LRow W a n os) (hb : Below W.heap.size W W') : LRow W' a n os := fun i hi j v hv => by
  have e := h i hi j v hv
  have l : a.block < W.heap.size := h.lt (by omega)
  rw [← e]
  exact World.cell?_of_block (by rw [add_blockL, add_blockL]; exact hb.block _ l)
theorem big7 (a : Addr) : loadCellsFrom a 0 7 #[] = big 7 a := rfl
theorem big7' (a : Addr) : loadCells a 7 = big 7 a := rfl
theorem LRow.load {W : World} {a : Addr} {n : Nat} {os : Nat → M.LOp} (h : LRow W a n os) {i : Nat} (hi : i < n) : (big 7 (a.add (i * 7))).run Tryz.prog W = .ok (lopL (os i)).toArray W := by
  have := run_loadCells_list (P := Tryz.prog) W (a.add (i * 7)) (lopL (os i)) (fun j v hv => h i hi j v hv)
  exact this
theorem Blk.load7 {W : World} {k : Nat} {o : M.LOp} {t : TypeId} (h : Blk W k (lopL o).toArray t) : (big 7 ⟨k, 0, none⟩).run Tryz.prog W = .ok (lopL o).toArray W := by
  have := run_loadCells_list (P := Tryz.prog) W ⟨k, 0, none⟩ (lopL o) (fun j v hv => by
    have : (⟨k, 0, none⟩ : Addr).add j = ⟨k, j, none⟩ := by simp [Addr.add]; intro h; exact h.symm
    rw [this, h.cell j]
    simpa using hv)
  exact this

/-- Both servers, new. -/
theorem du_new {s : ByteArray} {w1 w2 w3 : World} {bx : Nat} {x : Option Addr} {n cap : Nat} {b : Nat} {lv : Value} (he : (M.errS s).1 = 0) (hb2 : Below w2.heap.size w2 w3) (z : w1.heap.size ≤ w2.heap.size) (hbx : w1.heap.size ≤ bx) (hp : Pg w2 bx (.slice x n cap) (M.prs s) M.PGame.fresh)
    (ho : w2.ownsRow 0 137 7 (.slice x n cap) (M.top s).2.leaves.length (flat (M.top s).2.leaves)) (hne : ∀ k, (Value.slice x n cap).ownBlock = some k → k ≠ bx ∧ w1.heap.size ≤ k)
    (hg : Gd w3 (fun k => w2.heap.size ≤ k ∧ k < w3.heap.size) b lv (.slice none 0 0) (fun _ => .slice none 0 0) (M.Game.fresh s (M.top s).2.leaves)) :
    Du 0 w3 (fun k => w1.heap.size ≤ k ∧ k < w3.heap.size) (.pointer (some ⟨bx, 0, none⟩)) (.pointer (some ⟨b, 0, none⟩)) := by
  have g := M.good_of he
  have z3 := hb2.size
  have lx := hp.lt
  have sv : Sv w2 bx (.slice x n cap) (M.top s).2.leaves (M.prs s) M.PGame.fresh := ⟨⟨x, n, cap, rfl⟩, hp, ho, fun k hk => (hne k hk).1, g.len, g.cub, M.PGame.Ok.fresh⟩
  refine Duo.du (v := .slice x n cap) (lv := lv) (S := fun k => w2.heap.size ≤ k ∧ k < w3.heap.size) (P := M.PGame.fresh) (G := M.Game.fresh s (M.top s).2.leaves) ⟨sv.after hb2, ⟨_, _, hg⟩, M.Rel.fresh s _, g, ⟨hbx, by omega⟩, fun k hk => ⟨(hne k hk).2, by have := own_lt ho hk; omega⟩, fun k hk => ⟨⟨by omega, hk.2⟩, hk.2, by omega, fun e => by have := own_lt ho e; omega⟩⟩

end Go.Proofs.YtonmihojfcjmjaaGreat

/- The great statements' script: holds. -/
namespace Go.Proofs.YtonmihojfcjmjaaGreat
open Go.RowKit
set_option linter.unusedVariables false
attribute [local go_sem] cell_set_off cell_set_blk

theorem slice_own2 {W : World} {base e sz n : Nat} {v : Value} {xs : List Value} (h : W.ownsRow base e sz v n xs) : ∃ x c, v = .slice x n c := by
  rcases own_shape h with ⟨e1, e2⟩ | ⟨g0, c0, e1, _⟩
  · subst e2; exact ⟨_, _, e1⟩
  · exact ⟨_, _, e1⟩
/-- What the loop keeps. -/
def HJ (w : World) (v : Value) (N : Nat) (wr : World) : Prop := ∃ l T, Lst w wr v l T N

attribute [local go_sem ↓] big7 big7' in
set_option maxRecDepth 100000 in
set_option maxHeartbeats 4000000 in
theorem holds_some (a : Addr) (n cap : Nat) (os : Nat → M.LOp) (held : Int) (still : Bool) (w : World) (hR : LRow w a n os) (hn : n ≤ 2199023255552) (hs : ∀ i, i < n → (os i).s.size ≤ 140737488355328) (ha : ∀ i, i < n → -9223372036854775808 ≤ (os i).a ∧ (os i).a ≤ 9223372036854775807) :
    Calls Tryz.prog 6 #[.slice (some a) n cap, .int .i64 held, .bool still] w fun e w' => e = .returned (.bool true) ∧ Below w.heap.size w w' := by
  have HR := hid hR
  have HSz := hid hs
  have HA := hid ha
  have L0 := hid (show HJ w (.slice none 0 0) 0 w from ⟨[], _, Lst.start w⟩)
  clear hR hs ha
  go_enter Tryz.func6, Tryz.ntmps6
  go_wp2_with fail
  go_loopg [7, 8, 9, 10, 11, 12, 13, 14] (n + 1) (fun m u7 u8 u9 u10 u11 u12 u13 u14 wr => ∃ j : Nat, u8 = .int .i64 j ∧ j ≤ n ∧ m + j = n + 1 ∧ Hid (HJ w u7 j wr))
  case atStart => exact ⟨0, rfl, by omega, by omega, L0⟩
  case round =>
    clear L0
    obtain ⟨j, rfl, hj, hm, LJ⟩ := hrel
    by_cases hlt : j < n
    · have j0 : (0 : Int) ≤ (j : Int) := by omega
      have j1 : (j : Int) < (n : Int) := by omega
      obtain ⟨l, T, lj⟩ := LJ.out
      have LL := hid lj
      have ld := (HR.out.below lj.bel).load hlt
      have sz := HSz.out j hlt
      have AB := hid (HA.out j hlt)
      have nN := lj.nN
      obtain ⟨x7, cp7, hu7⟩ := slice_own2 lj.row
      subst hu7
      clear lj LJ
      generalize os j = o at *
      unfold lopL at ld
      obtain ⟨V, hV⟩ : ∃ V, wr.alloc (.cells #[.int .i64 o.kind, .int .i64 o.a, .int .i64 o.b, .int .i64 o.p.x, .int .i64 o.p.y, .int .i64 o.p.z, .string o.s] 29) = V := ⟨_, rfl⟩
      have bV : Below wr.heap.size wr V := by rw [← hV]; go_grown
      have QO := hid (show Blk V wr.heap.size (lopL o).toArray 29 from by rw [← hV]; exact Blk.new rfl)
      have LV := hid (LL.out.after bV (Nat.le_refl _))
      have BV := hid bV
      have zV : wr.heap.size < V.heap.size := QO.out.lt
      clear bV
      have sz2 : o.s.size ≤ maxLen := by unfold maxLen; omega
      obtain ⟨o0, o1, o2, o3, o4, o5, o6, ol⟩ := QO.out.op7
      by_cases h1 : o.kind = 1
      · as_aux_lemma =>
          have z1 : (o.kind == 1) = true := by simp [h1]
          obtain ⟨ii, hi0, hi1, hi2, hi3⟩ := info_parts infoPair
          clear h1
          go_wp2_with fail
          try rw [hV]
          clear hV ld
          refine (new_any o.s _ sz2).mono ?_
          rintro e w1 ⟨hb1, hc1⟩
          have B1 := hid hb1
          have q6 : w1.cell? ⟨wr.heap.size, 6, none⟩ = some (.string o.s) := (QO.out.after hb1).cell 6
          have ql := (QO.out.after hb1).lt
          have zz1 := hb1.size
          clear hb1 o0 o1 o2 o3 o4 o5 o6 ol
          have HC1 := hid hc1
          rcases hc1 with ⟨ne, rfl⟩ | ⟨e0, bx, x, n1, cap1, rfl, hbx, hp, ho, hne⟩
          · as_aux_lemma =>
              obtain ⟨er, her⟩ : ∃ er, (M.errS o.s).1 = er := ⟨_, rfl⟩
              have ER := hid her
              rw [her] at ne
              have NE := hid ne
              rw [her]
              clear ne her
              go_wp2_with fail
              refine (dg_new o.s _ sz2).mono ?_
              rintro e w2 ⟨hb2, hc2⟩
              rcases hc2 with ⟨_, rfl⟩ | ⟨e0, _⟩
              · have B3 := hid (show Below wr.heap.size wr w2 from bl (bl BV.out B1.out) hb2)
                have DN := hid (show Du 0 w2 (fun k => wr.heap.size ≤ k ∧ k < w2.heap.size) (.pointer none) (.pointer none) from .inl ⟨rfl, rfl⟩)
                have O3 := hid (LL.out.after B3.out (Nat.le_refl _)).row
                have z3 : w.heap.size ≤ w2.heap.size := by have := LL.out.bel.size; have := B3.out.size; omega
                rw [ER.out]
                clear hb2 B1 BV LV q6 ql HC1
                go_wp2_with (at_builtin; refine wpList_append_lies _ (by rfl) (.tmp 50) (.tmp 54) 25 (by rfl) w.heap.size 38 ii _ 2 16 Tryz.underlying25 hi0 hi1 hi2 hi3 rfl (by omega) (.slice x7 l.length cp7) l.length (pairL l) (by rfl) (Go.World.ownsRow.alloc O3.out _) ⟨w2.heap.size, 0, none⟩ 1 1 [.pointer none, .pointer none] (by rfl) (by rfl) (World.news_of_block (cs := #[.pointer none, .pointer none]) (t := 38) (fr := (0, 0)) (Blk.new rfl).at_) (by simp [Value.oneCell']) (by omega) (by unfold maxLen; omega) (by omega) (by simp; omega) (w2.heap.size + 1) (by simp) ?_; intro g1 cap2 w4 hown1 hgrow1 hat1 hlt1)
                have LP := hid (LL.out.push B3.out DN.out (fun k hk => ⟨by omega, hk.2⟩) ⟨hgrow1.os.trans rfl, hgrow1.tape.trans rfl, hgrow1.output.trans rfl, by have := hgrow1.size; simp at this; omega, fun k hk hn => grow_block hgrow1 (by go_grown) hk (fun e => hn e.symm)⟩ hown1 (fun k hk => by
                  have e : g1 = k := by simpa [Value.ownBlock] using hk
                  rw [← e]
                  rcases hat1 with q | q
                  · exact .inl q
                  · right; omega))
                clear hown1 hgrow1 hat1
                go_wp2
                go_roundg (gk - 1)
                case measure => omega
                case rel => exact ⟨j + 1, by go_num, by omega, by omega, hid ⟨_, _, LP.out⟩⟩
              · exact absurd e0 (by rw [ER.out]; exact NE.out)
          · as_aux_lemma =>
              have PP := hid hp
              have PO := hid ho
              have PN := hid hne
              have E0 := hid e0
              clear hp ho hne e0 HC1
              go_wp2_with fail
              refine (dg_new o.s _ sz2).mono ?_
              rintro e w2 ⟨hb2, hc2⟩
              rcases hc2 with ⟨ne, _⟩ | ⟨_, bg, lv, rfl, hg⟩
              · exact absurd E0.out ne
              · have B3 := hid (show Below wr.heap.size wr w2 from bl (bl BV.out B1.out) hb2)
                have DN := hid (du_new E0.out hb2 zz1 hbx PP.out PO.out PN.out hg)
                have O3 := hid (LL.out.after B3.out (Nat.le_refl _)).row
                have z3 : w.heap.size ≤ w2.heap.size := by have := LL.out.bel.size; have := B3.out.size; omega
                clear hb2 B1 BV LV q6 ql PP PO PN hg
                go_wp2_with (at_builtin; refine wpList_append_lies _ (by rfl) (.tmp 50) (.tmp 54) 25 (by rfl) w.heap.size 38 ii _ 2 16 Tryz.underlying25 hi0 hi1 hi2 hi3 rfl (by omega) (.slice x7 l.length cp7) l.length (pairL l) (by rfl) (Go.World.ownsRow.alloc O3.out _) ⟨w2.heap.size, 0, none⟩ 1 1 [.pointer (some ⟨bx, 0, none⟩), .pointer (some ⟨bg, 0, none⟩)] (by rfl) (by rfl) (World.news_of_block (cs := #[.pointer (some ⟨bx, 0, none⟩), .pointer (some ⟨bg, 0, none⟩)]) (t := 38) (fr := (0, 0)) (Blk.new rfl).at_) (by simp [Value.oneCell']) (by omega) (by unfold maxLen; omega) (by omega) (by simp; omega) (w2.heap.size + 1) (by simp) ?_; intro g1 cap2 w4 hown1 hgrow1 hat1 hlt1)
                have LP := hid (LL.out.push B3.out DN.out (fun k hk => ⟨by omega, hk.2⟩) ⟨hgrow1.os.trans rfl, hgrow1.tape.trans rfl, hgrow1.output.trans rfl, by have := hgrow1.size; simp at this; omega, fun k hk hn => grow_block hgrow1 (by go_grown) hk (fun e => hn e.symm)⟩ hown1 (fun k hk => by
                  have e : g1 = k := by simpa [Value.ownBlock] using hk
                  rw [← e]
                  rcases hat1 with q | q
                  · exact .inl q
                  · right; omega))
                clear hown1 hgrow1 hat1
                go_wp2
                go_roundg (gk - 1)
                case measure => omega
                case rel => exact ⟨j + 1, by go_num, by omega, by omega, hid ⟨_, _, LP.out⟩⟩
      · as_aux_lemma =>
          have z1 : (o.kind == 1) = false := by simp [h1]
          clear h1
          by_cases hl : l.length = 0
          · have zl : ((l.length : Int) == 0) = true := by simp [hl]
            go_wp2
            try rw [hV]
            go_roundg (gk - 1)
            case measure => omega
            case rel => exact ⟨j + 1, by go_num, by omega, by omega, hid ⟨l, T, LV.out.after (Below.refl _ _) (by omega)⟩⟩
          · have zl : ((l.length : Int) == 0) = false := by simp [hl]
            obtain ⟨p, hpk, hp⟩ : ∃ p : Nat, M.pickL o.a l.length = (p : Int) ∧ p < l.length := by
              have := M.pickL_bd o.a l.length (by omega)
              exact ⟨(M.pickL o.a l.length).toNat, by omega, by omega⟩
            have HPk := hid (show ∀ W, Calls Tryz.prog 10 #[.int .i64 o.a, .int .i64 l.length] W fun e w' => e = .returned (.int .i64 p) ∧ w' = W from fun W => by
              have := lpick_v o.a l.length W AB.out ⟨by omega, by omega⟩
              rw [hpk] at this; exact this)
            obtain ⟨q, hq⟩ : ∃ q, l[p]? = some q := ⟨l[p], List.getElem?_eq_getElem hp⟩
            obtain ⟨x, y⟩ := q
            have HQ := hid hq
            obtain ⟨g7, rfl⟩ : ∃ g7, x7 = some ⟨g7, 0, none⟩ := by
              rcases own_shape LL.out.row with ⟨e1, e2⟩ | ⟨g0, c0, e1, _⟩
              · exact absurd e2 hl
              · cases e1; exact ⟨_, rfl⟩
            have PC := hid (fun (W : World) (hW : W.ownsRow w.heap.size 38 2 (.slice (some ⟨g7, 0, none⟩) l.length cp7) l.length (pairL l)) => (⟨own_at (f := fun q : Value × Value => [q.1, q.2]) (k := 2) (fun _ => rfl) hW hq (j := 0) (by omega), own_at (f := fun q : Value × Value => [q.1, q.2]) (k := 2) (fun _ => rfl) hW hq (j := 1) (by omega)⟩ : W.cell? ⟨g7, p * 2, none⟩ = some x ∧ W.cell? ⟨g7, p * 2 + 1, none⟩ = some y))
            have p0 : (0 : Int) ≤ (p : Int) := by omega
            have p1 : (p : Int) < (l.length : Int) := by omega
            clear hq hpk hl
            cases still
            · go_wp2_with fail
              try rw [hV]
              clear hV ld
              have LW := LV
              obtain ⟨px, py⟩ := PC.out _ LW.out.row
              have ldO := (show Blk V.drew wr.heap.size (lopL o).toArray 29 from QO.out.drew).load7
              unfold lopL at ldO
              clear LV
              refine still_tail5 10 (by kernel_rfl) (by kernel_rfl) ?_
              simp only [List.take_succ_cons, List.take_zero, List.drop_succ_cons, List.drop_zero]
              iterate 5 still_step
              still_call (HPk.out _)
              repeat still_step
              refine wpStill_nil ?_
              go_wp2_with fail
              refine (pplays_any o held V.drew ((LW.out.du p (x, y) HQ.out).after (by go_grown)) sz2 (by omega) (fun k hk => (LW.out.fr p k hp hk).2.1)).mono ?_
              rintro e w5 ⟨rfl, o5, d5⟩
              have LP := hid ((LW.out.after (wr2 := V.drew) (by go_grown) (Nat.le_refl _)).play HQ.out o5 d5)
              clear o5 d5 LW
              go_wp2
              go_roundg (gk - 1)
              case measure => omega
              case rel => exact ⟨j + 1, by go_num, by omega, by omega, hid ⟨_, _, LP.out⟩⟩
            · go_wp2_with fail
              try rw [hV]
              clear hV ld
              refine (lcalm_any o.s _ sz2).mono ?_
              rintro e w1 ⟨⟨s2, rfl, hs2, _⟩, hb1⟩
              have Q1 := hid (QO.out.after hb1)
              have L1 := hid (LV.out.after hb1 (Nat.le_refl _))
              obtain ⟨n0, n1, n2, n3, n4, n5, n6, nl⟩ := Q1.out.op7
              have nf := Q1.out.frozen
              have sz3 : s2.size ≤ maxLen := by rw [hs2]; exact sz2
              clear hb1 LV o0 o1 o2 o3 o4 o5 o6 ol
              obtain ⟨W2, hW2⟩ : ∃ W2, w1.setCell ⟨wr.heap.size, 6, none⟩ (.string s2) = W2 := ⟨_, rfl⟩
              have Q2 := hid (show Blk W2 wr.heap.size (lopL { o with s := s2 }).toArray 29 from by rw [← hW2]; exact Q1.out.set 6 (.string s2))
              have LW := hid (show Lst w W2 (.slice (some ⟨g7, 0, none⟩) l.length cp7) l T j from by
                rw [← hW2]
                exact L1.out.other (On.set wr.heap.size _ _ _) LL.out.bel.size (fun i hi e => by have := (LL.out.fr i _ hi e).2.1; omega) (fun e => by have := own_lt LL.out.row e; omega))
              clear L1 Q1
              go_wp2_with fail
              try rw [hW2]
              clear hW2 n0 n1 n2 n3 n4 n5 n6 nl nf
              obtain ⟨px, py⟩ := PC.out _ LW.out.row
              have ldO := (show Blk W2.drew wr.heap.size (lopL { o with s := s2 }).toArray 29 from Q2.out.drew).load7
              unfold lopL at ldO
              simp only at ldO
              obtain ⟨m0, m1, m2, m3, m4, m5, m6, ml⟩ := Q2.out.op7
              refine still_tail5 10 (by kernel_rfl) (by kernel_rfl) ?_
              simp only [List.take_succ_cons, List.take_zero, List.drop_succ_cons, List.drop_zero]
              iterate 5 still_step
              still_call (HPk.out _)
              repeat still_step
              refine wpStill_nil ?_
              go_wp2_with fail
              refine (pplays_any { o with s := s2 } held W2.drew ((LW.out.du p (x, y) HQ.out).after (by go_grown)) sz3 (by omega) (fun k hk => (LW.out.fr p k hp hk).2.1)).mono ?_
              rintro e w5 ⟨rfl, o5, d5⟩
              have LP := hid ((LW.out.after (wr2 := W2.drew) (by go_grown) (Nat.le_refl _)).play HQ.out o5 d5)
              clear o5 d5 LW
              go_wp2
              go_roundg (gk - 1)
              case measure => omega
              case rel => exact ⟨j + 1, by go_num, by omega, by omega, hid ⟨_, _, LP.out⟩⟩
    · obtain rfl : j = n := by omega
      have j1 : ¬ (j : Int) < (j : Int) := by omega
      obtain ⟨l, T, lj⟩ := LJ.out
      have BB := hid lj.bel
      clear lj LJ
      go_wp2
      go_ret
      exact ⟨rfl, BB.out⟩

end Go.Proofs.YtonmihojfcjmjaaGreat

/- The great statements' script: holds, of no steps. -/
namespace Go.Proofs.YtonmihojfcjmjaaGreat
open Go.RowKit
set_option linter.unusedVariables false

set_option maxRecDepth 100000 in
set_option maxHeartbeats 1000000 in
theorem holds_nil (held : Int) (still : Bool) (w : World) : Calls Tryz.prog 6 #[.slice none 0 0, .int .i64 held, .bool still] w fun e w' => e = .returned (.bool true) ∧ Below w.heap.size w w' := by
  go_enter Tryz.func6, Tryz.ntmps6
  go_wp2_with fail
  go_loopg [7, 8, 9, 10, 11, 12, 13, 14] 1 (fun m u7 u8 u9 u10 u11 u12 u13 u14 wr => u8 = .int .i64 0 ∧ wr = w)
  case atStart => exact ⟨rfl, rfl⟩
  case round =>
    obtain ⟨rfl, rfl⟩ := hrel
    go_wp2
    go_ret
    exact ⟨rfl, Below.refl _ _⟩

end Go.Proofs.YtonmihojfcjmjaaGreat
