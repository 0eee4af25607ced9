import Derived.Test.YtonmihojfcjmjabPg4
/- Contracts: New. -/
namespace Go.Proofs.Ytonmihojfcjmjab
open Go.RowKit
set_option linter.unusedVariables false
attribute [local go_sem] cell_set_off cell_set_blk
attribute [local go_sem ↓] big65 big65'

theorem fold_set (n : Nat) : ∀ (L : List Value) (k : Nat) (c : Nat → Value), (L.zipIdx k).foldl (fun cs x => cs.setIfInBounds x.snd x.fst) (cellsOf n c) = cellsOf n (fun j => if k ≤ j ∧ j < k + L.length then (L[j - k]?).getD undef else c j)
  | [], k, c => by
    simp only [List.zipIdx_nil, List.foldl_nil]
    exact cellsOf_congr (fun j _ => by rw [if_neg (by simp)])
  | v :: r, k, c => by
    simp only [List.zipIdx_cons, List.foldl_cons]
    rw [cellsOf_set, fold_set n r (k + 1) _]
    refine cellsOf_congr (fun j _ => ?_)
    by_cases e : j = k
    · subst e
      rw [if_neg (by omega), if_pos rfl, if_pos (by simp)]
      simp
    · by_cases e2 : k + 1 ≤ j ∧ j < k + 1 + r.length
      · rw [if_pos e2, if_pos (by simp; omega)]
        obtain ⟨m, rfl⟩ : ∃ m, j = k + 1 + m := ⟨j - (k + 1), by omega⟩
        rw [show k + 1 + m - (k + 1) = m by omega, show k + 1 + m - k = m + 1 by omega]
        simp
      · rw [if_neg e2, if_neg e, if_neg (by simp; omega)]
theorem fold_cells (n m : Nat) (c d : Nat → Value) : Array.foldl (fun cs x => cs.setIfInBounds x.snd x.fst) (cellsOf n c) (cellsOf m d).zipIdx 0 m = cellsOf n (fun j => if j < m then d j else c j) := by
  have h := fold_set n (cellsOf m d).toList 0 c
  have e : Array.foldl (fun cs x => cs.setIfInBounds x.snd x.fst) (cellsOf n c) (cellsOf m d).zipIdx 0 m = ((cellsOf m d).toList.zipIdx 0).foldl (fun cs x => cs.setIfInBounds x.snd x.fst) (cellsOf n c) := by
    have hs : (cellsOf m d).zipIdx.size = m := by simp [cellsOf]
    rw [← Array.toList_zipIdx, Array.foldl_toList]
    rw [hs]
  rw [e, h]
  refine cellsOf_congr (fun j _ => ?_)
  by_cases hj : j < m
  · rw [if_pos (by simp [cellsOf]; omega), if_pos hj]
    simp [cellsOf, hj]
  · rw [if_neg (by simp [cellsOf]; omega), if_neg hj]

/-- A server's cells. -/
def gC (mv : Value) (ps : Nat → Bool) (g : M.PGame) (j : Nat) : Value := if j < 65 then mapC mv ps j else if j = 65 then .int .i64 g.tick else pseatC (g.seat ((j - 66) / 119)) ((j - 66) % 119)
theorem gC_one (x : Option Addr) (n cap : Nat) (ps : Nat → Bool) (g : M.PGame) : ∀ i, i < 1018 → (gC (.slice x n cap) ps g i).oneCell' = true := fun i _ => by
  unfold gC
  by_cases h : i < 65
  · rw [if_pos h]; exact mapC_one _ _ _ _ i h
  · rw [if_neg h]; exact ite_one rfl (pseatC_one _ _)
theorem zeroGame : Try.zeroCells87 = cellsOf 1018 (gC (.slice none 0 0) M.noPairs M.PGame.fresh) := by kernel_rfl
theorem zeroServer : Try.zeroCells90 = cellsOf 1018 (gC (.slice none 0 0) M.noPairs M.PGame.fresh) := by kernel_rfl

/-- The cells of a new game. -/
theorem game_cells {cs : Array Value} {v : Value} {ps : Nat → Bool} (h : MapIs cs v ps) : Array.foldl (fun cs x => cs.setIfInBounds x.snd x.fst) Try.zeroCells87 cs.zipIdx 0 65 = cellsOf 1018 (gC v ps M.PGame.fresh) := by
  rw [h.is, zeroGame, fold_cells]
  refine cellsOf_congr (fun j _ => ?_)
  unfold gC
  by_cases e : j < 65
  · rw [if_pos e, if_pos e]
  · rw [if_neg e, if_neg e, if_neg e]
theorem server_cells (c : Nat → Value) : Array.foldl (fun cs x => cs.setIfInBounds x.snd x.fst) Try.zeroCells90 (cellsOf 1018 c).zipIdx 0 1018 = cellsOf 1018 c := by
  rw [zeroServer, fold_cells]
  exact cellsOf_congr (fun j hj => by rw [if_pos hj])

set_option maxRecDepth 100000 in
set_option maxHeartbeats 2000000 in
theorem pNew_any (cs : Array Value) (x : Option Addr) (n cap : Nat) (ps : Nat → Bool) (hcs : MapIs cs (.slice x n cap) ps) (h65 : cs.size = 65) (w : World) :
    Calls Try.prog 28 #[.agg cs] w fun e w' => e = .returned (.agg (cellsOf 1018 (gC (.slice x n cap) ps M.PGame.fresh))) ∧ Below w.heap.size w w' := by
  have q0 : Blk ((w.alloc (.cells cs 70)).alloc (.cells Try.zeroCells87 87)) w.heap.size cs 70 := (Blk.new rfl).alloc
  have ld := big_blk (P := Try.prog) q0 h65
  clear q0
  have hgc := hid (game_cells hcs)
  have hsz : (Array.foldl (fun cs x => cs.setIfInBounds x.snd x.fst) Try.zeroCells87 cs.zipIdx 0 65).size = 1018 := by rw [game_cells hcs]; exact cellsOf_size _ _
  obtain ⟨W2, hst, q2, ho⟩ := store_new (P := Try.prog) (show Blk ((w.alloc (.cells cs 70)).alloc (.cells Try.zeroCells87 87)) (w.heap.size + 1) Try.zeroCells87 87 from Blk.new (by simp)) (Array.foldl (fun cs x => cs.setIfInBounds x.snd x.fst) Try.zeroCells87 cs.zipIdx 0 65).toList (by rw [Array.length_toList, hsz, Try.zeroCells87_size]) (by rw [game_cells hcs]; exact cellsOf_one (gC_one _ _ _ _ _))
  have B2 : Below w.heap.size w W2 := On.toBelow (by go_grown) (by simp; omega) ho (by omega)
  have HQ : Hid (Blk W2 (w.heap.size + 1) (cellsOf 1018 (gC (.slice x n cap) ps M.PGame.fresh)) 87) := by
    unfold Hid; rw [game_cells hcs] at q2; simpa using q2
  clear q2 ho hcs
  go_enter Try.func28, Try.ntmps28
  go_wp2
  exact bodyPost_ret (v := .agg (cellsOf 1018 (gC (.slice x n cap) ps M.PGame.fresh))) (results_cell_row Try.results28 _ _ _ _ _ _ _ rfl HQ.out.at_ Try.underlying87 rfl (by rw [cellsOf_size]; kernel_rfl)) rfl ⟨rfl, B2⟩

/-- What New gives back: nil and an error, or a server at b. -/
def NewPost (s : ByteArray) (w : World) (r : Ending) (w' : World) : Prop := Below w.heap.size w w' ∧
  (((M.errS s).1 ≠ 0 ∧ r = .returned (.tuple #[.pointer none, .int .i64 (M.errS s).1])) ∨
   ((M.errS s).1 = 0 ∧ ∃ (b : Nat) (x : Option Addr) (n cap : Nat), r = .returned (.tuple #[.pointer (some ⟨b, 0, none⟩), .int .i64 0]) ∧ w.heap.size ≤ b ∧ Pg w' b (.slice x n cap) (M.prs s) M.PGame.fresh ∧
      w'.ownsRow 0 154 7 (.slice x n cap) (M.top s).2.leaves.length (flat (M.top s).2.leaves) ∧ (∀ k, (Value.slice x n cap).ownBlock = some k → k ≠ b ∧ w.heap.size ≤ k)))

/-- A whole block is a server's. -/
theorem Pg.ofBlk {W : World} {b : Nat} {mv : Value} {ps : Nat → Bool} {g : M.PGame} {t : TypeId} (q : Blk W b (cellsOf 1018 (gC mv ps g)) t) : Pg W b mv ps g := by
  refine ⟨fun j hj => ?_, ?_, fun i k hi hk => ?_, q.frozen, q.lt⟩
  · rw [Nat.zero_add, q.cellC j (by omega)]; unfold gC; rw [if_pos hj]
  · rw [q.cellC 65 (by omega)]; rfl
  · rw [q.cellC _ (by omega)]; unfold gC
    rw [if_neg (by omega), if_neg (by omega), show 66 + i * 119 + k - 66 = k + 119 * i by omega, Nat.add_mul_div_left _ _ (by omega), Nat.add_mul_mod_self_left, Nat.div_eq_of_lt hk, Nat.mod_eq_of_lt hk, Nat.zero_add]

set_option maxRecDepth 100000 in
set_option maxHeartbeats 2000000 in
theorem new_any (s : ByteArray) (w : World) (hm : s.size ≤ maxLen) : Calls Try.prog 8 #[.string s] w (NewPost s w) := by
  go_enter Try.func8, Try.ntmps8
  go_wp2_with fail
  refine (read_any s _ hm).mono ?_
  rintro rr w1 ⟨e, k, cs, rfl, hsz, hE, hO, hb⟩
  have E : Hid (M.errS s = (e, k)) := hE
  obtain ⟨v1, hst, qm, hbv, hlv⟩ := keep_map w1 cs hsz
  have hs65 := hsz.1
  have ld := big_blk (P := Try.prog) qm hs65
  have B1v : Below w.heap.size w v1 := bl hb hbv
  clear hE hsz qm
  by_cases he : e = 0
  · subst he
    obtain ⟨x, n, cap, hcs, hown1⟩ := hO rfl
    have hown := own_base (base' := 0) hown1 (fun _ _ => Nat.zero_le _)
    have hgeq := hid (fun g (hg : (Value.slice x n cap).ownBlock = some g) => own_from hown1 hg)
    clear hown1
    have HO : Hid (v1.ownsRow 0 154 7 (.slice x n cap) (M.top s).2.leaves.length (flat (M.top s).2.leaves)) := own_of hown (fun g hg => hbv.block g (own_lt hown hg))
    have HCS := hid hcs
    clear hO hown hcs hb hbv hlv
    go_wp2_with fail
    refine (pNew_any cs x n cap (M.prs s) HCS.out hs65 _).mono ?_
    rintro rr w2 ⟨rfl, hb⟩
    have O2 : Hid (w2.ownsRow 0 154 7 (.slice x n cap) (M.top s).2.leaves.length (flat (M.top s).2.leaves)) := own_of HO.out (fun g hg => hb.block g (own_lt HO.out hg))
    have B2 : Below w.heap.size w w2 := bl B1v hb
    clear hb B1v hst ld HO
    have hsv := server_cells (gC (.slice x n cap) (M.prs s) M.PGame.fresh)
    have hsz := cellsOf_size 1018 (gC (.slice x n cap) (M.prs s) M.PGame.fresh)
    have h1 := hid (cellsOf_one (gC_one x n cap (M.prs s) M.PGame.fresh))
    have hpg := hid (fun (W : World) (b : Nat) (t : TypeId) (q : Blk W b (cellsOf 1018 (gC (.slice x n cap) (M.prs s) M.PGame.fresh)) t) => Pg.ofBlk q)
    generalize cellsOf 1018 (gC (.slice x n cap) (M.prs s) M.PGame.fresh) = gcs at *
    go_wp2
    go_ret2
    refine ⟨by have := B2.size; go_grown, .inr ⟨by rw [E.out], w2.heap.size, x, n, cap, rfl, B2.size, hpg.out _ _ _ (Blk.new rfl), own_of O2.out (fun g hg => by rw [Below.heap_alloc _ _ _ (own_lt O2.out hg)]), fun g hg => ⟨?_, ?_⟩⟩⟩
    · have := own_lt O2.out hg
      omega
    · exact hgeq.out g hg
  · have t : (e != 0) = true := by rw [bne_iff_ne]; exact he
    have HE : Hid (e ≠ 0) := he
    clear he hO ld
    go_wp2
    go_ret2
    exact ⟨B1v, .inl ⟨by rw [E.out]; exact HE.out, by rw [E.out]; rfl⟩⟩

end Go.Proofs.Ytonmihojfcjmjab
