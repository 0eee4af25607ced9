import Derived.Test.YtonmihojfcjmjabRd2
import Derived.Deep.DrawnRows
import Derived.Deep.RegionLaw
/- Contracts: readTree, readPlane. -/
namespace Go.Proofs.Ytonmihojfcjmjab
open Go.RowKit
variable {ps : Nat → Bool}
attribute [local go_sem] cell_set_off cell_set_blk
attribute [local go_sem ↓] Go.wp_at_zero Go.wp_at_succ

/-- What a call that reads a tree leaves. -/
def TreePost (ps : Nat → Bool) (R : Nat) (s : ByteArray) (p : Bool × M.St) (v : Value) (w : World) (r : Ending) (w' : World) : Prop := ∃ v', r = .returned (.bool p.1) ∧ Rd ps w' R s p.2 v' ∧ Fr R v w w' v'
theorem TreePost.mk {R : Nat} {s : ByteArray} {p : Bool × M.St} {b : Bool} {st' : M.St} {v v' : Value} {w w' : World} (e : p = (b, st')) (h : Rd ps w' R s st' v') (f : Fr R v w w' v') : TreePost ps R s p v w (.returned (.bool b)) w' := by
  subst e; exact ⟨v', rfl, h, f⟩

theorem leafB_end : M.leafB (-1) = false := rfl
theorem planeB_end : M.planeB (-1) = false := rfl
theorem infoLeaf : (Try.prog.info? 154).map (fun i => (i.zero, i.size, i.bytes)) = some (some (.agg #[.int .i64 0, .int .i64 0, .int .i64 0, .int .i64 0, .int .i64 0, .int .i64 0, .int .i64 0]), 7, 56) := by kernel_rfl

theorem flat_snoc (ls : List M.Lf) (l : M.Lf) : flat (ls ++ [l]) = flat ls ++ leafCells l := by simp [flat]

theorem Fr.grown {R n cap g : Nat} {v : Value} {w W W0 W1 : World} (h : Fr R v w W v) (hb : Below W.heap.size W W0) (hg : W0.grownBy W1 v.ownBlock) (hat : v.ownBlock = some g ∨ W.heap.size ≤ g) :
    Fr R v w W1 (.slice (some ⟨g, 0, none⟩) n cap) := by
  refine h.trans ⟨hg.os.trans hb.os, hg.tape.trans hb.tape, hg.output.trans hb.output, Nat.le_trans hb.size hg.size, fun k hk _ hv => ?_, ?_⟩
  · rw [hg.block k (Nat.lt_of_lt_of_le hk hb.size) hv, hb.block k hk]
  · rcases hat with e | e
    · exact .inl (by rw [e]; rfl)
    · exact .inr ⟨g, rfl, e⟩

theorem cellFar {W W0 W1 : World} {row : Option Nat} {b : Nat} (hg : W0.grownBy W1 row) (hb : Below W.heap.size W W0) (hlt : b < W.heap.size) (hne : some b ≠ row) :
    (∀ i, W1.cell? ⟨b, i, none⟩ = W.cell? ⟨b, i, none⟩) ∧ (∀ i, W1.frozen? ⟨b, i, none⟩ = W.frozen? ⟨b, i, none⟩) := by
  have e : W1.heap[b]? = W.heap[b]? := by rw [hg.block b (Nat.lt_of_lt_of_le hlt hb.size) hne, hb.block b hlt]
  exact ⟨fun i => World.cell?_of_block (a := ⟨b, i, none⟩) e, fun i => World.frozen?_of_block (a := ⟨b, i, none⟩) e⟩

/-- A leaf has been appended, and the new slice stored into the reader. -/
theorem Rd.leaf {R cap g : Nat} {s : ByteArray} {st : M.St} {v : Value} {W W0 W1 : World} {lo hi : M.V3} {c : Int} (h : Rd ps W R s (st.goto (st.place + 1)) v) (hb : Below W.heap.size W W0) (hg : W0.grownBy W1 v.ownBlock) (hat : v.ownBlock = some g ∨ W.heap.size ≤ g)
    (hown : W1.ownsRow 0 154 7 (.slice (some ⟨g, 0, none⟩) (st.leaves.length + 1) cap) (st.leaves.length + 1) (flat st.leaves ++ leafCells ⟨lo, hi, M.zoneV c⟩)) :
    Rd ps (W1.setCell ⟨R, 4, none⟩ (.slice (some ⟨g, 0, none⟩) (st.leaves.length + 1) cap)) R s (st.leaf lo hi c) (.slice (some ⟨g, 0, none⟩) (st.leaves.length + 1) cap) := by
  have hR := h.blk.lt
  have hne : g ≠ R := by
    rcases hat with e | e
    · intro x; exact h.ne (by rw [e, x])
    · omega
  have hblk : Blk W1 R (cellsOf 69 (rdC s (st.goto (st.place + 1)) v ps)) 101 :=
    ⟨by rw [hg.block R (Nat.lt_of_lt_of_le hR hb.size) (fun e => h.ne e.symm), hb.block R hR]; exact h.blk.at_⟩
  refine ⟨(hblk.setC 4 _).to (fun j _ => by match j with | 0 => rfl | 1 => rfl | 2 => rfl | 3 => rfl | 4 => rfl | j + 5 => simp [rdC]), ?_, fun e => hne (by simpa [Value.ownBlock] using e)⟩
  have e1 : (st.leaf lo hi c).leaves = st.leaves ++ [⟨lo, hi, M.zoneV c⟩] := rfl
  rw [e1, flat_snoc, List.length_append]
  exact own_of hown (fun k hk => Below.heap_setCell _ _ _ _ (fun e => hne ((show g = k from by simpa [Value.ownBlock] using hk).trans e)))

set_option maxHeartbeats 2000000 in
theorem readTree_end (R : Nat) (s : ByteArray) (st : M.St) (v : Value) (lo hi : M.V3) (r : Nat) (a : Int) (w : World) (h : Rd ps w R s st v) (hp : s.size ≤ st.place) (_hp2 : st.place ≤ 512) :
    Calls Try.prog 57 #[.pointer (some ⟨R, 0, none⟩), .agg #[.int .i64 lo.x, .int .i64 lo.y, .int .i64 lo.z, .int .i64 hi.x, .int .i64 hi.y, .int .i64 hi.z], .int .i64 a] w (TreePost ps R s (M.tree s r lo hi st) v w) := by
  have e : M.tree s r lo hi st = (false, st) := M.tree_none (by rw [M.byteAt_ge hp]; rfl) (by rw [M.byteAt_ge hp]; rfl)
  have E : Hid (M.tree s r lo hi st = (false, st)) := e
  clear e
  have H := h
  obtain ⟨k0, k1, k2, k3, k4, kf, kl⟩ := h.blk.five
  clear h
  go_enter Try.func57, Try.ntmps57
  go_wp2
  go_quiet (fail)
  go_wp2
  go_ret
  exact .mk E.out H.alloc.drewN ((Fr.refl _ _ _).alloc _).drewN

set_option maxHeartbeats 2000000 in
theorem readTree_solid (R : Nat) (s : ByteArray) (st : M.St) (v : Value) (lo hi : M.V3) (r : Nat) (a : Int) (w : World) (h : Rd ps w R s st v) (hp : st.place < s.size) (hp2 : s.size ≤ 512) (hlv : st.leaves.length ≤ st.place) (hc : M.byteAt s st.place = 35) :
    Calls Try.prog 57 #[.pointer (some ⟨R, 0, none⟩), .agg #[.int .i64 lo.x, .int .i64 lo.y, .int .i64 lo.z, .int .i64 hi.x, .int .i64 hi.y, .int .i64 hi.z], .int .i64 a] w (TreePost ps R s (M.tree s r lo hi st) v w) := by
  have e : M.tree s r lo hi st = (true, st.leaf lo hi 35) := by rw [M.tree_leaf (by rw [hc]; rfl), hc]
  have E : Hid (M.tree s r lo hi st = (true, st.leaf lo hi 35)) := e
  clear e
  rw [M.byteAt_lt hp] at hc
  have HC : Hid ((s[st.place].toNat : Int) = 35) := hc
  clear hc
  have H := h
  obtain ⟨k0, k1, k2, k3, k4, kf, kl⟩ := h.blk.five
  clear h
  have hvb : some w.heap.size ≠ v.ownBlock := fun e => Nat.lt_irrefl _ (own_lt H.own e.symm)
  have hvR : some R ≠ v.ownBlock := fun e => H.ne e.symm
  have hR0 : R ≠ w.heap.size := by omega
  go_enter Try.func57, Try.ntmps57
  go_wp2
  go_quiet (fail)
  have H1 := (H.alloc (o := (.cells #[.int .i64 lo.x, .int .i64 lo.y, .int .i64 lo.z, .int .i64 hi.x, .int .i64 hi.y, .int .i64 hi.z] 124))).drewN (n := nq)
  have F1 := ((Fr.refl R v w).alloc (.cells #[.int .i64 lo.x, .int .i64 lo.y, .int .i64 lo.z, .int .i64 hi.x, .int .i64 hi.y, .int .i64 hi.z] 124)).drewN (n := nq)
  have q1 : Blk ((w.alloc (.cells #[.int .i64 lo.x, .int .i64 lo.y, .int .i64 lo.z, .int .i64 hi.x, .int .i64 hi.y, .int .i64 hi.z] 124)).drewN nq) w.heap.size _ _ := Blk.drewN (Blk.new rfl)
  generalize (w.alloc (.cells #[.int .i64 lo.x, .int .i64 lo.y, .int .i64 lo.z, .int .i64 hi.x, .int .i64 hi.y, .int .i64 hi.z] 124)).drewN nq = w2 at H1 F1 q1 ⊢
  clear H k0 k1 k2 k3 k4 kf kl
  obtain ⟨k0, k1, k2, k3, k4, kf, kl⟩ := H1.blk.five
  obtain ⟨a0, a1, a2, a3, a4, a5, af, al⟩ := q1.six
  go_wp2
  go_quiet (fail)
  rw [HC.out]
  go_wp2
  clear a0 a1 a2 a3 a4 a5 af al
  have hlen : st.leaves.length + 1 ≤ 513 := by omega
  have F2 : Fr R v w ((w2.drewN nq).setCell ⟨R, 1, none⟩ (.int .i64 (st.place + 1))) v := F1.drewN.setR _
  have H2 : Rd ps ((w2.drewN nq).setCell ⟨R, 1, none⟩ (.int .i64 (st.place + 1))) R s (st.goto (st.place + 1)) v := by exact H1.drewN.goto (st.place + 1)
  have q2 : Blk ((w2.drewN nq).setCell ⟨R, 1, none⟩ (.int .i64 (st.place + 1))) w.heap.size #[.int .i64 lo.x, .int .i64 lo.y, .int .i64 lo.z, .int .i64 hi.x, .int .i64 hi.y, .int .i64 hi.z] 124 := q1.drewN.other _ _ (by omega)
  generalize ((w2.drewN nq).setCell ⟨R, 1, none⟩ (.int .i64 (st.place + 1))) = W at F2 H2 q2 ⊢
  clear H1 F1 q1 k0 k1 k2 k3 k4 kf kl
  obtain ⟨_, _, _, _, k4, kf, kl⟩ := H2.blk.five
  obtain ⟨a0, a1, a2, a3, a4, a5, af, al⟩ := q2.six
  obtain ⟨i0, hi0, hz0, hz1, hz2⟩ := info_parts infoLeaf
  go_region_law
    ((refine step_append_lies _ (by rfl) _ _ _ (by rfl) 0 154 i0 _ 7 56 Try.underlying67 hi0 hz0 hz1 hz2 rfl (by omega) v st.leaves.length (flat st.leaves) (by rfl) (by first | exact H2.alloc.drew.own | exact H2.drew.alloc.own)
        ⟨W.heap.size, 0, none⟩ 1 1 (leafCells ⟨lo, hi, -1⟩) (by rfl) (by rfl) (World.news_of_block (cs := #[.int .i64 lo.x, .int .i64 lo.y, .int .i64 lo.z, .int .i64 hi.x, .int .i64 hi.y, .int .i64 hi.z, .int .i64 (-1)]) (t := 154) (fr := (0, 0)) (heap_alloc_new W _)) (by simp [leafCells, Value.oneCell'])
        (by omega) (by unfold maxLen; omega) (by omega) (by simp) (W.heap.size + 1) (by simp) ?_; intro g cap w1 hown1 hgrow hat hlt
      obtain ⟨cR, fR⟩ := cellFar hgrow (by go_grown) kl hvR
      obtain ⟨cB, _⟩ := cellFar hgrow (by go_grown) al hvb
      have c4 := (cR 4).trans k4
      have f4 := fun i => (fR i).trans (kf i)
      have b0 := (cB 0).trans a0
      have b1 := (cB 1).trans a1
      have b2 := (cB 2).trans a2
      have b3 := (cB 3).trans a3
      have b4 := (cB 4).trans a4
      have b5 := (cB 5).trans a5
      clear cR cB fR))
  all_goals
    go_wp2
    go_ret
    have hat2 : v.ownBlock = some g ∨ W.heap.size ≤ g := by rcases hat with e | e; exact .inl e; exact .inr (by omega)
    exact .mk E.out (H2.leaf (by go_grown) hgrow hat2 hown1) ((F2.grown (by go_grown) hgrow hat2).setR _)

end Go.Proofs.Ytonmihojfcjmjab
