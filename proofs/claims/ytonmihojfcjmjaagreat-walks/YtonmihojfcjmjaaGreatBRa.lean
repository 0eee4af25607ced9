import Derived.Test.YtonmihojfcjmjaaGreatRows
import Derived.Test.YtonmihojfcjmjaaGreatBM
import Derived.Test.YtonmihojfcjmjaaGreatBK
import Derived.Handy
import Derived.WalkKit
import Derived.WalkSpells
import Derived.WalkSmall
import Derived.Deep.QuietTactic
import Derived.Deep.RegionHeld3
import Derived.Deep.AppendLies
import Derived.BigQuiet
import Derived.Deep.RegionWith
import Derived.Deep.DrawnRows
import Derived.Deep.RegionLaw
/- The reader's memory, and contracts of its small functions. -/
namespace Go.Proofs.YtonmihojfcjmjaaGreat
open Go.RowKit
attribute [local go_sem] cell_set_off cell_set_blk

def leafCells (l : M.Lf) : List Value := [.int .i64 l.lo.x, .int .i64 l.lo.y, .int .i64 l.lo.z, .int .i64 l.hi.x, .int .i64 l.hi.y, .int .i64 l.hi.z, .int .i64 l.zone]
def flat (ls : List M.Lf) : List Value := ls.flatMap leafCells

/-- The reader's cells: what it knows of the text; behind it the map, its leaves and its pairs. -/
def rdC (s : ByteArray) (st : M.St) (v : Value) (ps : Nat → Bool) : Nat → Value
  | 0 => .string s
  | 1 => .int .i64 st.place
  | 2 => .int .i64 st.planes
  | 3 => .int .i64 st.wrong
  | 4 => v
  | i + 5 => .bool (ps i)

/-- The reader lies in block R, its leaves in the slice v, its pairs are ps. -/
structure Rd (ps : Nat → Bool) (W : World) (R : Nat) (s : ByteArray) (st : M.St) (v : Value) : Prop where
  blk : Blk W R (cellsOf 69 (rdC s st v ps)) 89
  own : W.ownsRow 0 137 7 v st.leaves.length (flat st.leaves)
  ne : v.ownBlock ≠ some R

variable {ps : Nat → Bool}

/-- Of what was there nothing has turned but the reader and its leaves' row. -/
structure Fr (R : Nat) (v : Value) (W W' : World) (v' : Value) : Prop where
  os : W'.os = W.os
  tape : W'.tape = W.tape
  output : W'.output = W.output
  size : W.heap.size ≤ W'.heap.size
  block : ∀ k, k < W.heap.size → k ≠ R → some k ≠ v.ownBlock → W'.heap[k]? = W.heap[k]?
  row : v'.ownBlock = v.ownBlock ∨ ∃ g, v'.ownBlock = some g ∧ W.heap.size ≤ g

theorem Fr.refl (R : Nat) (v : Value) (W : World) : Fr R v W W v := ⟨rfl, rfl, rfl, Nat.le_refl _, fun _ _ _ _ => rfl, .inl rfl⟩
theorem Fr.trans {R : Nat} {v v1 v2 : Value} {W W1 W2 : World} (h : Fr R v W W1 v1) (g : Fr R v1 W1 W2 v2) : Fr R v W W2 v2 := by
  refine ⟨g.os.trans h.os, g.tape.trans h.tape, g.output.trans h.output, Nat.le_trans h.size g.size, fun k hk hR hv => ?_, ?_⟩
  · rw [g.block k (Nat.lt_of_lt_of_le hk h.size) hR ?_, h.block k hk hR hv]
    rcases h.row with e | ⟨x, e, hx⟩
    · rw [e]; exact hv
    · rw [e]; intro e2; have := Option.some.inj e2; omega
  · rcases g.row with e | ⟨x, e, hx⟩
    · rw [e]; exact h.row
    · exact .inr ⟨x, e, Nat.le_trans h.size hx⟩
theorem Fr.below {R : Nat} {v v1 : Value} {W W1 W2 : World} (h : Fr R v W W1 v1) (hb : Below W1.heap.size W1 W2) : Fr R v W W2 v1 :=
  h.trans ⟨hb.os, hb.tape, hb.output, hb.size, fun k hk _ _ => hb.block k hk, .inl rfl⟩
theorem Fr.alloc {R : Nat} {v v1 : Value} {W W1 : World} (h : Fr R v W W1 v1) (o : Obj) : Fr R v W (W1.alloc o) v1 := h.below ((Below.refl _ _).alloc (Nat.le_refl _) _)
theorem Fr.drewN {R n : Nat} {v v1 : Value} {W W1 : World} (h : Fr R v W W1 v1) : Fr R v W (W1.drewN n) v1 := h.below (below_drewN (Below.refl _ _) _)
theorem Fr.drew {R : Nat} {v v1 : Value} {W W1 : World} (h : Fr R v W W1 v1) : Fr R v W W1.drew v1 := h.below (Below.refl _ _).drew
theorem Fr.setR {R i : Nat} {v v1 : Value} {W W1 : World} (h : Fr R v W W1 v1) (x : Value) : Fr R v W (W1.setCell ⟨R, i, none⟩ x) v1 :=
  h.trans ⟨rfl, rfl, rfl, by simp, fun k _ hk _ => Below.heap_setCell _ _ _ _ hk, .inl rfl⟩
theorem Blk.fr {R b : Nat} {v v' : Value} {W W' : World} {cs : Array Value} {t : TypeId} (h : Blk W b cs t) (hf : Fr R v W W' v') (h1 : b ≠ R) (h2 : some b ≠ v.ownBlock) : Blk W' b cs t :=
  ⟨by rw [hf.block b h.lt h1 h2]; exact h.at_⟩

theorem own_lt {W : World} {base e size n : Nat} {v : Value} {xs : List Value} (h : W.ownsRow base e size v n xs) {g : Nat} (hg : v.ownBlock = some g) : g < W.heap.size := by
  rcases h.2 with ⟨rfl, _⟩ | ⟨g', cap, cur, rfl, _, hh, _⟩
  · cases hg
  · have : g' = g := by simpa [Value.ownBlock] using hg
    subst this
    exact (Array.getElem?_eq_some_iff.1 hh).1
theorem own_base {W : World} {base base' e size n : Nat} {v : Value} {xs : List Value} (h : W.ownsRow base e size v n xs) (hg : ∀ g, v.ownBlock = some g → base' ≤ g) : W.ownsRow base' e size v n xs := by
  obtain ⟨h1, h2⟩ := h
  refine ⟨h1, ?_⟩
  rcases h2 with h | ⟨g, cap, cur, rfl, _, h3⟩
  · exact .inl h
  · exact .inr ⟨g, cap, cur, rfl, hg g rfl, h3⟩
theorem own_from {W : World} {base e size n : Nat} {v : Value} {xs : List Value} (h : W.ownsRow base e size v n xs) {g : Nat} (hg : v.ownBlock = some g) : base ≤ g := by
  rcases h.2 with ⟨rfl, _⟩ | ⟨k, cap, cur, rfl, hb, _⟩
  · cases hg
  · cases hg; exact hb
theorem own_of {W W' : World} {base e size n : Nat} {v : Value} {xs : List Value} (h : W.ownsRow base e size v n xs) (hh : ∀ g, v.ownBlock = some g → W'.heap[g]? = W.heap[g]?) : W'.ownsRow base e size v n xs := by
  refine ⟨h.1, ?_⟩
  rcases h.2 with x | ⟨g, cap, cur, rfl, h1, h2, h3⟩
  · exact .inl x
  · exact .inr ⟨g, cap, cur, rfl, h1, by rw [hh g rfl]; exact h2, h3⟩

theorem Rd.below {W W' : World} {R : Nat} {s : ByteArray} {st : M.St} {v : Value} (h : Rd ps W R s st v) (hb : Below W.heap.size W W') : Rd ps W' R s st v :=
  ⟨h.blk.after hb, own_of h.own (fun g hg => hb.block g (own_lt h.own hg)), h.ne⟩
theorem Rd.alloc {W : World} {R : Nat} {s : ByteArray} {st : M.St} {v : Value} {o : Obj} (h : Rd ps W R s st v) : Rd ps (W.alloc o) R s st v := h.below ((Below.refl _ _).alloc (Nat.le_refl _) _)
theorem Rd.drewN {W : World} {R n : Nat} {s : ByteArray} {st : M.St} {v : Value} (h : Rd ps W R s st v) : Rd ps (W.drewN n) R s st v := h.below (below_drewN (Below.refl _ _) _)
theorem Rd.drew {W : World} {R : Nat} {s : ByteArray} {st : M.St} {v : Value} (h : Rd ps W R s st v) : Rd ps W.drew R s st v := h.below (Below.refl _ _).drew
theorem Rd.goto {W : World} {R : Nat} {s : ByteArray} {st : M.St} {v : Value} (h : Rd ps W R s st v) (i : Nat) : Rd ps (W.setCell ⟨R, 1, none⟩ (.int .i64 i)) R s (st.goto i) v :=
  ⟨(h.blk.setC 1 _).to (fun j _ => by match j with | 0 => rfl | 1 => rfl | 2 => rfl | 3 => rfl | 4 => rfl | j + 5 => simp [rdC]), own_of h.own (fun g hg => Below.heap_setCell _ _ _ _ (fun e => h.ne (by rw [hg, e]))), h.ne⟩
/-- Other fields stored. -/
theorem Rd.set {W : World} {R : Nat} {s : ByteArray} {st : M.St} {v : Value} (h : Rd ps W R s st v) (a b : Nat) (c : Int) (W' : World) (hW : Blk W' R (cellsOf 69 (rdC s ⟨a, b, c, st.leaves⟩ v ps)) 89)
    (hh : ∀ k, k ≠ R → W'.heap[k]? = W.heap[k]?) : Rd ps W' R s ⟨a, b, c, st.leaves⟩ v :=
  ⟨hW, own_of h.own (fun g hg => hh g (fun e => h.ne (by rw [hg, e]))), h.ne⟩

theorem Blk.five {W : World} {b : Nat} {s : ByteArray} {st : M.St} {v : Value} {t : TypeId} (h : Blk W b (cellsOf 69 (rdC s st v ps)) t) :
    W.cell? ⟨b, 0, none⟩ = some (.string s) ∧ W.cell? ⟨b, 1, none⟩ = some (.int .i64 st.place) ∧ W.cell? ⟨b, 2, none⟩ = some (.int .i64 st.planes) ∧ W.cell? ⟨b, 3, none⟩ = some (.int .i64 st.wrong) ∧ W.cell? ⟨b, 4, none⟩ = some v ∧ (∀ i, W.frozen? ⟨b, i, none⟩ = false) ∧ b < W.heap.size :=
  ⟨h.cellC 0 (by omega), h.cellC 1 (by omega), h.cellC 2 (by omega), h.cellC 3 (by omega), h.cellC 4 (by omega), h.frozen, h.lt⟩

set_option maxHeartbeats 400000 in
theorem digitValue_any (c : Int) (w : World) (h0 : 0 ≤ c) (h1 : c ≤ 255) :
    Calls Tryz.prog 91 #[.int .u8 c] w fun e w' => e = .returned (.tuple #[.int .i64 (if M.hexV c < 0 then 0 else M.hexV c), .bool (decide (0 ≤ M.hexV c))]) ∧ w' = w := by
  by_cases a1 : 48 ≤ c
  · by_cases a2 : c ≤ 57
    · have e : M.hexV c = c - 48 := by unfold M.hexV; rw [if_pos ⟨a1, a2⟩]
      have e2 : (if M.hexV c < 0 then (0 : Int) else M.hexV c) = c - 48 := by rw [e]; split <;> omega
      have e3 : decide (0 ≤ M.hexV c) = true := by rw [e]; simp; omega
      rw [e2, e3]
      clear e e2 e3
      go_enter Tryz.func91, Tryz.ntmps91
      go_wp2
      go_ret2
      exact ⟨rfl, rfl⟩
    · by_cases a3 : 97 ≤ c ∧ c ≤ 102
      · obtain ⟨a3, a4⟩ := a3
        have e : M.hexV c = c - 97 + 10 := by unfold M.hexV; rw [if_neg (by omega), if_pos ⟨a3, a4⟩]
        have e2 : (if M.hexV c < 0 then (0 : Int) else M.hexV c) = c - 97 + 10 := by rw [e]; split <;> omega
        have e3 : decide (0 ≤ M.hexV c) = true := by rw [e]; simp; omega
        rw [e2, e3]
        clear e e2 e3
        go_enter Tryz.func91, Tryz.ntmps91
        go_wp2
        go_ret2
        exact ⟨rfl, rfl⟩
      · have e : M.hexV c = -1 := by unfold M.hexV; rw [if_neg (by omega), if_neg a3]
        have e2 : (if M.hexV c < 0 then (0 : Int) else M.hexV c) = 0 := by rw [e]; split <;> omega
        have e3 : decide (0 ≤ M.hexV c) = false := by rw [e]; simp
        rw [e2, e3]
        clear e e2 e3
        by_cases a4 : 97 ≤ c
        · have a5 : ¬ c ≤ 102 := by omega
          go_enter Tryz.func91, Tryz.ntmps91
          go_wp2
          go_ret2
          exact ⟨rfl, rfl⟩
        · go_enter Tryz.func91, Tryz.ntmps91
          go_wp2
          go_ret2
          exact ⟨rfl, rfl⟩
  · have e : M.hexV c = -1 := by unfold M.hexV; rw [if_neg (by omega), if_neg (by omega)]
    have e2 : (if M.hexV c < 0 then (0 : Int) else M.hexV c) = 0 := by rw [e]; split <;> omega
    have e3 : decide (0 ≤ M.hexV c) = false := by rw [e]; simp
    rw [e2, e3]
    clear e e2 e3
    go_enter Tryz.func91, Tryz.ntmps91
    go_wp2
    go_ret2
    exact ⟨rfl, rfl⟩

theorem digitValue_ok (c d : Int) (w : World) (h0 : 0 ≤ c) (h1 : c ≤ 255) (hd : Hid (M.hexV c = d)) (hd0 : 0 ≤ d) :
    Calls Tryz.prog 91 #[.int .u8 c] w fun e w' => e = .returned (.tuple #[.int .i64 d, .bool true]) ∧ w' = w := by
  have h := digitValue_any c w h0 h1
  rw [hd.out, if_neg (by omega), decide_eq_true hd0] at h
  exact h
theorem digitValue_no (c : Int) (w : World) (h0 : 0 ≤ c) (h1 : c ≤ 255) (hd : Hid (M.hexV c < 0)) :
    Calls Tryz.prog 91 #[.int .u8 c] w fun e w' => e = .returned (.tuple #[.int .i64 0, .bool false]) ∧ w' = w := by
  have h := digitValue_any c w h0 h1
  have hd' := hd.out
  rw [if_pos hd', decide_eq_false (by omega)] at h
  exact h

set_option maxHeartbeats 1000000 in
theorem readDigit_ok (R : Nat) (s : ByteArray) (st : M.St) (v : Value) (base : Int) (w : World) (h : Rd ps w R s st v) (hs : s.size ≤ 512) (d : Int) (hd : Hid (M.hexV (M.byteAt s st.place) = d)) (ok1 : 0 ≤ d) (ok2 : d < base) :
    Calls Tryz.prog 70 #[.pointer (some ⟨R, 0, none⟩), .int .i64 base] w fun e w' => e = .returned (.tuple #[.int .i64 d, .bool true]) ∧ Rd ps w' R s (st.goto (st.place + 1)) v ∧ Fr R v w w' v := by
  have hlt := M.hexV_in (s := s) (i := st.place) (by rw [hd.out]; exact ok1)
  have e := M.byteAt_lt hlt
  have hd2 : Hid (M.hexV ((s[st.place].toNat : Nat) : Int) = d) := by unfold Hid; rw [← e]; exact hd
  have hc := (s[st.place]).toNat_lt
  clear e hd
  obtain ⟨k0, k1, k2, k3, k4, kf, kl⟩ := h.blk.five
  have H := h
  clear h
  go_enter Tryz.func70, Tryz.ntmps70
  go_wp2
  go_quiet (fail)
  have H2 := H.drewN (n := nq)
  have F2 := (Fr.refl R v w).drewN (n := nq)
  generalize w.drewN nq = w2 at H2 F2 ⊢
  clear H k0 k1 k2 k3 k4 kf kl
  obtain ⟨k0, k1, k2, k3, k4, kf, kl⟩ := H2.blk.five
  go_wp2
  go_quiet ((go_at_call 91; exact Calls.quiet_of_same (digitValue_ok _ d _ (by omega) (by omega) hd2 ok1)))
  go_wp2
  go_ret2
  refine ⟨rfl, ?_, ?_⟩
  · exact H2.drewN.goto (st.place + 1)
  · exact F2.drewN.setR _

/-- The byte at the reader's place is no digit below the base. -/
def noDigit (s : ByteArray) (i : Nat) (base : Int) : Prop := M.hexV (M.byteAt s i) < 0 ∨ base ≤ M.hexV (M.byteAt s i)

set_option maxHeartbeats 1000000 in
theorem readDigit_no (R : Nat) (s : ByteArray) (st : M.St) (v : Value) (base : Int) (w : World) (h : Rd ps w R s st v) (_hs : s.size ≤ 512) (hp : st.place ≤ s.size) (hn : noDigit s st.place base) :
    Calls Tryz.prog 70 #[.pointer (some ⟨R, 0, none⟩), .int .i64 base] w fun e w' => e = .returned (.tuple #[.int .i64 0, .bool false]) ∧ Rd ps w' R s st v ∧ Fr R v w w' v := by
  obtain ⟨k0, k1, k2, k3, k4, kf, kl⟩ := h.blk.five
  have H := h
  clear h
  by_cases hlt : st.place < s.size
  · have e := M.byteAt_lt hlt
    have hc := (s[st.place]).toNat_lt
    rcases hn with hn | hn
    · have hd2 : Hid (M.hexV ((s[st.place].toNat : Nat) : Int) < 0) := by unfold Hid; rw [← e]; exact hn
      clear e hn
      go_enter Tryz.func70, Tryz.ntmps70
      go_wp2
      go_quiet (fail)
      have H2 := H.drewN (n := nq)
      have F2 := (Fr.refl R v w).drewN (n := nq)
      generalize w.drewN nq = w2 at H2 F2 ⊢
      clear H k0 k1 k2 k3 k4 kf kl
      obtain ⟨k0, k1, k2, k3, k4, kf, kl⟩ := H2.blk.five
      go_wp2
      go_quiet ((go_at_call 91; exact Calls.quiet_of_same (digitValue_no _ _ (by omega) (by omega) hd2)))
      go_wp2
      go_ret2
      exact ⟨rfl, H2.drewN, F2.drewN⟩
    · rw [e] at hn
      clear e
      by_cases h0 : M.hexV ((s[st.place].toNat : Nat) : Int) < 0
      · have hd2 : Hid (M.hexV ((s[st.place].toNat : Nat) : Int) < 0) := h0
        clear hn h0
        go_enter Tryz.func70, Tryz.ntmps70
        go_wp2
        go_quiet (fail)
        have H2 := H.drewN (n := nq)
        have F2 := (Fr.refl R v w).drewN (n := nq)
        generalize w.drewN nq = w2 at H2 F2 ⊢
        clear H k0 k1 k2 k3 k4 kf kl
        obtain ⟨k0, k1, k2, k3, k4, kf, kl⟩ := H2.blk.five
        go_wp2
        go_quiet ((go_at_call 91; exact Calls.quiet_of_same (digitValue_no _ _ (by omega) (by omega) hd2)))
        go_wp2
        go_ret2
        exact ⟨rfl, H2.drewN, F2.drewN⟩
      · obtain ⟨d, hd⟩ : ∃ d, M.hexV ((s[st.place].toNat : Nat) : Int) = d := ⟨_, rfl⟩
        have hd2 : Hid (M.hexV ((s[st.place].toNat : Nat) : Int) = d) := hd
        rw [hd] at hn h0
        clear hd
        go_enter Tryz.func70, Tryz.ntmps70
        go_wp2
        go_quiet (fail)
        have H2 := H.drewN (n := nq)
        have F2 := (Fr.refl R v w).drewN (n := nq)
        generalize w.drewN nq = w2 at H2 F2 ⊢
        clear H k0 k1 k2 k3 k4 kf kl
        obtain ⟨k0, k1, k2, k3, k4, kf, kl⟩ := H2.blk.five
        go_wp2
        go_quiet ((go_at_call 91; exact Calls.quiet_of_same (digitValue_ok _ d _ (by omega) (by omega) hd2 (by omega))))
        go_wp2
        go_ret2
        exact ⟨rfl, H2.drewN, F2.drewN⟩
  · have hle : s.size ≤ st.place := by omega
    clear hn hp
    go_enter Tryz.func70, Tryz.ntmps70
    go_wp2
    go_quiet (fail)
    go_wp2
    go_ret2
    exact ⟨rfl, H.drewN, (Fr.refl _ _ _).drewN⟩

end Go.Proofs.YtonmihojfcjmjaaGreat

/- Contracts: Inside, Cut, countPlane. -/
namespace Go.Proofs.YtonmihojfcjmjaaGreat
open Go.RowKit
variable {ps : Nat → Bool}
attribute [local go_sem] cell_set_off cell_set_blk

theorem plane3 {c : Int} (h : M.planeB c = true) : c = 120 ∨ c = 121 ∨ c = 122 := by unfold M.planeB at h; simp at h; omega

set_option maxHeartbeats 1000000 in
theorem inside_any (lo hi : M.V3) (c v : Int) (w : World) (hc : M.planeB c = true) (B : Bool) (hB : Hid (M.insideB lo hi c v = B)) :
    Calls Tryz.prog 107 #[.agg #[.int .i64 lo.x, .int .i64 lo.y, .int .i64 lo.z, .int .i64 hi.x, .int .i64 hi.y, .int .i64 hi.z], .int .u8 c, .int .i64 v] w fun e w' => e = .returned (.bool B) ∧ Below w.heap.size w w' := by
  rcases plane3 hc with rfl | rfl | rfl
  · go_enter Tryz.func107, Tryz.ntmps107
    go_wp2
    all_goals (go_ret; exact ⟨ret_bool (by rw [← hB.out]; unfold M.insideB M.getAx; (first | (simp [*]; done) | (simp; omega))), by go_grown⟩)
  · go_enter Tryz.func107, Tryz.ntmps107
    go_wp2
    all_goals (go_ret; exact ⟨ret_bool (by rw [← hB.out]; unfold M.insideB M.getAx; (first | (simp [*]; done) | (simp; omega))), by go_grown⟩)
  · go_enter Tryz.func107, Tryz.ntmps107
    go_wp2
    all_goals (go_ret; exact ⟨ret_bool (by rw [← hB.out]; unfold M.insideB M.getAx; (first | (simp [*]; done) | (simp; omega))), by go_grown⟩)

theorem setAx_x (p : M.V3) (v : Int) : M.setAx p 120 v = ⟨v, p.y, p.z⟩ := rfl
theorem setAx_y (p : M.V3) (v : Int) : M.setAx p 121 v = ⟨p.x, v, p.z⟩ := rfl
theorem setAx_z (p : M.V3) (v : Int) : M.setAx p 122 v = ⟨p.x, p.y, v⟩ := rfl

def CutPost (lo hi : M.V3) (c v : Int) (w : World) (r : Ending) (w' : World) : Prop :=
  r = .returned (.tuple #[.agg #[.int .i64 lo.x, .int .i64 lo.y, .int .i64 lo.z, .int .i64 (M.setAx hi c v).x, .int .i64 (M.setAx hi c v).y, .int .i64 (M.setAx hi c v).z],
    .agg #[.int .i64 (M.setAx lo c v).x, .int .i64 (M.setAx lo c v).y, .int .i64 (M.setAx lo c v).z, .int .i64 hi.x, .int .i64 hi.y, .int .i64 hi.z]]) ∧ Below w.heap.size w w'

set_option maxHeartbeats 1000000 in
theorem cut_x (lo hi : M.V3) (v : Int) (w : World) :
    Calls Tryz.prog 90 #[.agg #[.int .i64 lo.x, .int .i64 lo.y, .int .i64 lo.z, .int .i64 hi.x, .int .i64 hi.y, .int .i64 hi.z], .int .u8 120, .int .i64 v] w (CutPost lo hi 120 v w) := by
  go_enter Tryz.func90, Tryz.ntmps90
  go_wp2
  go_region
  all_goals go_wp2
  all_goals exact bodyPost_ret (v := .tuple #[.agg #[.int .i64 lo.x, .int .i64 lo.y, .int .i64 lo.z, .int .i64 v, .int .i64 hi.y, .int .i64 hi.z], .agg #[.int .i64 v, .int .i64 lo.y, .int .i64 lo.z, .int .i64 hi.x, .int .i64 hi.y, .int .i64 hi.z]]) (by simp [results, Tryz.results90, go_sem]) rfl ⟨rfl, by go_grown⟩

set_option maxHeartbeats 1000000 in
theorem cut_y (lo hi : M.V3) (v : Int) (w : World) :
    Calls Tryz.prog 90 #[.agg #[.int .i64 lo.x, .int .i64 lo.y, .int .i64 lo.z, .int .i64 hi.x, .int .i64 hi.y, .int .i64 hi.z], .int .u8 121, .int .i64 v] w (CutPost lo hi 121 v w) := by
  go_enter Tryz.func90, Tryz.ntmps90
  go_wp2
  go_region
  all_goals go_wp2
  all_goals exact bodyPost_ret (v := .tuple #[.agg #[.int .i64 lo.x, .int .i64 lo.y, .int .i64 lo.z, .int .i64 hi.x, .int .i64 v, .int .i64 hi.z], .agg #[.int .i64 lo.x, .int .i64 v, .int .i64 lo.z, .int .i64 hi.x, .int .i64 hi.y, .int .i64 hi.z]]) (by simp [results, Tryz.results90, go_sem]) rfl ⟨rfl, by go_grown⟩

set_option maxHeartbeats 1000000 in
theorem cut_z (lo hi : M.V3) (v : Int) (w : World) :
    Calls Tryz.prog 90 #[.agg #[.int .i64 lo.x, .int .i64 lo.y, .int .i64 lo.z, .int .i64 hi.x, .int .i64 hi.y, .int .i64 hi.z], .int .u8 122, .int .i64 v] w (CutPost lo hi 122 v w) := by
  go_enter Tryz.func90, Tryz.ntmps90
  go_wp2
  go_region
  all_goals go_wp2
  all_goals exact bodyPost_ret (v := .tuple #[.agg #[.int .i64 lo.x, .int .i64 lo.y, .int .i64 lo.z, .int .i64 hi.x, .int .i64 hi.y, .int .i64 v], .agg #[.int .i64 lo.x, .int .i64 lo.y, .int .i64 v, .int .i64 hi.x, .int .i64 hi.y, .int .i64 hi.z]]) (by simp [results, Tryz.results90, go_sem]) rfl ⟨rfl, by go_grown⟩

theorem cut_any (lo hi : M.V3) (c v : Int) (w : World) (hc : M.planeB c = true) :
    Calls Tryz.prog 90 #[.agg #[.int .i64 lo.x, .int .i64 lo.y, .int .i64 lo.z, .int .i64 hi.x, .int .i64 hi.y, .int .i64 hi.z], .int .u8 c, .int .i64 v] w (CutPost lo hi c v w) := by
  rcases plane3 hc with rfl | rfl | rfl
  · exact cut_x lo hi v w
  · exact cut_y lo hi v w
  · exact cut_z lo hi v w

/-- The state behind a plane has been counted. -/
def M.St.count (st : M.St) (ok : Bool) : M.St := ⟨st.place, st.planes + 1, if st.wrong < 0 ∧ ok = false then (st.planes : Int) else st.wrong, st.leaves⟩

def CntPost (ps : Nat → Bool) (R : Nat) (s : ByteArray) (st : M.St) (v : Value) (w : World) (r : Ending) (w' : World) : Prop := r = .returned (.tuple #[]) ∧ Rd ps w' R s st v ∧ Fr R v w w' v

set_option maxHeartbeats 1000000 in
theorem countPlane_any (R : Nat) (s : ByteArray) (st : M.St) (v : Value) (lo hi : M.V3) (c x : Int) (w : World) (h : Rd ps w R s st v) (hc : M.planeB c = true) (hw : -1 ≤ st.wrong) (hp : st.planes ≤ 512) :
    Calls Tryz.prog 89 #[.pointer (some ⟨R, 0, none⟩), .agg #[.int .i64 lo.x, .int .i64 lo.y, .int .i64 lo.z, .int .i64 hi.x, .int .i64 hi.y, .int .i64 hi.z], .int .u8 c, .int .i64 x] w (CntPost ps R s (st.count (M.insideB lo hi c x)) v w) := by
  obtain ⟨B, hB⟩ : ∃ B, M.insideB lo hi c x = B := ⟨_, rfl⟩
  rw [hB]
  have HB : Hid (M.insideB lo hi c x = B) := hB
  clear hB
  have hR := h.blk.lt
  go_enter Tryz.func89, Tryz.ntmps89
  go_wp2_with fail
  refine (inside_any lo hi c x _ hc B HB).mono ?_
  rintro r w1 ⟨rfl, hb⟩
  have H : Rd ps w1 R s st v := h.alloc.below hb
  have F : Fr R v w w1 v := ((Fr.refl R v w).alloc _).below hb
  clear hb h HB
  obtain ⟨k0, k1, k2, k3, k4, kf, kl⟩ := H.blk.five
  cases B
  · by_cases hz : st.wrong = -1
    · have e1 : (st.wrong == -1) = true := by simp [hz]
      have Hz : Hid (st.wrong = -1) := hz
      clear hz
      go_wp2
      go_end0
      refine ⟨rfl, ?_, (F.setR _).setR _⟩
      have e2 : st.count false = ⟨st.place, st.planes + 1, (st.planes : Int), st.leaves⟩ := by unfold M.St.count; rw [if_pos ⟨by rw [Hz.out]; omega, rfl⟩]
      rw [e2]
      exact H.set _ _ _ _ (((H.blk.setC 3 (.int .i64 st.planes)).setC 2 (.int .i64 (st.planes + 1 : Nat))).to (fun j _ => by match j with | 0 => rfl | 1 => rfl | 2 => rfl | 3 => rfl | 4 => rfl | j + 5 => simp [rdC])) (fun k hk => by rw [Below.heap_setCell _ _ _ _ hk, Below.heap_setCell _ _ _ _ hk])
    · have e1 : (st.wrong == -1) = false := by simp [hz]
      have e2 : st.count false = ⟨st.place, st.planes + 1, st.wrong, st.leaves⟩ := by unfold M.St.count; rw [if_neg (by omega)]
      have E2 : Hid (st.count false = ⟨st.place, st.planes + 1, st.wrong, st.leaves⟩) := e2
      clear e2 hz
      go_wp2
      go_end0
      refine ⟨rfl, ?_, F.setR _⟩
      rw [E2.out]
      exact H.set _ _ _ _ ((H.blk.setC 2 (.int .i64 (st.planes + 1 : Nat))).to (fun j _ => by match j with | 0 => rfl | 1 => rfl | 2 => rfl | 3 => rfl | 4 => rfl | j + 5 => simp [rdC])) (fun k hk => by rw [Below.heap_setCell _ _ _ _ hk])
  · have e2 : st.count true = ⟨st.place, st.planes + 1, st.wrong, st.leaves⟩ := by unfold M.St.count; rw [if_neg (by simp)]
    have E2 : Hid (st.count true = ⟨st.place, st.planes + 1, st.wrong, st.leaves⟩) := e2
    clear e2
    go_wp2
    go_end0
    refine ⟨rfl, ?_, F.setR _⟩
    rw [E2.out]
    exact H.set _ _ _ _ ((H.blk.setC 2 (.int .i64 (st.planes + 1 : Nat))).to (fun j _ => by match j with | 0 => rfl | 1 => rfl | 2 => rfl | 3 => rfl | 4 => rfl | j + 5 => simp [rdC])) (fun k hk => by rw [Below.heap_setCell _ _ _ _ hk])

end Go.Proofs.YtonmihojfcjmjaaGreat

/- Contracts: readTree, readPlane. -/
namespace Go.Proofs.YtonmihojfcjmjaaGreat
open Go.RowKit
variable {ps : Nat → Bool}
attribute [local go_sem] cell_set_off cell_set_blk
attribute [local go_sem ↓] Go.wp_at_zero Go.wp_at_succ

/-- What a call that reads a tree leaves. -/
def TreePost (ps : Nat → Bool) (R : Nat) (s : ByteArray) (p : Bool × M.St) (v : Value) (w : World) (r : Ending) (w' : World) : Prop := ∃ v', r = .returned (.bool p.1) ∧ Rd ps w' R s p.2 v' ∧ Fr R v w w' v'
theorem TreePost.mk {R : Nat} {s : ByteArray} {p : Bool × M.St} {b : Bool} {st' : M.St} {v v' : Value} {w w' : World} (e : p = (b, st')) (h : Rd ps w' R s st' v') (f : Fr R v w w' v') : TreePost ps R s p v w (.returned (.bool b)) w' := by
  subst e; exact ⟨v', rfl, h, f⟩

theorem leafB_end : M.leafB (-1) = false := rfl
theorem planeB_end : M.planeB (-1) = false := rfl
theorem infoLeaf : (Tryz.prog.info? 137).map (fun i => (i.zero, i.size, i.bytes)) = some (some (.agg #[.int .i64 0, .int .i64 0, .int .i64 0, .int .i64 0, .int .i64 0, .int .i64 0, .int .i64 0]), 7, 56) := by kernel_rfl

theorem flat_snoc (ls : List M.Lf) (l : M.Lf) : flat (ls ++ [l]) = flat ls ++ leafCells l := by simp [flat]

theorem Fr.grown {R n cap g : Nat} {v : Value} {w W W0 W1 : World} (h : Fr R v w W v) (hb : Below W.heap.size W W0) (hg : W0.grownBy W1 v.ownBlock) (hat : v.ownBlock = some g ∨ W.heap.size ≤ g) :
    Fr R v w W1 (.slice (some ⟨g, 0, none⟩) n cap) := by
  refine h.trans ⟨hg.os.trans hb.os, hg.tape.trans hb.tape, hg.output.trans hb.output, Nat.le_trans hb.size hg.size, fun k hk _ hv => ?_, ?_⟩
  · rw [hg.block k (Nat.lt_of_lt_of_le hk hb.size) hv, hb.block k hk]
  · rcases hat with e | e
    · exact .inl (by rw [e]; rfl)
    · exact .inr ⟨g, rfl, e⟩

theorem cellFar {W W0 W1 : World} {row : Option Nat} {b : Nat} (hg : W0.grownBy W1 row) (hb : Below W.heap.size W W0) (hlt : b < W.heap.size) (hne : some b ≠ row) :
    (∀ i, W1.cell? ⟨b, i, none⟩ = W.cell? ⟨b, i, none⟩) ∧ (∀ i, W1.frozen? ⟨b, i, none⟩ = W.frozen? ⟨b, i, none⟩) := by
  have e : W1.heap[b]? = W.heap[b]? := by rw [hg.block b (Nat.lt_of_lt_of_le hlt hb.size) hne, hb.block b hlt]
  exact ⟨fun i => World.cell?_of_block (a := ⟨b, i, none⟩) e, fun i => World.frozen?_of_block (a := ⟨b, i, none⟩) e⟩

/-- A leaf has been appended, and the new slice stored into the reader. -/
theorem Rd.leaf {R cap g : Nat} {s : ByteArray} {st : M.St} {v : Value} {W W0 W1 : World} {lo hi : M.V3} {c : Int} (h : Rd ps W R s (st.goto (st.place + 1)) v) (hb : Below W.heap.size W W0) (hg : W0.grownBy W1 v.ownBlock) (hat : v.ownBlock = some g ∨ W.heap.size ≤ g)
    (hown : W1.ownsRow 0 137 7 (.slice (some ⟨g, 0, none⟩) (st.leaves.length + 1) cap) (st.leaves.length + 1) (flat st.leaves ++ leafCells ⟨lo, hi, M.zoneV c⟩)) :
    Rd ps (W1.setCell ⟨R, 4, none⟩ (.slice (some ⟨g, 0, none⟩) (st.leaves.length + 1) cap)) R s (st.leaf lo hi c) (.slice (some ⟨g, 0, none⟩) (st.leaves.length + 1) cap) := by
  have hR := h.blk.lt
  have hne : g ≠ R := by
    rcases hat with e | e
    · intro x; exact h.ne (by rw [e, x])
    · omega
  have hblk : Blk W1 R (cellsOf 69 (rdC s (st.goto (st.place + 1)) v ps)) 89 :=
    ⟨by rw [hg.block R (Nat.lt_of_lt_of_le hR hb.size) (fun e => h.ne e.symm), hb.block R hR]; exact h.blk.at_⟩
  refine ⟨(hblk.setC 4 _).to (fun j _ => by match j with | 0 => rfl | 1 => rfl | 2 => rfl | 3 => rfl | 4 => rfl | j + 5 => simp [rdC]), ?_, fun e => hne (by simpa [Value.ownBlock] using e)⟩
  have e1 : (st.leaf lo hi c).leaves = st.leaves ++ [⟨lo, hi, M.zoneV c⟩] := rfl
  rw [e1, flat_snoc, List.length_append]
  exact own_of hown (fun k hk => Below.heap_setCell _ _ _ _ (fun e => hne ((show g = k from by simpa [Value.ownBlock] using hk).trans e)))

set_option maxHeartbeats 2000000 in
theorem readTree_end (R : Nat) (s : ByteArray) (st : M.St) (v : Value) (lo hi : M.V3) (r : Nat) (a : Int) (w : World) (h : Rd ps w R s st v) (hp : s.size ≤ st.place) (_hp2 : st.place ≤ 512) :
    Calls Tryz.prog 48 #[.pointer (some ⟨R, 0, none⟩), .agg #[.int .i64 lo.x, .int .i64 lo.y, .int .i64 lo.z, .int .i64 hi.x, .int .i64 hi.y, .int .i64 hi.z], .int .i64 a] w (TreePost ps R s (M.tree s r lo hi st) v w) := by
  have e : M.tree s r lo hi st = (false, st) := M.tree_none (by rw [M.byteAt_ge hp]; rfl) (by rw [M.byteAt_ge hp]; rfl)
  have E : Hid (M.tree s r lo hi st = (false, st)) := e
  clear e
  have H := h
  obtain ⟨k0, k1, k2, k3, k4, kf, kl⟩ := h.blk.five
  clear h
  go_enter Tryz.func48, Tryz.ntmps48
  go_wp2
  go_quiet (fail)
  go_wp2
  go_ret
  exact .mk E.out H.alloc.drewN ((Fr.refl _ _ _).alloc _).drewN

set_option maxHeartbeats 2000000 in
theorem readTree_solid (R : Nat) (s : ByteArray) (st : M.St) (v : Value) (lo hi : M.V3) (r : Nat) (a : Int) (w : World) (h : Rd ps w R s st v) (hp : st.place < s.size) (hp2 : s.size ≤ 512) (hlv : st.leaves.length ≤ st.place) (hc : M.byteAt s st.place = 35) :
    Calls Tryz.prog 48 #[.pointer (some ⟨R, 0, none⟩), .agg #[.int .i64 lo.x, .int .i64 lo.y, .int .i64 lo.z, .int .i64 hi.x, .int .i64 hi.y, .int .i64 hi.z], .int .i64 a] w (TreePost ps R s (M.tree s r lo hi st) v w) := by
  have e : M.tree s r lo hi st = (true, st.leaf lo hi 35) := by rw [M.tree_leaf (by rw [hc]; rfl), hc]
  have E : Hid (M.tree s r lo hi st = (true, st.leaf lo hi 35)) := e
  clear e
  rw [M.byteAt_lt hp] at hc
  have HC : Hid ((s[st.place].toNat : Int) = 35) := hc
  clear hc
  have H := h
  obtain ⟨k0, k1, k2, k3, k4, kf, kl⟩ := h.blk.five
  clear h
  have hvb : some w.heap.size ≠ v.ownBlock := fun e => Nat.lt_irrefl _ (own_lt H.own e.symm)
  have hvR : some R ≠ v.ownBlock := fun e => H.ne e.symm
  have hR0 : R ≠ w.heap.size := by omega
  go_enter Tryz.func48, Tryz.ntmps48
  go_wp2
  go_quiet (fail)
  have H1 := (H.alloc (o := (.cells #[.int .i64 lo.x, .int .i64 lo.y, .int .i64 lo.z, .int .i64 hi.x, .int .i64 hi.y, .int .i64 hi.z] 108))).drewN (n := nq)
  have F1 := ((Fr.refl R v w).alloc (.cells #[.int .i64 lo.x, .int .i64 lo.y, .int .i64 lo.z, .int .i64 hi.x, .int .i64 hi.y, .int .i64 hi.z] 108)).drewN (n := nq)
  have q1 : Blk ((w.alloc (.cells #[.int .i64 lo.x, .int .i64 lo.y, .int .i64 lo.z, .int .i64 hi.x, .int .i64 hi.y, .int .i64 hi.z] 108)).drewN nq) w.heap.size _ _ := Blk.drewN (Blk.new rfl)
  generalize (w.alloc (.cells #[.int .i64 lo.x, .int .i64 lo.y, .int .i64 lo.z, .int .i64 hi.x, .int .i64 hi.y, .int .i64 hi.z] 108)).drewN nq = w2 at H1 F1 q1 ⊢
  clear H k0 k1 k2 k3 k4 kf kl
  obtain ⟨k0, k1, k2, k3, k4, kf, kl⟩ := H1.blk.five
  obtain ⟨a0, a1, a2, a3, a4, a5, af, al⟩ := q1.six
  go_wp2
  go_quiet (fail)
  rw [HC.out]
  go_wp2
  clear a0 a1 a2 a3 a4 a5 af al
  have hlen : st.leaves.length + 1 ≤ 513 := by omega
  have F2 : Fr R v w ((w2.drewN nq).setCell ⟨R, 1, none⟩ (.int .i64 (st.place + 1))) v := F1.drewN.setR _
  have H2 : Rd ps ((w2.drewN nq).setCell ⟨R, 1, none⟩ (.int .i64 (st.place + 1))) R s (st.goto (st.place + 1)) v := by exact H1.drewN.goto (st.place + 1)
  have q2 : Blk ((w2.drewN nq).setCell ⟨R, 1, none⟩ (.int .i64 (st.place + 1))) w.heap.size #[.int .i64 lo.x, .int .i64 lo.y, .int .i64 lo.z, .int .i64 hi.x, .int .i64 hi.y, .int .i64 hi.z] 108 := q1.drewN.other _ _ (by omega)
  generalize ((w2.drewN nq).setCell ⟨R, 1, none⟩ (.int .i64 (st.place + 1))) = W at F2 H2 q2 ⊢
  clear H1 F1 q1 k0 k1 k2 k3 k4 kf kl
  obtain ⟨_, _, _, _, k4, kf, kl⟩ := H2.blk.five
  obtain ⟨a0, a1, a2, a3, a4, a5, af, al⟩ := q2.six
  obtain ⟨i0, hi0, hz0, hz1, hz2⟩ := info_parts infoLeaf
  go_region_law
    ((refine step_append_lies _ (by rfl) _ _ _ (by rfl) 0 137 i0 _ 7 56 Tryz.underlying42 hi0 hz0 hz1 hz2 rfl (by omega) v st.leaves.length (flat st.leaves) (by rfl) (by first | exact H2.alloc.drew.own | exact H2.drew.alloc.own)
        ⟨W.heap.size, 0, none⟩ 1 1 (leafCells ⟨lo, hi, -1⟩) (by rfl) (by rfl) (World.news_of_block (cs := #[.int .i64 lo.x, .int .i64 lo.y, .int .i64 lo.z, .int .i64 hi.x, .int .i64 hi.y, .int .i64 hi.z, .int .i64 (-1)]) (t := 137) (fr := (0, 0)) (heap_alloc_new W _)) (by simp [leafCells, Value.oneCell'])
        (by omega) (by unfold maxLen; omega) (by omega) (by simp) (W.heap.size + 1) (by simp) ?_; intro g cap w1 hown1 hgrow hat hlt
      obtain ⟨cR, fR⟩ := cellFar hgrow (by go_grown) kl hvR
      obtain ⟨cB, _⟩ := cellFar hgrow (by go_grown) al hvb
      have c4 := (cR 4).trans k4
      have f4 := fun i => (fR i).trans (kf i)
      have b0 := (cB 0).trans a0
      have b1 := (cB 1).trans a1
      have b2 := (cB 2).trans a2
      have b3 := (cB 3).trans a3
      have b4 := (cB 4).trans a4
      have b5 := (cB 5).trans a5
      clear cR cB fR))
  all_goals
    go_wp2
    go_ret
    have hat2 : v.ownBlock = some g ∨ W.heap.size ≤ g := by rcases hat with e | e; exact .inl e; exact .inr (by omega)
    exact .mk E.out (H2.leaf (by go_grown) hgrow hat2 hown1) ((F2.grown (by go_grown) hgrow hat2).setR _)

end Go.Proofs.YtonmihojfcjmjaaGreat
