import Derived.Test.YtonmihojfcjmjabRows
import Derived.Test.YtonmihojfcjmjabBM
import Derived.Test.YtonmihojfcjmjabBK
import Derived.Handy
import Derived.WalkKit
import Derived.WalkSpells
import Derived.WalkSmall
import Derived.Deep.QuietTactic
import Derived.Deep.RegionHeld3
import Derived.Deep.AppendLies
import Derived.BigQuiet
/- The reader's memory, and contracts of its small functions. -/
namespace Go.Proofs.Ytonmihojfcjmjab
open Go.RowKit
attribute [local go_sem] cell_set_off cell_set_blk

def leafCells (l : M.Lf) : List Value := [.int .i64 l.lo.x, .int .i64 l.lo.y, .int .i64 l.lo.z, .int .i64 l.hi.x, .int .i64 l.hi.y, .int .i64 l.hi.z, .int .i64 l.zone]
def flat (ls : List M.Lf) : List Value := ls.flatMap leafCells

/-- The reader's cells: what it knows of the text; behind it the map, its leaves and its pairs. -/
def rdC (s : ByteArray) (st : M.St) (v : Value) (ps : Nat → Bool) : Nat → Value
  | 0 => .string s
  | 1 => .int .i64 st.place
  | 2 => .int .i64 st.planes
  | 3 => .int .i64 st.wrong
  | 4 => v
  | i + 5 => .bool (ps i)

/-- The reader lies in block R, its leaves in the slice v, its pairs are ps. -/
structure Rd (ps : Nat → Bool) (W : World) (R : Nat) (s : ByteArray) (st : M.St) (v : Value) : Prop where
  blk : Blk W R (cellsOf 69 (rdC s st v ps)) 101
  own : W.ownsRow 0 154 7 v st.leaves.length (flat st.leaves)
  ne : v.ownBlock ≠ some R

variable {ps : Nat → Bool}

/-- Of what was there nothing has turned but the reader and its leaves' row. -/
structure Fr (R : Nat) (v : Value) (W W' : World) (v' : Value) : Prop where
  os : W'.os = W.os
  tape : W'.tape = W.tape
  output : W'.output = W.output
  size : W.heap.size ≤ W'.heap.size
  block : ∀ k, k < W.heap.size → k ≠ R → some k ≠ v.ownBlock → W'.heap[k]? = W.heap[k]?
  row : v'.ownBlock = v.ownBlock ∨ ∃ g, v'.ownBlock = some g ∧ W.heap.size ≤ g

theorem Fr.refl (R : Nat) (v : Value) (W : World) : Fr R v W W v := ⟨rfl, rfl, rfl, Nat.le_refl _, fun _ _ _ _ => rfl, .inl rfl⟩
theorem Fr.trans {R : Nat} {v v1 v2 : Value} {W W1 W2 : World} (h : Fr R v W W1 v1) (g : Fr R v1 W1 W2 v2) : Fr R v W W2 v2 := by
  refine ⟨g.os.trans h.os, g.tape.trans h.tape, g.output.trans h.output, Nat.le_trans h.size g.size, fun k hk hR hv => ?_, ?_⟩
  · rw [g.block k (Nat.lt_of_lt_of_le hk h.size) hR ?_, h.block k hk hR hv]
    rcases h.row with e | ⟨x, e, hx⟩
    · rw [e]; exact hv
    · rw [e]; intro e2; have := Option.some.inj e2; omega
  · rcases g.row with e | ⟨x, e, hx⟩
    · rw [e]; exact h.row
    · exact .inr ⟨x, e, Nat.le_trans h.size hx⟩
theorem Fr.below {R : Nat} {v v1 : Value} {W W1 W2 : World} (h : Fr R v W W1 v1) (hb : Below W1.heap.size W1 W2) : Fr R v W W2 v1 :=
  h.trans ⟨hb.os, hb.tape, hb.output, hb.size, fun k hk _ _ => hb.block k hk, .inl rfl⟩
theorem Fr.alloc {R : Nat} {v v1 : Value} {W W1 : World} (h : Fr R v W W1 v1) (o : Obj) : Fr R v W (W1.alloc o) v1 := h.below ((Below.refl _ _).alloc (Nat.le_refl _) _)
theorem Fr.drewN {R n : Nat} {v v1 : Value} {W W1 : World} (h : Fr R v W W1 v1) : Fr R v W (W1.drewN n) v1 := h.below (below_drewN (Below.refl _ _) _)
theorem Fr.drew {R : Nat} {v v1 : Value} {W W1 : World} (h : Fr R v W W1 v1) : Fr R v W W1.drew v1 := h.below (Below.refl _ _).drew
theorem Fr.setR {R i : Nat} {v v1 : Value} {W W1 : World} (h : Fr R v W W1 v1) (x : Value) : Fr R v W (W1.setCell ⟨R, i, none⟩ x) v1 :=
  h.trans ⟨rfl, rfl, rfl, by simp, fun k _ hk _ => Below.heap_setCell _ _ _ _ hk, .inl rfl⟩
theorem Blk.fr {R b : Nat} {v v' : Value} {W W' : World} {cs : Array Value} {t : TypeId} (h : Blk W b cs t) (hf : Fr R v W W' v') (h1 : b ≠ R) (h2 : some b ≠ v.ownBlock) : Blk W' b cs t :=
  ⟨by rw [hf.block b h.lt h1 h2]; exact h.at_⟩

theorem own_lt {W : World} {base e size n : Nat} {v : Value} {xs : List Value} (h : W.ownsRow base e size v n xs) {g : Nat} (hg : v.ownBlock = some g) : g < W.heap.size := by
  rcases h.2 with ⟨rfl, _⟩ | ⟨g', cap, cur, rfl, _, hh, _⟩
  · cases hg
  · have : g' = g := by simpa [Value.ownBlock] using hg
    subst this
    exact (Array.getElem?_eq_some_iff.1 hh).1
theorem own_base {W : World} {base base' e size n : Nat} {v : Value} {xs : List Value} (h : W.ownsRow base e size v n xs) (hg : ∀ g, v.ownBlock = some g → base' ≤ g) : W.ownsRow base' e size v n xs := by
  obtain ⟨h1, h2⟩ := h
  refine ⟨h1, ?_⟩
  rcases h2 with h | ⟨g, cap, cur, rfl, _, h3⟩
  · exact .inl h
  · exact .inr ⟨g, cap, cur, rfl, hg g rfl, h3⟩
theorem own_from {W : World} {base e size n : Nat} {v : Value} {xs : List Value} (h : W.ownsRow base e size v n xs) {g : Nat} (hg : v.ownBlock = some g) : base ≤ g := by
  rcases h.2 with ⟨rfl, _⟩ | ⟨k, cap, cur, rfl, hb, _⟩
  · cases hg
  · cases hg; exact hb
theorem own_of {W W' : World} {base e size n : Nat} {v : Value} {xs : List Value} (h : W.ownsRow base e size v n xs) (hh : ∀ g, v.ownBlock = some g → W'.heap[g]? = W.heap[g]?) : W'.ownsRow base e size v n xs := by
  refine ⟨h.1, ?_⟩
  rcases h.2 with x | ⟨g, cap, cur, rfl, h1, h2, h3⟩
  · exact .inl x
  · exact .inr ⟨g, cap, cur, rfl, h1, by rw [hh g rfl]; exact h2, h3⟩

theorem Rd.below {W W' : World} {R : Nat} {s : ByteArray} {st : M.St} {v : Value} (h : Rd ps W R s st v) (hb : Below W.heap.size W W') : Rd ps W' R s st v :=
  ⟨h.blk.after hb, own_of h.own (fun g hg => hb.block g (own_lt h.own hg)), h.ne⟩
theorem Rd.alloc {W : World} {R : Nat} {s : ByteArray} {st : M.St} {v : Value} {o : Obj} (h : Rd ps W R s st v) : Rd ps (W.alloc o) R s st v := h.below ((Below.refl _ _).alloc (Nat.le_refl _) _)
theorem Rd.drewN {W : World} {R n : Nat} {s : ByteArray} {st : M.St} {v : Value} (h : Rd ps W R s st v) : Rd ps (W.drewN n) R s st v := h.below (below_drewN (Below.refl _ _) _)
theorem Rd.drew {W : World} {R : Nat} {s : ByteArray} {st : M.St} {v : Value} (h : Rd ps W R s st v) : Rd ps W.drew R s st v := h.below (Below.refl _ _).drew
theorem Rd.goto {W : World} {R : Nat} {s : ByteArray} {st : M.St} {v : Value} (h : Rd ps W R s st v) (i : Nat) : Rd ps (W.setCell ⟨R, 1, none⟩ (.int .i64 i)) R s (st.goto i) v :=
  ⟨(h.blk.setC 1 _).to (fun j _ => by match j with | 0 => rfl | 1 => rfl | 2 => rfl | 3 => rfl | 4 => rfl | j + 5 => simp [rdC]), own_of h.own (fun g hg => Below.heap_setCell _ _ _ _ (fun e => h.ne (by rw [hg, e]))), h.ne⟩
/-- Other fields stored. -/
theorem Rd.set {W : World} {R : Nat} {s : ByteArray} {st : M.St} {v : Value} (h : Rd ps W R s st v) (a b : Nat) (c : Int) (W' : World) (hW : Blk W' R (cellsOf 69 (rdC s ⟨a, b, c, st.leaves⟩ v ps)) 101)
    (hh : ∀ k, k ≠ R → W'.heap[k]? = W.heap[k]?) : Rd ps W' R s ⟨a, b, c, st.leaves⟩ v :=
  ⟨hW, own_of h.own (fun g hg => hh g (fun e => h.ne (by rw [hg, e]))), h.ne⟩

theorem Blk.five {W : World} {b : Nat} {s : ByteArray} {st : M.St} {v : Value} {t : TypeId} (h : Blk W b (cellsOf 69 (rdC s st v ps)) t) :
    W.cell? ⟨b, 0, none⟩ = some (.string s) ∧ W.cell? ⟨b, 1, none⟩ = some (.int .i64 st.place) ∧ W.cell? ⟨b, 2, none⟩ = some (.int .i64 st.planes) ∧ W.cell? ⟨b, 3, none⟩ = some (.int .i64 st.wrong) ∧ W.cell? ⟨b, 4, none⟩ = some v ∧ (∀ i, W.frozen? ⟨b, i, none⟩ = false) ∧ b < W.heap.size :=
  ⟨h.cellC 0 (by omega), h.cellC 1 (by omega), h.cellC 2 (by omega), h.cellC 3 (by omega), h.cellC 4 (by omega), h.frozen, h.lt⟩

set_option maxHeartbeats 400000 in
theorem digitValue_any (c : Int) (w : World) (h0 : 0 ≤ c) (h1 : c ≤ 255) :
    Calls Try.prog 94 #[.int .u8 c] w fun e w' => e = .returned (.tuple #[.int .i64 (if M.hexV c < 0 then 0 else M.hexV c), .bool (decide (0 ≤ M.hexV c))]) ∧ w' = w := by
  by_cases a1 : 48 ≤ c
  · by_cases a2 : c ≤ 57
    · have e : M.hexV c = c - 48 := by unfold M.hexV; rw [if_pos ⟨a1, a2⟩]
      have e2 : (if M.hexV c < 0 then (0 : Int) else M.hexV c) = c - 48 := by rw [e]; split <;> omega
      have e3 : decide (0 ≤ M.hexV c) = true := by rw [e]; simp; omega
      rw [e2, e3]
      clear e e2 e3
      go_enter Try.func94, Try.ntmps94
      go_wp2
      go_ret2
      exact ⟨rfl, rfl⟩
    · by_cases a3 : 97 ≤ c ∧ c ≤ 102
      · obtain ⟨a3, a4⟩ := a3
        have e : M.hexV c = c - 97 + 10 := by unfold M.hexV; rw [if_neg (by omega), if_pos ⟨a3, a4⟩]
        have e2 : (if M.hexV c < 0 then (0 : Int) else M.hexV c) = c - 97 + 10 := by rw [e]; split <;> omega
        have e3 : decide (0 ≤ M.hexV c) = true := by rw [e]; simp; omega
        rw [e2, e3]
        clear e e2 e3
        go_enter Try.func94, Try.ntmps94
        go_wp2
        go_ret2
        exact ⟨rfl, rfl⟩
      · have e : M.hexV c = -1 := by unfold M.hexV; rw [if_neg (by omega), if_neg a3]
        have e2 : (if M.hexV c < 0 then (0 : Int) else M.hexV c) = 0 := by rw [e]; split <;> omega
        have e3 : decide (0 ≤ M.hexV c) = false := by rw [e]; simp
        rw [e2, e3]
        clear e e2 e3
        by_cases a4 : 97 ≤ c
        · have a5 : ¬ c ≤ 102 := by omega
          go_enter Try.func94, Try.ntmps94
          go_wp2
          go_ret2
          exact ⟨rfl, rfl⟩
        · go_enter Try.func94, Try.ntmps94
          go_wp2
          go_ret2
          exact ⟨rfl, rfl⟩
  · have e : M.hexV c = -1 := by unfold M.hexV; rw [if_neg (by omega), if_neg (by omega)]
    have e2 : (if M.hexV c < 0 then (0 : Int) else M.hexV c) = 0 := by rw [e]; split <;> omega
    have e3 : decide (0 ≤ M.hexV c) = false := by rw [e]; simp
    rw [e2, e3]
    clear e e2 e3
    go_enter Try.func94, Try.ntmps94
    go_wp2
    go_ret2
    exact ⟨rfl, rfl⟩

theorem digitValue_ok (c d : Int) (w : World) (h0 : 0 ≤ c) (h1 : c ≤ 255) (hd : Hid (M.hexV c = d)) (hd0 : 0 ≤ d) :
    Calls Try.prog 94 #[.int .u8 c] w fun e w' => e = .returned (.tuple #[.int .i64 d, .bool true]) ∧ w' = w := by
  have h := digitValue_any c w h0 h1
  rw [hd.out, if_neg (by omega), decide_eq_true hd0] at h
  exact h
theorem digitValue_no (c : Int) (w : World) (h0 : 0 ≤ c) (h1 : c ≤ 255) (hd : Hid (M.hexV c < 0)) :
    Calls Try.prog 94 #[.int .u8 c] w fun e w' => e = .returned (.tuple #[.int .i64 0, .bool false]) ∧ w' = w := by
  have h := digitValue_any c w h0 h1
  have hd' := hd.out
  rw [if_pos hd', decide_eq_false (by omega)] at h
  exact h

set_option maxHeartbeats 1000000 in
theorem readDigit_ok (R : Nat) (s : ByteArray) (st : M.St) (v : Value) (base : Int) (w : World) (h : Rd ps w R s st v) (hs : s.size ≤ 512) (d : Int) (hd : Hid (M.hexV (M.byteAt s st.place) = d)) (ok1 : 0 ≤ d) (ok2 : d < base) :
    Calls Try.prog 79 #[.pointer (some ⟨R, 0, none⟩), .int .i64 base] w fun e w' => e = .returned (.tuple #[.int .i64 d, .bool true]) ∧ Rd ps w' R s (st.goto (st.place + 1)) v ∧ Fr R v w w' v := by
  have hlt := M.hexV_in (s := s) (i := st.place) (by rw [hd.out]; exact ok1)
  have e := M.byteAt_lt hlt
  have hd2 : Hid (M.hexV ((s[st.place].toNat : Nat) : Int) = d) := by unfold Hid; rw [← e]; exact hd
  have hc := (s[st.place]).toNat_lt
  clear e hd
  obtain ⟨k0, k1, k2, k3, k4, kf, kl⟩ := h.blk.five
  have H := h
  clear h
  go_enter Try.func79, Try.ntmps79
  go_wp2
  go_quiet (fail)
  have H2 := H.drewN (n := nq)
  have F2 := (Fr.refl R v w).drewN (n := nq)
  generalize w.drewN nq = w2 at H2 F2 ⊢
  clear H k0 k1 k2 k3 k4 kf kl
  obtain ⟨k0, k1, k2, k3, k4, kf, kl⟩ := H2.blk.five
  go_wp2
  go_quiet ((go_at_call 94; exact Calls.quiet_of_same (digitValue_ok _ d _ (by omega) (by omega) hd2 ok1)))
  go_wp2
  go_ret2
  refine ⟨rfl, ?_, ?_⟩
  · exact H2.drewN.goto (st.place + 1)
  · exact F2.drewN.setR _

/-- The byte at the reader's place is no digit below the base. -/
def noDigit (s : ByteArray) (i : Nat) (base : Int) : Prop := M.hexV (M.byteAt s i) < 0 ∨ base ≤ M.hexV (M.byteAt s i)

set_option maxHeartbeats 1000000 in
theorem readDigit_no (R : Nat) (s : ByteArray) (st : M.St) (v : Value) (base : Int) (w : World) (h : Rd ps w R s st v) (_hs : s.size ≤ 512) (hp : st.place ≤ s.size) (hn : noDigit s st.place base) :
    Calls Try.prog 79 #[.pointer (some ⟨R, 0, none⟩), .int .i64 base] w fun e w' => e = .returned (.tuple #[.int .i64 0, .bool false]) ∧ Rd ps w' R s st v ∧ Fr R v w w' v := by
  obtain ⟨k0, k1, k2, k3, k4, kf, kl⟩ := h.blk.five
  have H := h
  clear h
  by_cases hlt : st.place < s.size
  · have e := M.byteAt_lt hlt
    have hc := (s[st.place]).toNat_lt
    rcases hn with hn | hn
    · have hd2 : Hid (M.hexV ((s[st.place].toNat : Nat) : Int) < 0) := by unfold Hid; rw [← e]; exact hn
      clear e hn
      go_enter Try.func79, Try.ntmps79
      go_wp2
      go_quiet (fail)
      have H2 := H.drewN (n := nq)
      have F2 := (Fr.refl R v w).drewN (n := nq)
      generalize w.drewN nq = w2 at H2 F2 ⊢
      clear H k0 k1 k2 k3 k4 kf kl
      obtain ⟨k0, k1, k2, k3, k4, kf, kl⟩ := H2.blk.five
      go_wp2
      go_quiet ((go_at_call 94; exact Calls.quiet_of_same (digitValue_no _ _ (by omega) (by omega) hd2)))
      go_wp2
      go_ret2
      exact ⟨rfl, H2.drewN, F2.drewN⟩
    · rw [e] at hn
      clear e
      by_cases h0 : M.hexV ((s[st.place].toNat : Nat) : Int) < 0
      · have hd2 : Hid (M.hexV ((s[st.place].toNat : Nat) : Int) < 0) := h0
        clear hn h0
        go_enter Try.func79, Try.ntmps79
        go_wp2
        go_quiet (fail)
        have H2 := H.drewN (n := nq)
        have F2 := (Fr.refl R v w).drewN (n := nq)
        generalize w.drewN nq = w2 at H2 F2 ⊢
        clear H k0 k1 k2 k3 k4 kf kl
        obtain ⟨k0, k1, k2, k3, k4, kf, kl⟩ := H2.blk.five
        go_wp2
        go_quiet ((go_at_call 94; exact Calls.quiet_of_same (digitValue_no _ _ (by omega) (by omega) hd2)))
        go_wp2
        go_ret2
        exact ⟨rfl, H2.drewN, F2.drewN⟩
      · obtain ⟨d, hd⟩ : ∃ d, M.hexV ((s[st.place].toNat : Nat) : Int) = d := ⟨_, rfl⟩
        have hd2 : Hid (M.hexV ((s[st.place].toNat : Nat) : Int) = d) := hd
        rw [hd] at hn h0
        clear hd
        go_enter Try.func79, Try.ntmps79
        go_wp2
        go_quiet (fail)
        have H2 := H.drewN (n := nq)
        have F2 := (Fr.refl R v w).drewN (n := nq)
        generalize w.drewN nq = w2 at H2 F2 ⊢
        clear H k0 k1 k2 k3 k4 kf kl
        obtain ⟨k0, k1, k2, k3, k4, kf, kl⟩ := H2.blk.five
        go_wp2
        go_quiet ((go_at_call 94; exact Calls.quiet_of_same (digitValue_ok _ d _ (by omega) (by omega) hd2 (by omega))))
        go_wp2
        go_ret2
        exact ⟨rfl, H2.drewN, F2.drewN⟩
  · have hle : s.size ≤ st.place := by omega
    clear hn hp
    go_enter Try.func79, Try.ntmps79
    go_wp2
    go_quiet (fail)
    go_wp2
    go_ret2
    exact ⟨rfl, H.drewN, (Fr.refl _ _ _).drewN⟩

end Go.Proofs.Ytonmihojfcjmjab
