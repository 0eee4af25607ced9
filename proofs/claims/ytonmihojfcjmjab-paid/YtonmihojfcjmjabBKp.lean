import Derived.Test.YtonmihojfcjmjabPk5
import Derived.Test.YtonmihojfcjmjabByt
import Derived.Test.YtonmihojfcjmjabBK
import Derived.Deep.OwnRows
import Derived.Test.YtonmihojfcjmjabOkM
import Derived.Test.YtonmihojfcjmjabBM
import Derived.Test.YtonmihojfcjmjabBPr
/- Contracts of the statements' helpers: written. -/
namespace Go.Proofs.Ytonmihojfcjmjab
open Go.RowKit
set_option linter.unusedVariables false
attribute [local go_sem] cell_set_off cell_set_blk

/-- The numbers that the statement lays. -/
def M.Cmd.wr (c : M.Cmd) (f : Int) : List Int := [67, c.seq, c.seq / 256, f, c.mv.x, c.mv.y, c.mv.z, c.aim.x, c.aim.y, c.aim.z, c.time, c.time / 256, c.time / 65536]
theorem M.wr_nums (c : M.Cmd) (h : M.Fits c) (f : Int) (h1 : 0 ≤ f) (h2 : f ≤ 1) : (c.wr f).map (fun x => x % 256) = c.nums f := by
  obtain ⟨s1, s2, t1, t2, _, _⟩ := h
  simp only [M.Cmd.wr, M.Cmd.nums, List.map_cons, List.map_nil, List.cons.injEq, and_true]
  refine ⟨?_, ?_, ?_, ?_, ?_, ?_, ?_, ?_, ?_, ?_, ?_, ?_, ?_⟩ <;> first | trivial | omega

theorem row_i64 (l : List Int) {k : Nat} (hk : k < l.length) : ((l.map (Value.int .i64)).toArray)[k]? = some (.int .i64 (l.getD k 0)) := by
  simp [List.getD_eq_getElem?_getD, hk]
theorem make14 (W : World) : (Instr.makeSlice 97 (.int .i64 14) (.int .i64 14)).run Try.prog W = .ok (.slice (some ⟨W.heap.size, 0, none⟩) 14 14) (W.alloc (.cells (cellsOf 14 (fun _ => .int .u8 0)) 5)) := by
  have e : madeCells #[Value.int .u8 0] 14 = cellsOf 14 (fun _ => .int .u8 0) := by kernel_rfl
  rw [← e]
  exact run_make_row' 97 5 (.int .u8 0) 1 Try.underlying97 infoByte rfl .i64 .i64 14 (by decide) (by decide) W
theorem wr_getD (c : M.Cmd) (f : Int) (h : (c.wr f).map (fun x => x % 256) = c.nums f) (k : Nat) (hk : k < 13) : (c.nums f).getD k 0 = (c.wr f).getD k 0 % 256 := by
  rw [← h]
  simp only [List.getD_eq_getElem?_getD, List.getElem?_map]
  have : k < (c.wr f).length := hk
  rw [List.getElem?_eq_getElem this]; rfl
theorem sum_take (l : List Int) (k : Nat) (hk : k < l.length) : M.sum8 (l.take (k + 1)) = (M.sum8 (l.take k) + l.getD k 0) % 256 := by
  unfold M.sum8
  rw [List.take_succ_eq_append_getElem hk, List.sum_append, List.getD_eq_getElem?_getD, List.getElem?_eq_getElem hk]
  simp
theorem bytes_put (l : List Int) (i : Nat) (Y : Int) (hY : l.getD i 0 = Y) (k : Nat) : (if k = i then Value.int .u8 Y else .int .u8 (if k < i then l.getD k 0 else 0)) = .int .u8 (if k < i + 1 then l.getD k 0 else 0) := by
  by_cases e : k = i
  · subst e; rw [if_pos rfl, if_pos (by omega), hY]
  · rw [if_neg e]
    by_cases h : k < i
    · rw [if_pos h, if_pos (by omega)]
    · rw [if_neg h, if_neg (by omega)]

set_option maxRecDepth 100000 in
set_option maxHeartbeats 2000000 in
theorem written_true (c : M.Cmd) (w : World) (h : M.Fits c) (hf : c.fire = true) : Calls Try.prog 24 #[.int .i64 c.seq, .bool true, .agg #[.int .i64 c.mv.x, .int .i64 c.mv.y, .int .i64 c.mv.z], .agg #[.int .i64 c.aim.x, .int .i64 c.aim.y, .int .i64 c.aim.z], .int .i64 c.time] w fun e w' => e = .returned (.string c.pack) ∧ Below w.heap.size w w' := by
  have hF : M.fireN c.fire = 1 := by rw [hf]; rfl
  have hK := M.nums_sum c h
  have hR := M.nums_pack c h
  rw [hF] at hK hR
  obtain ⟨K, hK2⟩ : ∃ K, c.chk = K := ⟨_, rfl⟩
  rw [hK2] at hK hR
  have HK : Hid (M.sum8 (c.nums 1) = K) := hK
  have HR : Hid ((⟨((c.nums 1 ++ [K]).map M.b8).toArray⟩ : ByteArray) = c.pack) := hR
  have HB : Hid (∀ x ∈ c.nums 1, 0 ≤ x ∧ x ≤ 255) := M.nums_bd c h 1 (by omega) (by omega)
  have HW := hid (M.wr_nums c h 1 (by omega) (by omega))
  have HL : Hid ((c.nums 1).length = 13) := rfl
  obtain ⟨s1, s2, t1, t2, ⟨x1, x2, y1, y2, z1, z2⟩, ⟨u1, u2, v1, v2, k1, k2⟩⟩ := h
  clear hK hR hK2 hF
  have hmk := make14
  go_enter Try.func24, Try.ntmps24
  go_wp2_with fail
  go_loopg [14, 15] 14 (fun k u14 u15 wr => ∃ i : Nat, u15 = .int .i64 i ∧ i ≤ 13 ∧ k + i = 14 ∧ (∃ S : Int, u14 = .int .u8 S ∧ Hid (M.sum8 ((c.nums 1).take i) = S)) ∧ Hid (Blk wr (w.heap.size + 1 + 1) ((c.wr 1).map (Value.int .i64)).toArray 3) ∧ Hid (Blk wr (w.heap.size + 1 + 1 + 1) (cellsOf 14 (fun k => .int .u8 (if k < i then (c.nums 1).getD k 0 else 0))) 5) ∧ Hid (Below w.heap.size w wr))
  case atStart => exact ⟨0, rfl, by omega, rfl, ⟨0, rfl, rfl⟩, hid (Blk.alloc (Blk.new (by simp))), hid (Blk.new (by simp)), by unfold Hid; go_grown⟩
  case round =>
    clear hmk
    obtain ⟨i, rfl, hi, hk, ⟨S, rfl, HS⟩, QL, QB, BW⟩ := hrel
    by_cases hlt : i < 13
    · have i0 : (0 : Int) ≤ (i : Int) := by omega
      have i1 : (i : Int) < 13 := by omega
      have i2 : (i : Int) < 14 := by omega
      obtain ⟨X, hX⟩ : ∃ X, (c.wr 1).getD i 0 = X := ⟨_, rfl⟩
      have lX : wr.cell? ⟨w.heap.size + 1 + 1, i, none⟩ = some (.int .i64 X) := by rw [QL.out.cell i, row_i64 _ hlt, hX]
      have hY := hid (show (c.nums 1).getD i 0 = X % 256 from by rw [wr_getD c 1 HW.out i hlt, hX])
      have bX := QB.out.cellC i (by omega)
      have bf := QB.out.frozen
      have S2 := hid (show M.sum8 ((c.nums 1).take (i + 1)) = (S + X % 256) % 256 from by rw [sum_take _ _ hlt, HS.out, hY.out])
      have wz : IntKind.i64.wrap (i : Int) = (i : Int) := IntWalk.i64_in _ ⟨by omega, by omega⟩
      clear hX
      have QB2 := hid (((QB.out.setC i (.int .u8 (X % 256))).to (c' := fun k => .int .u8 (if k < i + 1 then (c.nums 1).getD k 0 else 0)) (fun k _ => bytes_put _ i _ hY.out k)))
      have QL2 := hid (QL.out.other (c := w.heap.size + 1 + 1 + 1) i (.int .u8 (X % 256)) (by omega))
      go_wp2
      go_roundg (gk - 1)
      case measure => omega
      case rel => exact ⟨i + 1, by go_num, by omega, by omega, ⟨_, rfl, S2⟩, QL2, QB2, by have := BW.out; unfold Hid; go_grown⟩
    · obtain rfl : i = 13 := by omega
      have i1 : ¬ (((13 : Nat) : Int) < 13) := by omega
      have hS : S = K := by rw [← HS.out, ← HK.out]; rfl
      subst hS
      have bX := QB.out.cellC 13 (by omega)
      have bf := QB.out.frozen
      have QB2 : Blk (wr.setCell ⟨w.heap.size + 1 + 1 + 1, 13, none⟩ (.int .u8 S)) (w.heap.size + 1 + 1 + 1) ((c.nums 1 ++ [S]).map (Value.int .u8)).toArray 5 := by
        have := QB.out.setC 13 (.int .u8 S)
        have e : cellsOf 14 (fun j => if j = 13 then Value.int .u8 S else .int .u8 (if j < 13 then (c.nums 1).getD j 0 else 0)) = ((c.nums 1 ++ [S]).map (Value.int .u8)).toArray := rfl
        rw [e] at this
        exact this
      have S01 : 0 ≤ S ∧ S ≤ 255 := by rw [← HS.out]; unfold M.sum8; omega
      have hcv := bytes_back QB2 (fun x hx => by rcases List.mem_append.1 hx with h | h; exact HB.out x h; have : x = S := by simpa using h
                                                 omega) 14 rfl
      clear QB2
      go_wp2
      go_ret
      exact ⟨congrArg (fun s => Ending.returned (.string s)) HR.out, by have := BW.out; go_grown⟩

set_option maxRecDepth 100000 in
set_option maxHeartbeats 2000000 in
theorem written_false (c : M.Cmd) (w : World) (h : M.Fits c) (hf : c.fire = false) : Calls Try.prog 24 #[.int .i64 c.seq, .bool false, .agg #[.int .i64 c.mv.x, .int .i64 c.mv.y, .int .i64 c.mv.z], .agg #[.int .i64 c.aim.x, .int .i64 c.aim.y, .int .i64 c.aim.z], .int .i64 c.time] w fun e w' => e = .returned (.string c.pack) ∧ Below w.heap.size w w' := by
  have hF : M.fireN c.fire = 0 := by rw [hf]; rfl
  have hK := M.nums_sum c h
  have hR := M.nums_pack c h
  rw [hF] at hK hR
  obtain ⟨K, hK2⟩ : ∃ K, c.chk = K := ⟨_, rfl⟩
  rw [hK2] at hK hR
  have HK : Hid (M.sum8 (c.nums 0) = K) := hK
  have HR : Hid ((⟨((c.nums 0 ++ [K]).map M.b8).toArray⟩ : ByteArray) = c.pack) := hR
  have HB : Hid (∀ x ∈ c.nums 0, 0 ≤ x ∧ x ≤ 255) := M.nums_bd c h 0 (by omega) (by omega)
  have HW := hid (M.wr_nums c h 0 (by omega) (by omega))
  have HL : Hid ((c.nums 0).length = 13) := rfl
  obtain ⟨s1, s2, t1, t2, ⟨x1, x2, y1, y2, z1, z2⟩, ⟨u1, u2, v1, v2, k1, k2⟩⟩ := h
  clear hK hR hK2 hF
  have hmk := make14
  go_enter Try.func24, Try.ntmps24
  go_wp2_with fail
  go_loopg [14, 15] 14 (fun k u14 u15 wr => ∃ i : Nat, u15 = .int .i64 i ∧ i ≤ 13 ∧ k + i = 14 ∧ (∃ S : Int, u14 = .int .u8 S ∧ Hid (M.sum8 ((c.nums 0).take i) = S)) ∧ Hid (Blk wr (w.heap.size + 1 + 1) ((c.wr 0).map (Value.int .i64)).toArray 3) ∧ Hid (Blk wr (w.heap.size + 1 + 1 + 1) (cellsOf 14 (fun k => .int .u8 (if k < i then (c.nums 0).getD k 0 else 0))) 5) ∧ Hid (Below w.heap.size w wr))
  case atStart => exact ⟨0, rfl, by omega, rfl, ⟨0, rfl, rfl⟩, hid (Blk.alloc (Blk.new (by simp))), hid (Blk.new (by simp)), by unfold Hid; go_grown⟩
  case round =>
    clear hmk
    obtain ⟨i, rfl, hi, hk, ⟨S, rfl, HS⟩, QL, QB, BW⟩ := hrel
    by_cases hlt : i < 13
    · have i0 : (0 : Int) ≤ (i : Int) := by omega
      have i1 : (i : Int) < 13 := by omega
      have i2 : (i : Int) < 14 := by omega
      obtain ⟨X, hX⟩ : ∃ X, (c.wr 0).getD i 0 = X := ⟨_, rfl⟩
      have lX : wr.cell? ⟨w.heap.size + 1 + 1, i, none⟩ = some (.int .i64 X) := by rw [QL.out.cell i, row_i64 _ hlt, hX]
      have hY := hid (show (c.nums 0).getD i 0 = X % 256 from by rw [wr_getD c 0 HW.out i hlt, hX])
      have bX := QB.out.cellC i (by omega)
      have bf := QB.out.frozen
      have S2 := hid (show M.sum8 ((c.nums 0).take (i + 1)) = (S + X % 256) % 256 from by rw [sum_take _ _ hlt, HS.out, hY.out])
      have wz : IntKind.i64.wrap (i : Int) = (i : Int) := IntWalk.i64_in _ ⟨by omega, by omega⟩
      clear hX
      have QB2 := hid (((QB.out.setC i (.int .u8 (X % 256))).to (c' := fun k => .int .u8 (if k < i + 1 then (c.nums 0).getD k 0 else 0)) (fun k _ => bytes_put _ i _ hY.out k)))
      have QL2 := hid (QL.out.other (c := w.heap.size + 1 + 1 + 1) i (.int .u8 (X % 256)) (by omega))
      go_wp2
      go_roundg (gk - 1)
      case measure => omega
      case rel => exact ⟨i + 1, by go_num, by omega, by omega, ⟨_, rfl, S2⟩, QL2, QB2, by have := BW.out; unfold Hid; go_grown⟩
    · obtain rfl : i = 13 := by omega
      have i1 : ¬ (((13 : Nat) : Int) < 13) := by omega
      have hS : S = K := by rw [← HS.out, ← HK.out]; rfl
      subst hS
      have bX := QB.out.cellC 13 (by omega)
      have bf := QB.out.frozen
      have QB2 : Blk (wr.setCell ⟨w.heap.size + 1 + 1 + 1, 13, none⟩ (.int .u8 S)) (w.heap.size + 1 + 1 + 1) ((c.nums 0 ++ [S]).map (Value.int .u8)).toArray 5 := by
        have := QB.out.setC 13 (.int .u8 S)
        have e : cellsOf 14 (fun j => if j = 13 then Value.int .u8 S else .int .u8 (if j < 13 then (c.nums 0).getD j 0 else 0)) = ((c.nums 0 ++ [S]).map (Value.int .u8)).toArray := rfl
        rw [e] at this
        exact this
      have S01 : 0 ≤ S ∧ S ≤ 255 := by rw [← HS.out]; unfold M.sum8; omega
      have hcv := bytes_back QB2 (fun x hx => by rcases List.mem_append.1 hx with h | h; exact HB.out x h; have : x = S := by simpa using h
                                                 omega) 14 rfl
      clear QB2
      go_wp2
      go_ret
      exact ⟨congrArg (fun s => Ending.returned (.string s)) HR.out, by have := BW.out; go_grown⟩

theorem written_any (c : M.Cmd) (w : World) (h : M.Fits c) : Calls Try.prog 24 #[.int .i64 c.seq, .bool c.fire, .agg #[.int .i64 c.mv.x, .int .i64 c.mv.y, .int .i64 c.mv.z], .agg #[.int .i64 c.aim.x, .int .i64 c.aim.y, .int .i64 c.aim.z], .int .i64 c.time] w fun e w' => e = .returned (.string c.pack) ∧ Below w.heap.size w w' := by
  cases hf : c.fire
  · exact written_false c w h hf
  · exact written_true c w h hf

end Go.Proofs.Ytonmihojfcjmjab

/- Games of two: what a tick does. No memory in sight. -/
namespace Go.Proofs.Ytonmihojfcjmjab.M
set_option linter.unusedVariables false

theorem notes_at (g : PGame) (ls : List Lf) {k : Nat} (hk : k < 8) : (g.notes ls).seat k = (((g.seat k).revived (g.tick + 1)).obeyed ls).note (g.tick + 1) := by
  unfold PGame.notes PGame.walks PGame.backs
  rw [PGame.map_in _ _ hk, PGame.map_in _ _ hk, PGame.map_in _ _ hk]; rfl
theorem orders_at (g : PGame) {k : Nat} (hk : k < 8) : g.orders k = ((g.seat k).revived (g.tick + 1)).order := by
  unfold PGame.orders PGame.backs
  rw [PGame.map_in _ _ hk]; rfl
theorem revived_live {s : PSeat} {t : Int} (h : 0 < s.health) : s.revived t = s := by unfold PSeat.revived; rw [if_neg (fun e => e.2.1 h)]
theorem revived_free {s : PSeat} {t : Int} (h : s.taken = false) : s.revived t = s := by unfold PSeat.revived; rw [if_neg (fun e => by rw [h] at e; cases e.1)]
theorem obeyed_none {s : PSeat} {ls : List Lf} (h : s.waiting = 0) : s.obeyed ls = s := by unfold PSeat.obeyed; rw [if_pos h]
theorem order_none {s : PSeat} (h : s.waiting = 0) : s.order = Cmd.nought := by unfold PSeat.order; rw [if_pos h]
theorem note_dead {s : PSeat} {t : Int} (h : s.health = 0) : s.note t = s := by unfold PSeat.note; rw [if_neg (by omega)]

theorem shootTo_one (g : PGame) (ls : List Lf) (cm : Nat → Cmd) (i : Nat) (h : ∀ k, k < 8 → k ≠ i → (cm k).fire = false) : ∀ n, n ≤ 8 → g.shootTo ls cm n = if i < n ∧ (cm i).fire = true then g.shoot ls i (cm i) else g
  | 0, _ => by rw [if_neg (by omega)]; rfl
  | n + 1, hn => by
    have ih := shootTo_one g ls cm i h n (by omega)
    show (if (cm n).fire = true then (g.shootTo ls cm n).shoot ls n (cm n) else g.shootTo ls cm n) = _
    by_cases e : n = i
    · subst e
      rw [ih, if_neg (show ¬ (n < n ∧ _) by omega)]
      by_cases f : (cm n).fire = true
      · rw [if_pos f, if_pos ⟨by omega, f⟩]
      · rw [if_neg f, if_neg (fun x => f x.2)]
    · rw [h n (by omega) e, if_neg (by decide), ih]
      by_cases f : i < n ∧ (cm i).fire = true
      · rw [if_pos f, if_pos ⟨by omega, f.2⟩]
      · rw [if_neg f, if_neg (fun x => f ⟨by omega, x.2⟩)]

/-- Of two the other is found, or none. -/
theorem firstTo_two (g : PGame) (sh v : Nat) (p d : V3) (t : Int) (hvs : v ≠ sh) (hv : 0 < (g.seat v).health) (ho : ∀ k, k < 8 → k ≠ sh → k ≠ v → ¬ 0 < (g.seat k).health) : ∀ n, n ≤ 8 →
    g.firstTo sh p d t n = if v < n ∧ (hitAt p d ((g.seat v).poseAt t)).isSome = true then (v, hitAt p d ((g.seat v).poseAt t)) else (0, Option.none)
  | 0, _ => by rw [if_neg (by omega)]; rfl
  | n + 1, hn => by
    have ih := firstTo_two g sh v p d t hvs hv ho n (by omega)
    show g.look sh p d t n (g.firstTo sh p d t n) = _
    unfold PGame.look
    by_cases e : n = v
    · subst e
      rw [if_neg (by simp [hvs, hv]), ih, if_neg (show ¬ (n < n ∧ _) by omega)]
      cases hh : hitAt p d ((g.seat n).poseAt t) with
      | none => rw [if_neg (by simp [Hit.ahead]), if_neg (by simp)]
      | some x => obtain ⟨a, k, dd⟩ := x; rw [if_pos (by simp [Hit.ahead]), if_pos ⟨by omega, rfl⟩]
    · rw [if_pos ?_, ih]
      · by_cases f : v < n ∧ (hitAt p d ((g.seat v).poseAt t)).isSome = true
        · rw [if_pos f, if_pos ⟨by omega, f.2⟩]
        · rw [if_neg f, if_neg (fun x => f ⟨by omega, x.2⟩)]
      · by_cases e2 : n = sh
        · exact .inl e2
        · exact .inr (ho n (by omega) e2 e)

/-- What one shot of two costs the other. -/
noncomputable def cost (ls : List Lf) (p d q : V3) : Int := match hitAt p d q with
  | Option.none => 0
  | some (a, k, x) => if reachB (entO (US p d ls)) a k = true then x else 0
theorem hurt_le {s : PSeat} {x t : Int} (h : x < s.health) : s.hurt x t = { s with health := s.health - x } := by unfold PSeat.hurt; rw [if_pos h]

theorem put_seat (g : PGame) (i : Nat) (s : PSeat) (k : Nat) : (g.put i s).seat k = if k = i then s else g.seat k := rfl

/-- A shot among two, where the other has much health. -/
theorem shoot_two (g : PGame) (ls : List Lf) (i v : Nat) (c : Cmd) (hi : i < 8) (hv8 : v < 8) (hvs : v ≠ i) (hcan : g.canShoot i = true) (hv : 60 < (g.seat v).health) (ho : ∀ k, k < 8 → k ≠ i → k ≠ v → ¬ 0 < (g.seat k).health) :
    g.shoot ls i c = (g.put i ((g.seat i).spent g.tick)).put v { g.seat v with health := (g.seat v).health - cost ls (g.seat i).place (wayP c.aim) ((g.seat v).poseAt (timeP g.tick c.time)) } := by
  unfold PGame.shoot
  rw [if_pos hcan]
  have e1 : (g.put i ((g.seat i).spent g.tick)).seat v = g.seat v := PGame.put_ne _ _ hvs
  rw [firstTo_two (g.put i ((g.seat i).spent g.tick)) i v (g.seat i).place (wayP c.aim) (timeP g.tick c.time) hvs (by rw [e1]; omega) (fun k hk h1 h2 => by rw [PGame.put_ne _ _ h1]; exact ho k hk h1 h2) 8 (by omega), e1]
  have self : ∀ (x : Int), x = 0 → ({ g.seat v with health := (g.seat v).health - x } : PSeat) = g.seat v := fun x hx => by subst hx; rw [Int.sub_zero]
  have same : (g.put i ((g.seat i).spent g.tick)).put v (g.seat v) = g.put i ((g.seat i).spent g.tick) := by
    unfold PGame.put
    congr 1
    funext k
    by_cases e : k = v
    · subst e; simp [hvs]
    · simp [e]
  unfold cost
  cases hh : hitAt (g.seat i).place (wayP c.aim) ((g.seat v).poseAt (timeP g.tick c.time)) with
  | none =>
    rw [if_neg (by simp)]
    show g.put i ((g.seat i).spent g.tick) = _
    rw [self 0 rfl, same]
  | some x =>
    obtain ⟨a, k, x⟩ := x
    rw [if_pos ⟨hv8, rfl⟩]
    show (if reachB (entO (US (g.seat i).place (wayP c.aim) ls)) a k = true then (g.put i ((g.seat i).spent g.tick)).put v (((g.put i ((g.seat i).spent g.tick)).seat v).hurt x g.tick) else g.put i ((g.seat i).spent g.tick)) = _
    have hx : x = 25 ∨ x = 60 := hitAt_dmg hh
    by_cases hr : reachB (entO (US (g.seat i).place (wayP c.aim) ls)) a k = true
    · rw [if_pos hr, e1, hurt_le (by omega)]
      simp only [hr, if_true]
    · rw [if_neg hr]
      exact same.symm.trans (congrArg (fun s => (g.put i ((g.seat i).spent g.tick)).put v s) (self _ (if_neg hr)).symm)

/-- What a packet of a command is. -/
theorem dec_pack {c : Cmd} (h : Fits c) : decR c.pack = c ∧ decE c.pack = 0 := by
  have e : decC c.pack = c := rd_pack c h
  have ok : okB c.pack = true := by
    unfold okB
    rw [e]
    simp only [Bool.and_eq_true, decide_eq_true_eq]
    exact ⟨⟨pack_size c, (fitsB_iff c).2 h⟩, trivial⟩
  refine ⟨?_, ?_⟩
  · unfold decR; rw [if_pos ok, e]
  · unfold decE; rw [if_neg (by rw [pack_size]; omega), if_pos ok]

theorem boxX {p lo hi : V3} {D : Int} (x : Int) (hp : p.Near) (hd : (⟨D, 0, 0⟩ : V3).Near) (hl : lo.Near) (hh : hi.Near) (hD : 1 ≤ D) (hb : lo.x ≤ hi.x) :
    (¬ xMeets p lo hi D → boxHit p ⟨D, 0, 0⟩ lo hi x = Option.none) ∧ (xMeets p lo hi D → ∃ n e, boxHit p ⟨D, 0, 0⟩ lo hi x = some (n, e, x) ∧ 1 ≤ e ∧ n * D = xWay p lo * e) := by
  obtain ⟨f, n, e, h⟩ := ent_exists hp hd hl hh
  have s := segX hD hb h.toG
  have b : boxHit p ⟨D, 0, 0⟩ lo hi x = (if f = true then some (n, e) else Option.none).map (fun q => (q.1, q.2, x)) := by unfold boxHit; rw [entO_is h.toG]
  refine ⟨fun hn => ?_, fun hm => ?_⟩
  · have : f = false := by cases f; rfl; exact absurd (s.1.1 rfl) hn
    subst this; rw [b]; rfl
  · have : f = true := s.1.2 hm
    subst this
    exact ⟨n, e, by rw [b]; rfl, (h.yes rfl).2.1, s.2 rfl⟩

end Go.Proofs.Ytonmihojfcjmjab.M

/- Contracts of the statements' helpers: pick, off, pairOf. -/
namespace Go.Proofs.Ytonmihojfcjmjab
open Go.RowKit
set_option linter.unusedVariables false
attribute [local go_sem] cell_set_off cell_set_blk

set_option maxHeartbeats 1000000 in
theorem kpick_any (c n : Int) (w : World) (h1 : -9223372036854775808 ≤ c) (h2 : c ≤ 9223372036854775807) (n1 : 1 ≤ n) (n2 : n ≤ 1000000000) :
    Calls Try.prog 13 #[.int .i64 c, .int .i64 n] w fun e w' => (∃ r : Int, e = .returned (.int .i64 r) ∧ 0 ≤ r ∧ r < n) ∧ w' = w := by
  have n0 : (n == 0) = false := by simp; omega
  by_cases h : c < 0
  · go_enter Try.func13, Try.ntmps13
    go_wp2
    go_ret
    exact ⟨⟨_, rfl, (tmod_pick (by omega) h).1, (tmod_pick (by omega) h).2⟩, rfl⟩
  · go_enter Try.func13, Try.ntmps13
    go_wp2
    go_ret
    exact ⟨⟨_, rfl, Int.emod_nonneg _ (by omega), Int.emod_lt_of_pos _ (by omega)⟩, rfl⟩

theorem snap_head (g : M.PGame) (ls : List M.Lf) (ps : Nat → Bool) (i : Nat) : ∃ n, g.snap ls ps i = [83, M.b8 g.tick, M.b8 (g.tick / 256), M.b8 i, M.b8 (g.seat i).liveN, M.b8 (g.seat i).health, M.b8 (g.seat i).ammo, M.b8 ((g.seat i).cooling g.tick), n] ++ g.rows ls ps i 8 0 := ⟨_, rfl⟩
theorem rows_len (g : M.PGame) (ls : List M.Lf) (ps : Nat → Bool) (i : Nat) : ∀ n j, j ≤ i → i < j + n → 9 ≤ (g.rows ls ps i n j).length
  | 0, j, h1, h2 => by omega
  | n + 1, j, h1, h2 => by
    unfold M.PGame.rows
    rw [List.length_append]
    by_cases e : j = i
    · subst e
      rw [if_pos (by unfold M.PGame.toldB; simp)]
      have : ((g.seat j).row j).length = 9 := rfl
      omega
    · have := rows_len g ls ps i n (j + 1) (by omega) (by omega)
      omega

theorem duel_ok {p q : M.V3} (hp : M.InB M.cubeLo M.cubeHi p) (hq : M.InB M.cubeLo M.cubeHi q) : (M.duel p q).Ok := by
  unfold M.duel
  have f := M.PGame.Ok.fresh
  exact (f.put ((M.PSeat.Ok.empty (by decide) (by decide)).give hp) (by show (0 : Int) ≤ 0 + 3; decide)).put ((M.PSeat.Ok.empty (by decide) (by decide)).give hq) (by show (0 : Int) ≤ 0 + 3; decide)

theorem pairOf_sv (s : ByteArray) (p q : M.V3) (w : World) (hm : s.size ≤ 512) (he : M.errS s = (0, 0)) (ls : List M.Lf) (hls : (M.top s).2.leaves = ls) (hl : ls.length ≤ 512) (hc : ∀ l ∈ ls, l.lo.Cub ∧ l.hi.Cub) (hp : (M.inCube p && decide (0 ≤ M.zP p ls (-1))) = true) (hq : (M.inCube q && decide (0 ≤ M.zP q ls (-1))) = true) :
    Calls Try.prog 14 #[.string s, .agg #[.int .i64 p.x, .int .i64 p.y, .int .i64 p.z], .agg #[.int .i64 q.x, .int .i64 q.y, .int .i64 q.z]] w fun e w' => Below w.heap.size w w' ∧ ∃ (b : Nat) (v : Value), e = .returned (.tuple #[.pointer (some ⟨b, 0, none⟩), .bool true]) ∧ w.heap.size ≤ b ∧ Sv w' b v ls (M.prs s) (M.duel p q) ∧ ∀ k, v.ownBlock = some k → w.heap.size ≤ k := by
  refine (pairOf_any s p q w hm he ls hls hl hp hq).mono ?_
  rintro e w' ⟨hb, b, x, n, cap, rfl, hP, hO, h1, h2⟩
  have ip : M.InB M.cubeLo M.cubeHi p := (M.inCube_iff _).1 (Bool.and_eq_true _ _ ▸ hp).1
  have iq : M.InB M.cubeLo M.cubeHi q := (M.inCube_iff _).1 (Bool.and_eq_true _ _ ▸ hq).1
  exact ⟨hb, b, .slice x n cap, rfl, h1, ⟨⟨x, n, cap, rfl⟩, hP, hO, fun k hk => (h2 k hk).1, hl, hc, duel_ok ip iq⟩, fun k hk => (h2 k hk).2⟩

set_option maxHeartbeats 1000000 in
theorem koff_any (a b : Int) (w : World) (a1 : -100000 ≤ a) (a2 : a ≤ 100000) (b1 : -100000 ≤ b) (b2 : b ≤ 100000) (R : Int) (hR : Hid ((if a < b then b - a else a - b) = R)) :
    Calls Try.prog 22 #[.int .i64 a, .int .i64 b] w fun e w' => e = .returned (.int .i64 R) ∧ w' = w := by
  by_cases h : a < b
  · obtain rfl : b - a = R := by rw [← hR.out, if_pos h]
    clear hR
    go_enter Try.func22, Try.ntmps22
    go_wp2
    go_ret
    exact ⟨rfl, rfl⟩
  · obtain rfl : a - b = R := by rw [← hR.out, if_neg h]
    clear hR
    go_enter Try.func22, Try.ntmps22
    go_wp2
    go_ret
    exact ⟨rfl, rfl⟩

end Go.Proofs.Ytonmihojfcjmjab
