/- Two players: their snapshots as the statement spells them. -/
import Derived.Test.YtonmihojfcjmjaaSe2
namespace Go.Proofs.Ytonmihojfcjmjaa
open Go.RowKit
namespace M

def lit (i n : Int) : ByteArray := ⟨#[b8 83, b8 0, b8 0, b8 i, b8 1, b8 100, b8 6, b8 0, b8 n]⟩
theorem lit_list (i n : Int) : (lit i n).data.toList = [b8 83, b8 0, b8 0, b8 i, b8 1, b8 100, b8 6, b8 0, b8 n] := rfl

theorem mine_no (a b : V3) (ls : List Lf) (ps : Nat → Bool) (h : showsP ls ps (seat1 a) (seat1 b) = false) :
    (⟨((duel a b).snap ls ps 0).toArray⟩ : ByteArray) = lit 0 1 ++ ⟨(((PSeat.empty 0).give a).row 0).toArray⟩ := by
  symm
  apply of_list
  rw [snap_0 a b ls ps false h, app_list, lit_list]
  rfl
theorem theirs_no (a b : V3) (ls : List Lf) (ps : Nat → Bool) (h : showsP ls ps (seat1 b) (seat1 a) = false) :
    (⟨((duel a b).snap ls ps 1).toArray⟩ : ByteArray) = lit 1 1 ++ ⟨(((PSeat.empty 0).give b).row 1).toArray⟩ := by
  symm
  apply of_list
  rw [snap_1 a b ls ps false h, app_list, lit_list]
  rfl
theorem mine_yes (a b : V3) (ls : List Lf) (ps : Nat → Bool) (h : showsP ls ps (seat1 a) (seat1 b) = true) :
    (⟨((duel a b).snap ls ps 0).toArray⟩ : ByteArray) = lit 0 2 ++ ⟨(((PSeat.empty 0).give a).row 0).toArray⟩ ++ ⟨(((PSeat.empty 0).give b).row 1).toArray⟩ := by
  symm
  apply of_list
  rw [snap_0 a b ls ps true h, app_list, app_list, lit_list]
  rfl
theorem theirs_yes (a b : V3) (ls : List Lf) (ps : Nat → Bool) (h : showsP ls ps (seat1 b) (seat1 a) = true) :
    (⟨((duel a b).snap ls ps 1).toArray⟩ : ByteArray) = lit 1 2 ++ ⟨(((PSeat.empty 0).give a).row 0).toArray⟩ ++ ⟨(((PSeat.empty 0).give b).row 1).toArray⟩ := by
  symm
  apply of_list
  rw [snap_1 a b ls ps true h, app_list, app_list, lit_list]
  rfl

end M
end Go.Proofs.Ytonmihojfcjmjaa
