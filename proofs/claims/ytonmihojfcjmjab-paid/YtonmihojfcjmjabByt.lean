import Derived.Test.YtonmihojfcjmjabRows
import Derived.Test.YtonmihojfcjmjabBM
import Derived.Test.YtonmihojfcjmjabBK
import Derived.Handy
import Derived.WalkKit
import Derived.Laws.IdiomStrings
/- Bytes back to a string. -/
namespace Go.Proofs.Ytonmihojfcjmjab
open Go.RowKit

theorem bytes_back {W : World} {g : Nat} {xs : List Int} (q : Blk W g (xs.map (Value.int .u8)).toArray 5) (h : ∀ x ∈ xs, 0 ≤ x ∧ x ≤ 255) (n : Nat) (hn : xs.length = n) :
    (convert 97 9 (.slice (some ⟨g, 0, none⟩) n n)).run Try.prog W = .ok (.string ⟨(xs.map M.b8).toArray⟩) W := by
  have e : (xs.map M.b8).length = n := by simpa using hn
  have := run_convert_bytes_back (P := Try.prog) W 97 9 5 ⟨g, 0, none⟩ n (xs.map M.b8) Try.underlying97 Try.underlying5 Try.underlying9 (fun j hj => by
    have hj' : j < xs.length := by simpa using hj
    have c := q.cell j
    have hx := h xs[j] (List.getElem_mem hj')
    have e1 : ((xs.map M.b8)[j].toNat : Int) = xs[j] := by rw [List.getElem_map]; exact M.b8_lt _ hx.1 (by omega)
    rw [e1]
    have c2 : W.cell? ⟨g, j, none⟩ = some (.int .u8 xs[j]) := by rw [c]; simp [hj']
    by_cases h0 : j = 0
    · subst h0; simpa [Addr.add] using c2
    · simpa [Addr.add, h0] using c2)
  rw [e] at this
  exact this

theorem app_list (a b : ByteArray) : (a ++ b).data.toList = a.data.toList ++ b.data.toList := by simp

theorem ret_str2 {a b : ByteArray} {v : Value} (h : a = b) : Ending.returned (.tuple #[.string a, v]) = .returned (.tuple #[.string b, v]) := by rw [h]
theorem of_list {a : ByteArray} {xs : List UInt8} (h : a.data.toList = xs) : a = ⟨xs.toArray⟩ := by rw [← h]
end Go.Proofs.Ytonmihojfcjmjab
