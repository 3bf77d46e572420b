/- The walks of what adds a field: the program's, by the library's joining of rows, and the document's own. -/
import Derived.Test.YtplanlhgcckioaaWp
namespace Go.Proofs.Ytplanlhgcckioaa
set_option linter.unusedVariables false
set_option linter.unusedSimpArgs false
set_option maxRecDepth 100000
open Go.RowKit

theorem Row.slice {w : World} {v : Value} {L : List Fd} (h : Row w v L) : ∃ a cap, v = .slice a L.length cap := by
  obtain ⟨a, cap, rfl, -⟩ := h; exact ⟨a, cap, rfl⟩

/-- What adding a field makes of a row, and the word for it. -/
def addE (L : List Fd) (f : Fd) : Nat := if rightF L && mayF f then (if L.length = 40 then 4 else 0) else 1
def addL (L : List Fd) (f : Fd) : List Fd := if rightF L && mayF f then (if L.length = 40 then [] else L ++ [f]) else []
theorem add_arg {L : List Fd} {f : Fd} (h : (rightF L && mayF f) = false) : addE L f = 1 ∧ addL L f = [] := by
  unfold addE addL; rw [h]; exact ⟨rfl, rfl⟩
theorem add_many {L : List Fd} {f : Fd} (h : (rightF L && mayF f) = true) (g : L.length = 40) : addE L f = 4 ∧ addL L f = [] := by
  unfold addE addL; rw [h, g]; exact ⟨rfl, rfl⟩
theorem add_okay {L : List Fd} {f : Fd} (h : (rightF L && mayF f) = true) (g : L.length ≠ 40) : addE L f = 0 ∧ addL L f = L ++ [f] := by
  unfold addE addL; rw [h, if_pos rfl, if_pos rfl, if_neg g, if_neg g]; exact ⟨rfl, rfl⟩

theorem ret_row {v v' : Value} {b d : Int} (h : v = v') (g : b = d) : Ending.returned (.tuple #[v, .int .i64 b]) = .returned (.tuple #[v', .int .i64 d]) := by rw [h, g]

end Go.Proofs.Ytplanlhgcckioaa
