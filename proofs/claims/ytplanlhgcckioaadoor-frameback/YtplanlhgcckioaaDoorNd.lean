/- The walks of the document's own readings. -/
import Derived.Test.YtplanlhgcckioaaDoorNb
namespace Go.Proofs.YtplanlhgcckioaaDoor
set_option linter.unusedVariables false
set_option linter.unusedSimpArgs false
set_option maxRecDepth 100000
open Go.RowKit

theorem head_minus (s : ByteArray) (h : 0 < s.size) : s.data.toList.head? = some s[0] := by
  rw [List.head?_eq_getElem?, List.getElem?_eq_getElem (by simpa using h), get_at s 0 h]

end Go.Proofs.YtplanlhgcckioaaDoor
