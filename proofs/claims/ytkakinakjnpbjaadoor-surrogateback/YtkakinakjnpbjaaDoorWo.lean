/- The walk of TextBack. -/
import Derived.Test.YtkakinakjnpbjaaDoorWm
namespace Go.Proofs.YtkakinakjnpbjaaDoor
set_option linter.unusedVariables false
set_option maxRecDepth 100000
set_option linter.unusedSimpArgs false
open Go.RowKit

theorem quote_back {s : ByteArray} (h : ctlB s = false) : uS ⟨(quoteL s.data.toList).toArray⟩ = s ∧ uE ⟨(quoteL s.data.toList).toArray⟩ = 0 := by
  have hq : quoB ⟨(quoteL s.data.toList).toArray⟩ = true := quote_quoted h
  unfold uS uE
  rw [hq]
  refine ⟨bytes_ext ?_, rfl⟩
  show unescL (midL (quoteL s.data.toList)) = _
  rw [quote_mid, unesc_esc]
theorem quote_size (s : ByteArray) : (⟨(quoteL s.data.toList).toArray⟩ : ByteArray).size ≤ 2 * s.size + 2 := by
  rw [← size_list]
  have := escL_le s.data.toList
  rw [size_list] at this
  simp [quoteL]
  omega
theorem quote_split {s : ByteArray} {b : UInt8} (h1 : b ≠ 34) (h2 : b ≠ 92) : spP b ⟨(quoteL s.data.toList).toArray⟩ = [quoteL s.data.toList] ∧ spE b ⟨(quoteL s.data.toList).toArray⟩ = 0 := by
  apply sp_okay
  rw [split_of h1 h2]
  exact quote_one h1
theorem split_bad {s : ByteArray} {b : UInt8} (h : b = 34 ∨ b = 92) : spP b s = [] ∧ spE b s = 11 := sp_err (by rw [splitL, if_pos h])

end Go.Proofs.YtkakinakjnpbjaaDoor
