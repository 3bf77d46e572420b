/- The walks of the functions on sets of bytes. -/
import Derived.Test.YtjegoceebdiaaaaProg
import Derived.Test.YtjegoceebdiaaaaMa
import Derived.Test.YtjegoceebdiaaaaCm
import Derived.Laws.CopyOwn
namespace Go.Proofs.Ytjegoceebdiaaaa
set_option linter.unusedVariables false
set_option linter.unusedSimpArgs false
open Go.RowKit

theorem one_alloc (w : World) (c : Array Value) (t : TypeId) : Below w.heap.size w (w.alloc (.cells c t)) := (Below.refl _ _).alloc (Nat.le_refl _) _

theorem hide {p : Prop} (h : p) : Hid p := h

/-- A whole array out of its block, and into it. -/
theorem load_row (w : World) (g : Nat) (c : Array Value) (t : TypeId) (fr : Nat × Nat) (hg : w.heap[g]? = some (.cells c t fr)) (N : Nat) (hN : c.size = N) :
    Sem.run Try.prog (loadCellsFrom ⟨g, 0, none⟩ 0 N #[]) w = .ok c w := by
  subst hN
  have := run_loadCells_list (P := Try.prog) w ⟨g, 0, none⟩ c.toList (fun j v hv => by
    rw [add_none, Nat.zero_add, cell_of_row _ _ j c t fr hg]
    simpa using hv)
  simpa [loadCells] using this
theorem take_snoc (l : List UInt8) (k : Nat) (h : k < l.length) : l.take (k + 1) = l.take k ++ [l[k]] := by
  rw [List.take_succ_eq_append_getElem h]
theorem get_at (s : ByteArray) (k : Nat) (h : k < s.size) : s.data.toList[k]'(by simpa using h) = s[k] := by
  simp; rfl

end Go.Proofs.Ytjegoceebdiaaaa
