/- The walks of the loops that ask a set. -/
import Derived.Test.YtjegoceebdiaaaaDoorWa
namespace Go.Proofs.YtjegoceebdiaaaaDoor
set_option linter.unusedVariables false
set_option linter.unusedSimpArgs false
open Go.RowKit

/-- The control bytes below k. -/
def ct (k : Nat) : List UInt8 := ((List.range k).filter (fun i => i != 9)).map UInt8.ofNat
theorem ct_zero : ct 0 = [] := rfl
theorem ct_yes {k : Nat} (h : k ≠ 9) : ct (k + 1) = ct k ++ [UInt8.ofNat k] := by
  unfold ct
  rw [List.range_succ, List.filter_append, List.filter_cons, if_pos (by simpa using h), List.map_append]; rfl
theorem ct_no : ct (9 + 1) = ct 9 := by decide
theorem ct_end : ct 32 ++ [127] = ctrlL := by decide
theorem set_same (a : Array Value) (i : Nat) (v : Value) (h : a[i]? = some v) : a.setIfInBounds i v = a := by
  obtain ⟨h1, h2⟩ := Array.getElem?_eq_some_iff.1 h
  apply Array.ext
  · simp
  · intro j h3 h4
    rw [Array.getElem_setIfInBounds]
    split
    · rename_i e; subst e; exact h2.symm
    · rfl
theorem ct_nine : (Lib.setCells (ct 9)).setIfInBounds 9 (.bool false) = Lib.setCells (ct (9 + 1)) := by
  rw [ct_no]
  exact set_same _ _ _ (Lib.setCells_at (ct 9) 9)
theorem ct_store {k : Nat} (h : k ≠ 9) (hk : k < 32) : (Lib.setCells (ct k)).setIfInBounds k (.bool true) = Lib.setCells (ct (k + 1)) := by
  rw [ct_yes h, Lib.setCells_snoc]
  congr 1
  simp; omega
theorem ct_last : (Lib.setCells (ct 32)).setIfInBounds 127 (.bool true) = Lib.setCells ctrlL := by
  rw [← ct_end, Lib.setCells_snoc]; rfl

/-- The set lies in block B, and below it nothing has turned. -/
def Lies (w : World) (l : List UInt8) (w' : World) : Prop := w'.heap[w.heap.size]? = some (.cells (Lib.setCells l) 70 (0, 0)) ∧ Below w.heap.size w w'
theorem Lies.lt {w w' : World} {l : List UInt8} (h : Lies w l w') : w.heap.size < w'.heap.size := (Array.getElem?_eq_some_iff.1 h.1).1
theorem Lies.below {w w1 w2 : World} {l : List UInt8} (h : Lies w l w1) (hb : Below w1.heap.size w1 w2) : Lies w l w2 := ⟨(hb.block _ h.lt).trans h.1, h.2.trans (hb.mono h.2.size)⟩
theorem Lies.load {w w' : World} {l : List UInt8} (h : Lies w l w') {N : Nat} (hN : (Lib.setCells l).size = N) : Sem.run Tryd.prog (loadCellsFrom ⟨w.heap.size, 0, none⟩ 0 N #[]) w' = .ok (Lib.setCells l) w' := load_row _ _ _ _ _ h.1 N hN
theorem Lies.range {w w' : World} {l : List UInt8} (h : Lies w l w') : w'.rangeAt w.heap.size 0 (Lib.setCells l).toList := fun j v hv => by
  rw [Nat.zero_add, cell_of_row _ _ j _ _ _ h.1]
  simpa using hv
theorem Lies.drew {w w' : World} {l : List UInt8} (h : Lies w l w') : Lies w l w'.drew := ⟨h.1, h.2.drew⟩
theorem len39 (l : List UInt8) : (Tryd.prog.info? 70).map (·.size) = some (Lib.setCells l).toList.length := by
  rw [Array.length_toList, Lib.setCells_size]; exact size39
theorem Lies.new (w : World) (l : List UInt8) : Lies w l (w.alloc (.cells (Lib.setCells l) 70)) := ⟨heap_alloc_new w _, one_alloc _ _ _⟩
theorem Lies.drewN {w w' : World} {l : List UInt8} (h : Lies w l w') (n : Nat) : Lies w l (w'.drewN n) := ⟨h.1, ⟨h.2.os, h.2.tape, h.2.output, h.2.size, h.2.block⟩⟩

end Go.Proofs.YtjegoceebdiaaaaDoor
