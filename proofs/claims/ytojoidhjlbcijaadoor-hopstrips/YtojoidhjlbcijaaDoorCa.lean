/- Where a byte stands first, by the library; texts of lists of bytes; cells that stay. -/
import Derived.Test.YtojoidhjlbcijaaDoorMb
import Derived.Test.YtojoidhjlbcijaaDoorWn
import Derived.Test.YtojoidhjlbcijaaDoorShelfI
import Derived.Lib.AppendStr
import Derived.RangeFuncNested
import Derived.RangeFuncBound
import Derived.RangeFuncCalls
import Derived.RangeFuncLeaves
import Derived.RangeFuncBox
import Derived.OwnWalkIn
namespace Go.Proofs.YtojoidhjlbcijaaDoor
set_option linter.unusedVariables false
set_option linter.unusedSimpArgs false
open Go.RowKit Go.Shelf

/-- Where c stands first; -1: nowhere. -/
def ixI (c : UInt8) (l : List UInt8) : Int := if atN c l < l.length then (atN c l : Int) else -1
theorem indexByte_ix (c : UInt8) : ∀ l : List UInt8, Lib.indexByte l c = ixI c l
  | [] => by simp [Lib.indexByte, ixI, atN]
  | b :: l => by
    have ih := indexByte_ix c l
    rw [Lib.indexByte, ih]
    unfold ixI atN
    rw [List.takeWhile_cons]
    by_cases h : b = c
    · subst h; simp [neB]
    · have h1 : (b == c) = false := by simpa using h
      have h2 : neB c b = true := by simpa [neB] using h
      rw [h1, h2]
      simp only [Bool.false_eq_true, if_false, if_true, List.length_cons]
      by_cases g : (l.takeWhile (neB c)).length < l.length
      · have e : (((l.takeWhile (neB c)).length : Int) == -1) = false := by rw [beq_eq_false_iff_ne]; omega
        have g' : (l.takeWhile (neB c)).length + 1 < l.length + 1 := by omega
        simp only [g, g', e, if_true, Bool.false_eq_true, if_false]
        omega
      · have g' : ¬ (l.takeWhile (neB c)).length + 1 < l.length + 1 := by omega
        simp [g, g']

/-- A text of a list of bytes. -/
def bs (l : List UInt8) : ByteArray := ⟨l.toArray⟩
theorem bs_list (l : List UInt8) : (bs l).data.toList = l := by simp [bs]
theorem bs_size (l : List UInt8) : (bs l).size = l.length := by rw [← size_list, bs_list]
theorem bs_of {s : ByteArray} {l : List UInt8} (h : s.data.toList = l) : s = bs l := by
  apply bytes_ext; rw [bs_list]; exact h
theorem boxed_below {W W' : World} {B n₀ : Nat} {t : TypeId} {v : Value} (h : Boxed W B t v) (hb : Below W.heap.size W W') : Boxed W' B t v := (hb.block B h.lt).trans h
theorem keeps_below {W W' : World} (h : Below W.heap.size W W') : KeepsOthers W W' := ⟨h.size, fun k o hk _ => (h.block k (Array.getElem?_eq_some_iff.1 hk).1).trans hk⟩
theorem put_box {W : World} {B D : Nat} {t : TypeId} {v : Value} {o o' : Obj} (h : Boxed W B t v) (hK : W.heap[D]? = some o) (ho : o.isCells = false) : Boxed (W.putObj D o') B t v := by
  have hne : D ≠ B := fun e => by subst e; rw [show W.heap[D]? = _ from h] at hK; cases hK; cases ho
  exact (World.putObj_heap_other (fun e => hne e.symm)).trans h
theorem bs_toList (l : List UInt8) : (bs l).toList = l := by rw [ByteArray.toList_eq, bs_list]
theorem boxed_grown {W W' : World} {row : Option Nat} {B : Nat} {t : TypeId} {v : Value} (h : Boxed W B t v) (hg : W.grownBy W' row) (hr : ∀ r, row = some r → ∃ o : Obj, W.heap[r]? = some o ∧ o.isCells = false) : Boxed W' B t v :=
  h.kept hg (fun e => by obtain ⟨o, ho, hc⟩ := hr B e.symm; rw [show W.heap[B]? = _ from h] at ho; cases ho; cases hc)
theorem own_set {W : World} {base B : Nat} {t e : TypeId} {size k : Nat} {u v z : Value} {xs : List Value} (h : Boxed W B t u) (hte : t ≠ e) (hr : W.ownsRow base e size v k xs) : (W.setCell ⟨B, 0, none⟩ z).ownsRow base e size v k xs :=
  hr.kept (grownBy_setCell' W B z) (Or.inr (fun e' => Boxed.not_row h hte hr e'.symm))
theorem trim_bs (x : List UInt8) : trimS (bs x) = bs (trimL x) := by unfold trimS; rw [bs_list]; rfl
theorem low_bs (x : List UInt8) : lowS (bs x) = bs (lowL x) := by unfold lowS; rw [bs_list]; rfl
theorem bs_back (s : ByteArray) : bs s.data.toList = s := (bs_of rfl).symm
theorem below_grown {w w' : World} (h : Below w.heap.size w w') (r : Option Nat) : w.grownBy w' r := ⟨h.os, h.tape, h.output, h.size, fun k hk _ => h.block k hk⟩

end Go.Proofs.YtojoidhjlbcijaaDoor
