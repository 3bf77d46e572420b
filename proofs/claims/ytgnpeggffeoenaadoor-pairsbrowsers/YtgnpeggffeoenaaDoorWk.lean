/- The walk of what parts a text. -/
import Derived.Test.YtgnpeggffeoenaaDoorWj
namespace Go.Proofs.YtgnpeggffeoenaaDoor
set_option linter.unusedVariables false
set_option linter.unusedSimpArgs false
set_option maxRecDepth 100000
open Go.RowKit

/-- Texts as cells. -/
def strs (P : List (List UInt8)) : List Value := P.map fun p => .string ⟨p.toArray⟩
theorem strs_length (P : List (List UInt8)) : (strs P).length = P.length := by simp [strs]
theorem strs_append (P Q : List (List UInt8)) : strs (P ++ Q) = strs P ++ strs Q := by simp [strs]

def spE (b : UInt8) (s : ByteArray) : Nat := if (splitL b s.data.toList).isSome then 0 else 11
def spP (b : UInt8) (s : ByteArray) : List (List UInt8) := (splitL b s.data.toList).getD []
theorem sp_err {b : UInt8} {s : ByteArray} (h : splitL b s.data.toList = none) : spP b s = [] ∧ spE b s = 11 := by unfold spP spE; rw [h]; exact ⟨rfl, rfl⟩
theorem sp_okay {b : UInt8} {s : ByteArray} {P : List (List UInt8)} (h : splitL b s.data.toList = some P) : spP b s = P ∧ spE b s = 0 := by unfold spP spE; rw [h]; exact ⟨rfl, rfl⟩
theorem split_of {b : UInt8} {l : List UInt8} (h1 : b ≠ 34) (h2 : b ≠ 92) : splitL b l = sp b 0 [] l := by rw [splitL, if_neg (by simp [h1, h2])]

theorem cut_list (s : ByteArray) (f k : Nat) : (s.extract f k).data.toList = (s.data.toList.take k).drop f := by
  rw [ByteArray.data_extract, Array.toList_extract, List.extract_eq_take_drop, List.drop_take]
theorem trim_of (s : ByteArray) (f k : Nat) : trimS (s.extract f k) = ⟨(trimL ((s.data.toList.take k).drop f)).toArray⟩ := by rw [trimS, cut_list]

/-- What is gone over, and what is left. -/
def Parts (b : UInt8) (l : List UInt8) (P : List (List UInt8)) (acc : List UInt8) (k : Nat) : Prop := sp b 0 [] l = (sp b 0 acc (l.drop k)).map (P ++ ·)

theorem Parts.start (b : UInt8) (l : List UInt8) : Parts b l [] [] 0 := by unfold Parts; simp
theorem Parts.cut {b : UInt8} {l : List UInt8} {P : List (List UInt8)} {acc : List UInt8} {k : Nat} (h : Parts b l P acc k) (hk : k < l.length) (hb : l[k] = b) : Parts b l (P ++ [trimL acc]) [] (k + 1) := by
  unfold Parts at *
  rw [h, List.drop_eq_getElem_cons hk, hb, sp_by]
  cases sp b 0 [] (l.drop (k + 1)) <;> simp
theorem Parts.more {b : UInt8} {l : List UInt8} {P : List (List UInt8)} {acc : List UInt8} {k : Nat} (h : Parts b l P acc k) (hk : k < l.length) (h1 : l[k] ≠ b) (h2 : l[k] ≠ 34) : Parts b l P (acc ++ [l[k]]) (k + 1) := by
  unfold Parts at *
  rw [h, List.drop_eq_getElem_cons hk, sp_else _ _ h1 h2]
theorem Parts.quotes {b : UInt8} {l : List UInt8} {P : List (List UInt8)} {acc : List UInt8} {k : Nat} (h : Parts b l P acc k) (hk : k < l.length) (h1 : l[k] ≠ b) (h2 : l[k] = 34) (hc : cl l (k + 1) < l.length) :
    Parts b l P (acc ++ (l.take (cl l (k + 1) + 1)).drop k) (cl l (k + 1) + 1) := by
  unfold Parts at *
  rw [h, sp_quotes hk h2 (fun e => h1 (h2.trans e)), if_pos hc]
theorem Parts.bad {b : UInt8} {l : List UInt8} {P : List (List UInt8)} {acc : List UInt8} {k : Nat} (h : Parts b l P acc k) (hk : k < l.length) (h1 : l[k] ≠ b) (h2 : l[k] = 34) (hc : ¬ cl l (k + 1) < l.length) : sp b 0 [] l = none := by
  unfold Parts at *
  rw [h, sp_quotes hk h2 (fun e => h1 (h2.trans e)), if_neg hc]; rfl
theorem Parts.done {b : UInt8} {l : List UInt8} {P : List (List UInt8)} {acc : List UInt8} {k : Nat} (h : Parts b l P acc k) (hk : l.length ≤ k) : sp b 0 [] l = some (P ++ [trimL acc]) := by
  unfold Parts at *
  rw [h, List.drop_eq_nil_of_le hk, sp_nil]; rfl

theorem cut_next {l : List UInt8} {f k m : Nat} (hf : f ≤ k) (hk : k ≤ m) (hm : m ≤ l.length) : (l.take k).drop f ++ (l.take m).drop k = (l.take m).drop f := by
  have h1 : (l.take m).drop f = ((l.take m).take k).drop f ++ (l.take m).drop k := by
    conv => lhs; rw [← List.take_append_drop k (l.take m)]
    rw [List.drop_append_of_le_length (by rw [List.length_take, List.length_take]; omega)]
  rw [h1, List.take_take, Nat.min_eq_left hk]
theorem cut_one {l : List UInt8} {k : Nat} (hk : k < l.length) : (l.take (k + 1)).drop k = [l[k]] := by
  rw [List.drop_take, show k + 1 - k = 1 by omega, List.drop_eq_getElem_cons hk]; rfl
theorem cut_none (l : List UInt8) (k : Nat) : (l.take k).drop k = [] := by
  rw [List.drop_eq_nil_of_le (by rw [List.length_take]; omega)]

theorem ret_row {v v' : Value} {b d : Int} (h : v = v') (g : b = d) : Ending.returned (.tuple #[v, .int .i64 b]) = .returned (.tuple #[v', .int .i64 d]) := by rw [h, g]

end Go.Proofs.YtgnpeggffeoenaaDoor
