/- Where a byte stands first and last, and what a text begins with: the document's own answers and the library's. -/
import Derived.Test.YtplanlhgcckioaaDoorWg
import Derived.Test.YtplanlhgcckioaaDoorMc
import Derived.Test.YtplanlhgcckioaaDoorShelf
namespace Go.Proofs.YtplanlhgcckioaaDoor
set_option linter.unusedVariables false
set_option linter.unusedSimpArgs false
set_option maxRecDepth 100000
open Go.RowKit

def neB (c x : UInt8) : Bool := x != c
theorem notS_ne47 : notS = neB 47 := rfl
/-- How many bytes stand ahead of the first c. -/
def atN (c : UInt8) (l : List UInt8) : Nat := (l.takeWhile (neB c)).length
/-- Where c stands first; -1: nowhere. -/
def ixI (c : UInt8) (l : List UInt8) : Int := if atN c l < l.length then (atN c l : Int) else -1
/-- Where c stands last; -1: nowhere. -/
def laI (c : UInt8) (l : List UInt8) : Int := (lastN (neB c) l : Int) - 1

theorem atN_le (c : UInt8) (l : List UInt8) : atN c l ≤ l.length := takeWhile_le _ _
theorem indexByte_ix (c : UInt8) : ∀ l : List UInt8, Lib.indexByte l c = ixI c l
  | [] => by simp [Lib.indexByte, ixI, atN]
  | b :: l => by
    have ih := indexByte_ix c l
    rw [Lib.indexByte, ih]
    unfold ixI atN
    rw [List.takeWhile_cons]
    by_cases h : b = c
    · subst h; simp [neB]
    · have h1 : (b == c) = false := by simpa using h
      have h2 : neB c b = true := by simpa [neB] using h
      rw [h1, h2]
      simp only [Bool.false_eq_true, if_false, if_true, List.length_cons]
      by_cases g : (l.takeWhile (neB c)).length < l.length
      · have e : (((l.takeWhile (neB c)).length : Int) == -1) = false := by rw [beq_eq_false_iff_ne]; omega
        have g' : (l.takeWhile (neB c)).length + 1 < l.length + 1 := by omega
        simp only [g, g', e, if_true, Bool.false_eq_true, if_false]
        omega
      · have g' : ¬ (l.takeWhile (neB c)).length + 1 < l.length + 1 := by omega
        simp [g, g']

theorem lastN_snoc (p : UInt8 → Bool) (l : List UInt8) (x : UInt8) : lastN p (l ++ [x]) = if p x then lastN p l else l.length + 1 := by
  unfold lastN
  rw [List.reverse_append, List.reverse_singleton, List.singleton_append, List.takeWhile_cons, List.length_append, List.length_singleton]
  cases p x <;> simp

theorem ix_at {s : ByteArray} {c : UInt8} {k : Nat} (hk : k < s.size) (h : ∀ x ∈ s.data.toList.take k, neB c x = true) (g : s[k] = c) : ixI c s.data.toList = k := by
  have hl : k < s.data.toList.length := by rw [size_list]; exact hk
  have : atN c s.data.toList = k := takeWhile_at hl h (by rw [get_at s k hk, g]; simp [neB])
  unfold ixI
  rw [this, if_pos hl]
theorem ix_none {c : UInt8} {l : List UInt8} (h : ∀ x ∈ l, neB c x = true) : ixI c l = -1 := by
  unfold ixI
  rw [atN, takeWhile_all h, if_neg (by omega)]

set_option maxRecDepth 100000 in
set_option maxHeartbeats 1000000 in
theorem find_any (s : ByteArray) (c : UInt8) (w : World) (hs : s.size ≤ 1000000) :
    Calls Tryd.prog 42 #[.string s, .int .u8 (c.toNat : Int)] w fun e w' => e = .returned (.int .i64 (ixI c s.data.toList)) ∧ w' = w := by
  have HZ : Hid (s.data.toList.length = s.size) := by unfold Hid; simp
  go_enter Tryd.func42, Tryd.ntmps42
  go_wp2_with fail
  go_loop [5] (fun i => ∃ k : Nat, k ≤ s.size ∧ i = .int .i64 k ∧ Hid (∀ x ∈ s.data.toList.take k, neB c x = true)) (fun i => s.size - (intOf i).toNat)
  case atStart => exact ⟨0, Nat.zero_le _, rfl, by simp [Hid]⟩
  case round =>
    obtain ⟨k, hk, rfl, hall⟩ := hrel
    by_cases hlt : k < s.size
    · have hltz : (k : Int) < s.size := by omega
      have HT : Hid (s.data.toList.take (k + 1) = s.data.toList.take k ++ [s[k]]) := by
        unfold Hid; rw [take_snoc _ k (by rw [HZ.out]; exact hlt), get_at s k hlt]
      by_cases hb : s[k] = c
      · have HN := hide (ix_at hlt hall.out hb)
        have hbd : (((s[k]).toNat : Int) == (c.toNat : Int)) = true := by rw [hb]; simp
        go_wp2_with fail
        go_ret
        exact ⟨ret_int HN.out.symm, rfl⟩
      · have hbd : (((s[k]).toNat : Int) == (c.toNat : Int)) = false := by
          rw [beq_eq_false_iff_ne]
          intro e
          exact hb (UInt8.toNat_inj.1 (by omega))
        have HB := hide hb
        clear hb
        go_wp2_with fail
        refine ⟨⟨k + 1, by omega, by go_num, ?_⟩, by simp [intOf]; omega⟩
        unfold Hid
        rw [HT.out]
        intro x hx
        rcases List.mem_append.1 hx with hx | hx
        · exact hall.out x hx
        · obtain rfl : x = s[k] := by simpa using hx
          simpa [neB] using HB.out
    · have hd : decide ((k : Int) < s.size) = false := decide_eq_false (by omega)
      rw [List.take_of_length_le (by rw [HZ.out]; omega)] at hall
      have HN := hide (ix_none hall.out)
      go_wp2_with fail
      go_ret
      exact ⟨ret_int HN.out.symm, rfl⟩


theorem laI_nil (c : UInt8) : laI c [] = -1 := by simp [laI, lastN]
theorem laI_snoc (c : UInt8) (l : List UInt8) (x : UInt8) : laI c (l ++ [x]) = if x = c then (l.length : Int) else laI c l := by
  unfold laI
  rw [lastN_snoc]
  by_cases h : x = c
  · subst h; simp [neB]
  · rw [if_neg h, if_pos (by simpa [neB] using h)]

theorem laI_ge (c : UInt8) (l : List UInt8) : -1 ≤ laI c l := by unfold laI; omega
theorem laI_lt (c : UInt8) (l : List UInt8) : laI c l < l.length ∨ l = [] := by
  by_cases h : l = []
  · exact Or.inr h
  · left
    have := lastN_le (neB c) l
    have := List.length_pos_iff.2 h
    unfold laI
    omega

theorem beg_eq {s t : ByteArray} (h : t.size ≤ s.size) : ((s.extract 0 t.size).toList == t.toList) = pre t.data.toList s.data.toList := by
  rw [ByteArray.toList_eq, ByteArray.toList_eq]
  have e : (s.extract 0 t.size).data.toList = s.data.toList.take t.data.toList.length := by
    rw [size_list]; simp [ByteArray.data_extract]
  rw [e]
  unfold pre
  rw [Bool.eq_iff_iff, beq_iff_eq, List.isPrefixOf_iff_prefix, List.prefix_iff_eq_take, eq_comm]
theorem beg_no {s t : ByteArray} (h : ¬ t.size ≤ s.size) : pre t.data.toList s.data.toList = false := by
  cases e : pre t.data.toList s.data.toList with
  | false => rfl
  | true =>
    unfold pre at e
    have := (List.isPrefixOf_iff_prefix.1 e).length_le
    rw [size_list, size_list] at this
    exact absurd this h

end Go.Proofs.YtplanlhgcckioaaDoor
