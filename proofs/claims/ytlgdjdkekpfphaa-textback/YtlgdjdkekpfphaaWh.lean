/- The walks of small letters and quotes. -/
import Derived.Test.YtlgdjdkekpfphaaWg
namespace Go.Proofs.Ytlgdjdkekpfphaa
set_option linter.unusedVariables false
set_option linter.unusedSimpArgs false
open Go.RowKit

theorem ret_pair {a c : ByteArray} {b d : Int} (h : a = c) (g : b = d) : Ending.returned (.tuple #[.string a, .int .i64 b]) = .returned (.tuple #[.string c, .int .i64 d]) := by rw [h, g]

set_option maxHeartbeats 1000000 in
theorem short_any (s : ByteArray) (w : World) (hs : s.size ≤ maxLen) :
    Calls Try.prog 10 #[.string s] w fun e w' => ∃ t : ByteArray, e = .returned (.string t) ∧ t.size ≤ 400 ∧ w' = w := by
  unfold maxLen at hs
  obtain ⟨m, hm, hm1, hm2⟩ : ∃ m : Nat, min (s.size : Int) 400 = (m : Int) ∧ m ≤ 400 ∧ m ≤ s.size := ⟨(min (s.size : Int) 400).toNat, by omega, by omega, by omega⟩
  go_enter Try.func10, Try.ntmps10
  go_wp2
  all_goals go_ret
  all_goals refine ⟨_, rfl, ?_, rfl⟩
  all_goals ((try rw [ByteArray.size_extract]); omega)

set_option maxHeartbeats 1000000 in
theorem lower_any (s : ByteArray) (w : World) (hs : s.size ≤ 1000000) :
    Calls Try.prog 12 #[.string s] w fun e w' => e = .returned (.string (lowS s)) ∧ Below w.heap.size w w' := by
  go_enter Try.func12, Try.ntmps12
  go_wp2_with fail
  refine (setOf_any _ w (by decide)).mono ?_
  rintro e w1 ⟨he1, hb1⟩
  have hE : e = .returned (.agg (Lib.setCells capsL)) := he1
  clear he1
  subst hE
  go_wp2_with fail
  refine (rewrite_low s _ hs).mono ?_
  rintro e w2 ⟨rfl, hb2⟩
  rw [flat_low]
  go_wp2_with fail
  go_ret
  exact ⟨rfl, hb1.trans (hb2.mono hb1.size)⟩

def sameB (a b : ByteArray) : Bool := (lowS a).toList == (lowS b).toList

set_option maxHeartbeats 1000000 in
theorem same_any (a b : ByteArray) (w : World) (ha : a.size ≤ 1000000) (hb : b.size ≤ 1000000) :
    Calls Try.prog 18 #[.string a, .string b] w fun e w' => e = .returned (.bool (sameB a b)) ∧ Below w.heap.size w w' := by
  go_enter Try.func18, Try.ntmps18
  go_wp2_with fail
  refine (lower_any a w ha).mono ?_
  rintro e w1 ⟨rfl, hb1⟩
  go_wp2_with fail
  refine (lower_any b _ hb).mono ?_
  rintro e w2 ⟨rfl, hb2⟩
  go_wp2_with fail
  go_ret
  exact ⟨rfl, hb1.trans (hb2.mono hb1.size)⟩

def qE (s : ByteArray) : Nat := if ctlB s then 11 else 0
def qS (s : ByteArray) : ByteArray := if ctlB s then ⟨#[]⟩ else ⟨(quoteL s.data.toList).toArray⟩
theorem quote_put (s : ByteArray) : (⟨#[34]⟩ : ByteArray) ++ ⟨(s.data.toList.flatMap esc1).toArray⟩ ++ ⟨#[34]⟩ = ⟨(quoteL s.data.toList).toArray⟩ := by
  apply bytes_ext
  rw [app_list, app_list]
  simp [quoteL, escL]

set_option maxHeartbeats 1000000 in
theorem quote_any (s : ByteArray) (w : World) (hs : s.size ≤ 100000) :
    Calls Try.prog 22 #[.string s] w fun e w' => e = .returned (.tuple #[.string (qS s), .int .i64 (qE s : Nat)]) ∧ Below w.heap.size w w' := by
  cases hc : ctlB s
  · have HQ : Hid (qS s = ⟨(quoteL s.data.toList).toArray⟩ ∧ qE s = 0) := by unfold Hid qS qE; rw [hc]; simp
    have HP := hide (quote_put s)
    go_enter Try.func22, Try.ntmps22
    go_wp2_with fail
    refine (hasControl_any s w (by omega)).mono ?_
    rintro e w1 ⟨rfl, hb1⟩
    rw [hc]
    go_wp2_with fail
    refine (setOf_any _ w1 (by decide)).mono ?_
    rintro e w2 ⟨he1, hb2⟩
    have hE : e = .returned (.agg (Lib.setCells [34, 92])) := he1
    clear he1
    subst hE
    go_wp2_with fail
    refine (rewrite_esc s _ (by omega)).mono ?_
    rintro e w3 ⟨rfl, hb3⟩
    have hle : (⟨(s.data.toList.flatMap esc1).toArray⟩ : ByteArray).size ≤ 200000 := by
      rw [← size_list]
      have := escL_le s.data.toList
      rw [size_list] at this
      simp only [List.toList_toArray]
      show (escL s.data.toList).length ≤ _
      omega
    obtain ⟨x, hx⟩ : ∃ x : ByteArray, (⟨(s.data.toList.flatMap esc1).toArray⟩ : ByteArray) = x := ⟨_, rfl⟩
    rw [hx] at hle HP ⊢
    clear hx
    have c2 := hb1.trans (hb2.mono hb1.size)
    have c3 := c2.trans (hb3.mono c2.size)
    go_wp2_with fail
    go_ret2
    exact ⟨ret_pair (by rw [HQ.out.1, HP.out]) (by rw [HQ.out.2]; rfl), c3⟩
  · have HQ : Hid (qS s = ⟨#[]⟩ ∧ qE s = 11) := by unfold Hid qS qE; rw [hc]; simp
    go_enter Try.func22, Try.ntmps22
    go_wp2_with fail
    refine (hasControl_any s w (by omega)).mono ?_
    rintro e w1 ⟨rfl, hb1⟩
    rw [hc]
    go_wp2_with fail
    go_ret2
    exact ⟨ret_pair HQ.out.1.symm (by rw [HQ.out.2]; rfl), hb1⟩

def quoB (s : ByteArray) : Bool := quotedL s.data.toList

theorem quo_empty {s : ByteArray} (h : s.data.toList = []) : quoB s = false := by unfold quoB quotedL; rw [h]; rfl
theorem quo_head {s : ByteArray} (h : 0 < s.size) (g : s[0] ≠ 34) : quoB s = false := by
  unfold quoB quotedL
  have : s.data.toList.head? = some s[0] := by rw [List.head?_eq_getElem?, List.getElem?_eq_getElem (by rw [size_list]; exact h), get_at s 0 h]
  rw [this]
  simp [g]
theorem quo_of {s : ByteArray} (h : 0 < s.size) (g : s[0] = 34) : quoB s = (decide (clS s 1 + 1 = s.size) && !ctlB s) := by
  unfold quoB quotedL
  have : s.data.toList.head? = some s[0] := by rw [List.head?_eq_getElem?, List.getElem?_eq_getElem (by rw [size_list]; exact h), get_at s 0 h]
  rw [this, g, size_list, show decide (some (34 : UInt8) = some 34) = true by simp, Bool.true_and]
  rfl

set_option maxHeartbeats 1000000 in
theorem quoted_any (s : ByteArray) (w : World) (hs : s.size ≤ 1000000) :
    Calls Try.prog 40 #[.string s] w fun e w' => e = .returned (.bool (quoB s)) ∧ Below w.heap.size w w' := by
  by_cases h0 : s.data.toList = []
  · have he := empty_of h0
    have HQ := hide (quo_empty h0)
    clear h0
    go_enter Try.func40, Try.ntmps40
    go_wp2_with fail
    go_ret
    exact ⟨by rw [HQ.out]; rfl, Below.refl _ _⟩
  · have he := empty_not h0
    have h1 : 0 < s.size := by rw [← size_list]; exact List.length_pos_iff.2 h0
    have h1z : (0 : Int) < s.size := by omega
    clear h0
    by_cases hq : s[0] = 34
    · have hb : (((s[0]).toNat : Int) == 34) = true := by have := u8_beq s[0] 34; rw [decide_eq_true hq] at this; exact this
      have HQ := hide (quo_of h1 hq)
      clear hq
      have hcl := clS_le s 1
      obtain ⟨m, hm⟩ : ∃ m, clS s 1 = m := ⟨_, rfl⟩
      rw [hm] at HQ hcl
      have HM := hide hm
      clear hm
      by_cases hd : m + 1 = s.size
      · have hb2 : ((m : Int) == (s.size : Int) - 1) = true := by rw [beq_iff_eq]; omega
        rw [decide_eq_true hd] at HQ
        go_enter Try.func40, Try.ntmps40
        go_wp2_with fail
        refine (closing_any s 1 w hs (by omega)).mono ?_
        rintro e w1 ⟨rfl, rfl⟩
        rw [HM.out]
        go_wp2_with fail
        refine (hasControl_any s _ hs).mono ?_
        rintro e w2 ⟨rfl, hb3⟩
        go_wp2_with fail
        go_ret
        exact ⟨by rw [HQ.out, Bool.true_and]; rfl, hb3⟩
      · have hb2 : ((m : Int) == (s.size : Int) - 1) = false := by rw [beq_eq_false_iff_ne]; omega
        rw [decide_eq_false hd] at HQ
        go_enter Try.func40, Try.ntmps40
        go_wp2_with fail
        refine (closing_any s 1 w hs (by omega)).mono ?_
        rintro e w1 ⟨rfl, rfl⟩
        rw [HM.out]
        go_wp2_with fail
        go_ret
        exact ⟨by rw [HQ.out, Bool.false_and]; rfl, Below.refl _ _⟩
    · have hb : (((s[0]).toNat : Int) == 34) = false := by have := u8_beq s[0] 34; rw [decide_eq_false hq] at this; exact this
      have HQ := hide (quo_head h1 hq)
      clear hq
      go_enter Try.func40, Try.ntmps40
      go_wp2_with fail
      go_ret
      exact ⟨by rw [HQ.out]; rfl, Below.refl _ _⟩

end Go.Proofs.Ytlgdjdkekpfphaa
