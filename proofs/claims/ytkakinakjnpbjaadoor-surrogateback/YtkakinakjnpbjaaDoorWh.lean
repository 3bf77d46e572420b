/- The walks of small letters and quotes. -/
import Derived.Test.YtkakinakjnpbjaaDoorWg
namespace Go.Proofs.YtkakinakjnpbjaaDoor
set_option linter.unusedVariables false
set_option maxRecDepth 100000
set_option linter.unusedSimpArgs false
open Go.RowKit

theorem ret_pair {a c : ByteArray} {b d : Int} (h : a = c) (g : b = d) : Ending.returned (.tuple #[.string a, .int .i64 b]) = .returned (.tuple #[.string c, .int .i64 d]) := by rw [h, g]

set_option maxHeartbeats 1000000 in
theorem lower_any (s : ByteArray) (w : World) (hs : s.size ≤ 1000000) :
    Calls Tryd.prog 36 #[.string s] w fun e w' => e = .returned (.string (lowS s)) ∧ Below w.heap.size w w' := by
  go_enter Tryd.func36, Tryd.ntmps36
  go_wp2_with fail
  refine (setOf_any _ w (by decide)).mono ?_
  rintro e w1 ⟨he1, hb1⟩
  have hE : e = .returned (.agg (Lib.setCells capsL)) := he1
  clear he1
  subst hE
  go_wp2_with fail
  refine (rewrite_low s _ hs).mono ?_
  rintro e w2 ⟨rfl, hb2⟩
  rw [flat_low]
  go_wp2_with fail
  go_ret
  exact ⟨rfl, hb1.trans (hb2.mono hb1.size)⟩

def sameB (a b : ByteArray) : Bool := (lowS a).toList == (lowS b).toList

def qE (s : ByteArray) : Nat := if ctlB s then 11 else 0
def qS (s : ByteArray) : ByteArray := if ctlB s then ⟨#[]⟩ else ⟨(quoteL s.data.toList).toArray⟩
theorem quote_put (s : ByteArray) : (⟨#[34]⟩ : ByteArray) ++ ⟨(s.data.toList.flatMap esc1).toArray⟩ ++ ⟨#[34]⟩ = ⟨(quoteL s.data.toList).toArray⟩ := by
  apply bytes_ext
  rw [app_list, app_list]
  simp [quoteL, escL]

def quoB (s : ByteArray) : Bool := quotedL s.data.toList

theorem quo_empty {s : ByteArray} (h : s.data.toList = []) : quoB s = false := by unfold quoB quotedL; rw [h]; rfl
theorem quo_head {s : ByteArray} (h : 0 < s.size) (g : s[0] ≠ 34) : quoB s = false := by
  unfold quoB quotedL
  have : s.data.toList.head? = some s[0] := by rw [List.head?_eq_getElem?, List.getElem?_eq_getElem (by rw [size_list]; exact h), get_at s 0 h]
  rw [this]
  simp [g]
theorem quo_of {s : ByteArray} (h : 0 < s.size) (g : s[0] = 34) : quoB s = (decide (clS s 1 + 1 = s.size) && !ctlB s) := by
  unfold quoB quotedL
  have : s.data.toList.head? = some s[0] := by rw [List.head?_eq_getElem?, List.getElem?_eq_getElem (by rw [size_list]; exact h), get_at s 0 h]
  rw [this, g, size_list, show decide (some (34 : UInt8) = some 34) = true by simp, Bool.true_and]
  rfl

set_option maxHeartbeats 1000000 in
theorem quoted_any (s : ByteArray) (w : World) (hs : s.size ≤ 1000000) :
    Calls Tryd.prog 55 #[.string s] w fun e w' => e = .returned (.bool (quoB s)) ∧ Below w.heap.size w w' := by
  by_cases h0 : s.data.toList = []
  · have he := empty_of h0
    have HQ := hide (quo_empty h0)
    clear h0
    go_enter Tryd.func55, Tryd.ntmps55
    go_wp2_with fail
    go_ret
    exact ⟨by rw [HQ.out]; rfl, Below.refl _ _⟩
  · have he := empty_not h0
    have h1 : 0 < s.size := by rw [← size_list]; exact List.length_pos_iff.2 h0
    have h1z : (0 : Int) < s.size := by omega
    clear h0
    by_cases hq : s[0] = 34
    · have hb : (((s[0]).toNat : Int) == 34) = true := by have := u8_beq s[0] 34; rw [decide_eq_true hq] at this; exact this
      have HQ := hide (quo_of h1 hq)
      clear hq
      have hcl := clS_le s 1
      obtain ⟨m, hm⟩ : ∃ m, clS s 1 = m := ⟨_, rfl⟩
      rw [hm] at HQ hcl
      have HM := hide hm
      clear hm
      by_cases hd : m + 1 = s.size
      · have hb2 : ((m : Int) == (s.size : Int) - 1) = true := by rw [beq_iff_eq]; omega
        rw [decide_eq_true hd] at HQ
        go_enter Tryd.func55, Tryd.ntmps55
        go_wp2_with fail
        refine (closing_any s 1 w hs (by omega)).mono ?_
        rintro e w1 ⟨rfl, rfl⟩
        rw [HM.out]
        go_wp2_with fail
        refine (hasControl_any s _ hs).mono ?_
        rintro e w2 ⟨rfl, hb3⟩
        go_wp2_with fail
        go_ret
        exact ⟨by rw [HQ.out, Bool.true_and]; rfl, hb3⟩
      · have hb2 : ((m : Int) == (s.size : Int) - 1) = false := by rw [beq_eq_false_iff_ne]; omega
        rw [decide_eq_false hd] at HQ
        go_enter Tryd.func55, Tryd.ntmps55
        go_wp2_with fail
        refine (closing_any s 1 w hs (by omega)).mono ?_
        rintro e w1 ⟨rfl, rfl⟩
        rw [HM.out]
        go_wp2_with fail
        go_ret
        exact ⟨by rw [HQ.out, Bool.false_and]; rfl, Below.refl _ _⟩
    · have hb : (((s[0]).toNat : Int) == 34) = false := by have := u8_beq s[0] 34; rw [decide_eq_false hq] at this; exact this
      have HQ := hide (quo_head h1 hq)
      clear hq
      go_enter Tryd.func55, Tryd.ntmps55
      go_wp2_with fail
      go_ret
      exact ⟨by rw [HQ.out]; rfl, Below.refl _ _⟩

end Go.Proofs.YtkakinakjnpbjaaDoor
