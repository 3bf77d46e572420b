/- The walks of what asks bytes, hosts and paths, and of what reads a place. -/
import Derived.Test.YtjegoceebdiaaaaDoorMu
import Derived.Test.YtjegoceebdiaaaaDoorNf
import Derived.Test.YtjegoceebdiaaaaDoorCd
namespace Go.Proofs.YtjegoceebdiaaaaDoor
set_option linter.unusedVariables false
set_option linter.unusedSimpArgs false
open Go.RowKit

set_option maxRecDepth 100000 in
set_option maxHeartbeats 1000000 in
theorem ofHost_any (c : UInt8) (w : World) :
    Calls Tryd.prog 80 #[.int .u8 (c.toNat : Int)] w fun e w' => e = .returned (.bool (hostB c)) ∧ w' = w := by
  have hc := c.toNat_lt
  go_enter Tryd.func80, Tryd.ntmps80
  go_wp2
  all_goals (go_ret; refine ⟨ret_bool ?_, rfl⟩)
  all_goals (unfold hostB; rw [Bool.eq_iff_iff]; simp; try omega)

theorem toU8 (c : UInt8) : ((c.toNat : Int)).toNat.toUInt8 = c := by simp
theorem bar_has (c : UInt8) : hasL c barL = barL.contains c := by
  rw [Bool.eq_iff_iff, hasL_iff, List.contains_iff_mem]

set_option maxRecDepth 100000 in
set_option maxHeartbeats 1000000 in
theorem ofAddress_any (c : UInt8) (w : World) :
    Calls Tryd.prog 60 #[.int .u8 (c.toNat : Int)] w fun e w' => e = .returned (.bool (addrB c)) ∧ w' = w := by
  have hc := c.toNat_lt
  have hi := Tryd.strings_IndexByte ⟨barL.toArray⟩ (c.toNat : Int) w
  rw [toU8, indexByte_ix] at hi
  have hl : (⟨barL.toArray⟩ : ByteArray).data.toList = barL := by simp
  rw [hl] at hi
  have HI := hide hi
  have HX : Hid (decide (ixI c barL < 0) = !barL.contains c) := by unfold Hid; rw [ix_lt, bar_has]
  clear hi hl
  by_cases h1 : 33 ≤ c.toNat
  · by_cases h2 : c.toNat ≤ 126
    · go_enter Tryd.func60, Tryd.ntmps60
      go_wp2_with fail
      refine HI.out.mono ?_
      rintro e w1 ⟨rfl, rfl⟩
      go_wp2_with fail
      go_ret
      refine ⟨?_, rfl⟩
      unfold addrB
      rw [← HX.out, decide_eq_true h1, decide_eq_true h2]
      rfl
    · have h2d : decide ((c.toNat : Int) ≤ 126) = false := decide_eq_false (by omega)
      have HR : Hid (addrB c = false) := by unfold Hid addrB; simp [h2]
      go_enter Tryd.func60, Tryd.ntmps60
      go_wp2_with fail
      go_ret
      exact ⟨by rw [HR.out]; rfl, rfl⟩
  · have h1d : decide (33 ≤ (c.toNat : Int)) = false := decide_eq_false (by omega)
    have HR : Hid (addrB c = false) := by unfold Hid addrB; simp [h1]
    go_enter Tryd.func60, Tryd.ntmps60
    go_wp2_with fail
    go_ret
    exact ⟨by rw [HR.out]; rfl, rfl⟩

set_option maxRecDepth 100000 in
set_option maxHeartbeats 1000000 in
theorem every_any (F : FuncId) (p : UInt8 → Bool) (hcf : ∀ (a : Array Value) (w1 : World), Sem.run Tryd.prog (callFunc F a) w1 = .ok (.enter F a) w1)
    (hp : ∀ (c : UInt8) (w : World), Calls Tryd.prog F #[.int .u8 (c.toNat : Int)] w fun e w' => e = .returned (.bool (p c)) ∧ w' = w)
    (s : ByteArray) (w : World) (hs : s.size ≤ 1000000) :
    Calls Tryd.prog 59 #[.string s, .func (.func F) #[] #[]] w fun e w' => e = .returned (.bool (allB p s.data.toList)) ∧ w' = w := by
  have HZ : Hid (s.data.toList.length = s.size) := by unfold Hid; simp
  have HP := hide hp
  clear hp
  go_enter Tryd.func59, Tryd.ntmps59
  go_wp2_with fail
  go_loop [8] (fun i => ∃ k : Nat, k ≤ s.size ∧ i = .int .i64 k ∧ Hid (∀ x ∈ s.data.toList.take k, p x = true)) (fun i => s.size - (intOf i).toNat)
  case atStart => exact ⟨0, Nat.zero_le _, rfl, by simp [Hid]⟩
  case round =>
    obtain ⟨k, hk, rfl, hall⟩ := hrel
    by_cases hlt : k < s.size
    · have hltz : (k : Int) < s.size := by omega
      have HT : Hid (s.data.toList.take (k + 1) = s.data.toList.take k ++ [s[k]]) := by
        unfold Hid; rw [take_snoc _ k (by rw [HZ.out]; exact hlt), get_at s k hlt]
      cases hb : p s[k]
      · have HN : Hid (allB p s.data.toList = false) := by
          unfold Hid allB
          rw [List.all_eq_false]
          exact ⟨s[k], by rw [← List.take_append_drop (k + 1) s.data.toList, HT.out]; simp, by simp [hb]⟩
        go_wp2_with fail
        refine (HP.out s[k] _).mono ?_
        rintro e w1 ⟨rfl, hw1⟩
        subst hw1
        rw [hb]
        go_wp2_with fail
        go_ret
        exact ⟨by rw [HN.out]; rfl, rfl⟩
      · go_wp2_with fail
        refine (HP.out s[k] _).mono ?_
        rintro e w1 ⟨rfl, hw1⟩
        subst hw1
        rw [hb]
        go_wp2_with fail
        refine ⟨⟨k + 1, by omega, by go_num, ?_⟩, by simp [intOf]; omega⟩
        unfold Hid
        rw [HT.out]
        intro x hx
        rcases List.mem_append.1 hx with hx | hx
        · exact hall.out x hx
        · obtain rfl : x = s[k] := by simpa using hx
          exact hb
    · have hd : decide ((k : Int) < s.size) = false := decide_eq_false (by omega)
      rw [List.take_of_length_le (by rw [HZ.out]; omega)] at hall
      have HN : Hid (allB p s.data.toList = true) := List.all_eq_true.2 hall.out
      go_wp2_with fail
      go_ret
      exact ⟨by rw [HN.out]; rfl, rfl⟩

theorem cf60 (a : Array Value) (w1 : World) : Sem.run Tryd.prog (callFunc 60 a) w1 = .ok (.enter 60 a) w1 := by kernel_rfl
theorem cf80 (a : Array Value) (w1 : World) : Sem.run Tryd.prog (callFunc 80 a) w1 = .ok (.enter 80 a) w1 := by kernel_rfl
theorem everyA (s : ByteArray) (w : World) (hs : s.size ≤ 1000000) : Calls Tryd.prog 59 #[.string s, .func (.func 60) #[] #[]] w fun e w' => e = .returned (.bool (allB addrB s.data.toList)) ∧ w' = w :=
  every_any 60 addrB cf60 ofAddress_any s w hs
theorem everyH (s : ByteArray) (w : World) (hs : s.size ≤ 1000000) : Calls Tryd.prog 59 #[.string s, .func (.func 80) #[] #[]] w fun e w' => e = .returned (.bool (allB hostB s.data.toList)) ∧ w' = w :=
  every_any 80 hostB cf80 ofHost_any s w hs

set_option maxRecDepth 100000 in
set_option maxHeartbeats 1000000 in
theorem rightHost_any (s : ByteArray) (w : World) (hs : s.size ≤ 1000000) :
    Calls Tryd.prog 57 #[.string s] w fun e w' => e = .returned (.bool (hostOk s.data.toList)) ∧ w' = w := by
  by_cases h0 : s.data.toList = []
  · have he := empty_of h0
    have HR : Hid (hostOk s.data.toList = false) := by unfold Hid hostOk; rw [h0]; rfl
    clear h0
    go_enter Tryd.func57, Tryd.ntmps57
    go_wp2_with fail
    go_ret
    exact ⟨by rw [HR.out]; rfl, rfl⟩
  · have he := empty_not h0
    have HE : Hid (s.data.toList.isEmpty = false) := by unfold Hid; simpa using h0
    clear h0
    by_cases h1 : s.size ≤ 100
    · have HR : Hid (hostOk s.data.toList = allB hostB s.data.toList) := by
        unfold Hid hostOk; rw [HE.out, size_list, decide_eq_true h1]; rfl
      go_enter Tryd.func57, Tryd.ntmps57
      go_wp2_with fail
      refine (everyH s _ hs).mono ?_
      rintro e w1 ⟨rfl, hw1⟩
      subst hw1
      go_wp2_with fail
      go_ret
      exact ⟨by rw [HR.out]; rfl, rfl⟩
    · have h1d : decide ((s.size : Int) ≤ 100) = false := decide_eq_false (by omega)
      have HR : Hid (hostOk s.data.toList = false) := by
        unfold Hid hostOk; rw [size_list, decide_eq_false h1]; simp
      go_enter Tryd.func57, Tryd.ntmps57
      go_wp2_with fail
      go_ret
      exact ⟨by rw [HR.out]; rfl, rfl⟩

theorem contains_any (s : ByteArray) (c : UInt8) (w : World) : Calls Tryd.prog 61 #[.string s, .string ⟨#[c]⟩] w fun e w' => e = .returned (.bool (hasL c s.data.toList)) ∧ w' = w := by
  have h := Tryd.strings_Contains_one s c w
  rw [indexByte_ix, ix_ge] at h
  exact h

set_option maxRecDepth 100000 in
set_option maxHeartbeats 1000000 in
theorem rightStart_any (s : ByteArray) (w : World) (hs : s.size ≤ 1000000) :
    Calls Tryd.prog 58 #[.string s] w fun e w' => e = .returned (.bool (startB s.data.toList)) ∧ ∃ n, w' = w.drewN n := by
  have hc := contains_any (befS 47 s) 58
  rw [befS_list] at hc
  cases hp : pre [47, 47] s.data.toList
  · have HR : Hid (startB s.data.toList = !hasL 58 (s.data.toList.takeWhile (neB 47))) := by unfold Hid startB; rw [hp]; rfl
    have HP := hide hp
    clear hp
    go_enter Tryd.func58, Tryd.ntmps58
    go_wp2_with fail
    refine (cut_any s 47 _ hs).mono ?_
    rintro e w1 ⟨rfl, n, rfl⟩
    go_wp2_with fail
    refine (pre_any s ⟨#[47, 47]⟩ _ HP.out _).mono ?_
    rintro e w1 ⟨rfl, hw1⟩
    subst hw1
    go_wp2_with fail
    refine (hc _).mono ?_
    rintro e w1 ⟨rfl, hw1⟩
    subst hw1
    go_wp2_with fail
    go_ret
    exact ⟨by rw [HR.out]; rfl, n, rfl⟩
  · have HR : Hid (startB s.data.toList = false) := by unfold Hid startB; rw [hp]; rfl
    have HP := hide hp
    clear hp
    go_enter Tryd.func58, Tryd.ntmps58
    go_wp2_with fail
    refine (cut_any s 47 _ hs).mono ?_
    rintro e w1 ⟨rfl, n, rfl⟩
    go_wp2_with fail
    refine (pre_any s ⟨#[47, 47]⟩ _ HP.out _).mono ?_
    rintro e w1 ⟨rfl, hw1⟩
    subst hw1
    go_wp2_with fail
    go_ret
    exact ⟨by rw [HR.out]; rfl, n, rfl⟩

end Go.Proofs.YtjegoceebdiaaaaDoor
