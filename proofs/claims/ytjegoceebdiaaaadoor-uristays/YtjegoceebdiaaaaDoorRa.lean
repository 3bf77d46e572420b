/- The walks of the document's own answers: bytes, hosts, how an address is written. -/
import Derived.Test.YtjegoceebdiaaaaDoorUe
namespace Go.Proofs.YtjegoceebdiaaaaDoor
set_option linter.unusedVariables false
set_option linter.unusedSimpArgs false
open Go.RowKit

def bar9 : List UInt8 := [34, 35, 60, 62, 92, 94, 123, 124, 125]
theorem addr_no {c : UInt8} (h : c.toNat < 33 ∨ 126 < c.toNat ∨ c = 96 ∨ hasL c bar9 = true) : addrB c = false := by
  unfold addrB
  rcases h with h | h | h | h
  · rw [decide_eq_false (by omega)]; rfl
  · rw [decide_eq_false (show ¬ c.toNat ≤ 126 by omega)]; simp
  · subst h; rfl
  · rw [hasL_iff] at h
    have : barL.contains c = true := by
      rw [List.contains_iff_mem]
      unfold bar9 at h
      unfold barL
      simp only [List.mem_cons, List.mem_nil_iff, or_false] at h ⊢
      rcases h with h | h | h | h | h | h | h | h | h <;> simp [h]
    rw [this]; simp
theorem addr_yes {c : UInt8} (h1 : ¬ c.toNat < 33) (h2 : ¬ 126 < c.toNat) (h3 : ¬ c = 96) (h4 : hasL c bar9 = false) : addrB c = true := by
  unfold addrB
  rw [decide_eq_true (show 33 ≤ c.toNat by omega), decide_eq_true (show c.toNat ≤ 126 by omega)]
  rw [hasL_false] at h4
  have : barL.contains c = false := by
    cases e : barL.contains c with
    | false => rfl
    | true =>
      rw [List.contains_iff_mem] at e
      unfold barL at e
      unfold bar9 at h4
      simp only [List.mem_cons, List.mem_nil_iff, or_false, not_or] at e h4
      rcases e with e | e | e | e | e | e | e | e | e | e <;> simp_all
  rw [this]; rfl

theorem findBar (c : UInt8) (w : World) : Calls Tryd.prog 30 #[.string ⟨#[34, 35, 60, 62, 92, 94, 123, 124, 125]⟩, .int .u8 (c.toNat : Int)] w fun e w' => e = .returned (.int .i64 (ixI c bar9)) ∧ w' = w := by
  have h := find_any ⟨#[34, 35, 60, 62, 92, 94, 123, 124, 125]⟩ c w (by decide)
  exact h
theorem findHost (c : UInt8) (w : World) : Calls Tryd.prog 30 #[.string ⟨hostL.toArray⟩, .int .u8 (c.toNat : Int)] w fun e w' => e = .returned (.int .i64 (ixI c hostL)) ∧ w' = w := by
  have h := find_any ⟨hostL.toArray⟩ c w (by decide)
  exact h

theorem all_yes {p : UInt8 → Bool} {l : List UInt8} (h : ∀ x ∈ l, p x = true) : allB p l = true := List.all_eq_true.2 h
theorem all_no {p : UInt8 → Bool} {s : ByteArray} {k : Nat} (hk : k < s.size) (h : p s[k] = false) : allB p s.data.toList = false := by
  unfold allB
  rw [List.all_eq_false]
  refine ⟨s[k], ?_, by simp [h]⟩
  rw [← get_at s k hk]
  exact List.getElem_mem _
theorem all_more {p : UInt8 → Bool} {s : ByteArray} {k : Nat} (hk : k < s.size) (h : ∀ x ∈ s.data.toList.take k, p x = true) (g : p s[k] = true) : ∀ x ∈ s.data.toList.take (k + 1), p x = true := by
  rw [take_snoc _ k (by rw [size_list]; exact hk), get_at s k hk]
  intro x hx
  rcases List.mem_append.1 hx with hx | hx
  · exact h x hx
  · obtain rfl : x = s[k] := by simpa using hx
    exact g

set_option maxRecDepth 100000 in
set_option maxHeartbeats 1000000 in
theorem refbytes_any (s : ByteArray) (w : World) (hs : s.size ≤ 1000000) :
    Calls Tryd.prog 33 #[.string s] w fun e w' => e = .returned (.bool (allB addrB s.data.toList)) ∧ w' = w := by
  go_enter Tryd.func33, Tryd.ntmps33
  go_wp2_with fail
  go_loop [3] (fun i => ∃ k : Nat, k ≤ s.size ∧ i = .int .i64 k ∧ Hid (∀ x ∈ s.data.toList.take k, addrB x = true)) (fun i => s.size - (intOf i).toNat)
  case atStart => exact ⟨0, Nat.zero_le _, rfl, by simp [Hid]⟩
  case round =>
    obtain ⟨k, hk, rfl, hall⟩ := hrel
    by_cases hlt : k < s.size
    · have hltz : (k : Int) < s.size := by omega
      by_cases h1 : (s[k]).toNat < 33
      · have HN := hide (all_no hlt (addr_no (Or.inl h1)))
        go_wp2_with fail
        go_ret
        exact ⟨by rw [HN.out]; rfl, rfl⟩
      have h1d : decide (((s[k]).toNat : Int) < 33) = false := decide_eq_false (by omega)
      by_cases h2 : 126 < (s[k]).toNat
      · have HN := hide (all_no hlt (addr_no (Or.inr (Or.inl h2))))
        go_wp2_with fail
        go_ret
        exact ⟨by rw [HN.out]; rfl, rfl⟩
      have h2d : decide (126 < ((s[k]).toNat : Int)) = false := decide_eq_false (by omega)
      by_cases h3 : s[k] = 96
      · have HN := hide (all_no hlt (addr_no (Or.inr (Or.inr (Or.inl h3)))))
        have h3d : (((s[k]).toNat : Int) == 96) = true := by rw [h3]; rfl
        clear h3
        go_wp2_with fail
        go_ret
        exact ⟨by rw [HN.out]; rfl, rfl⟩
      have h3d : (((s[k]).toNat : Int) == 96) = false := by
        rw [beq_eq_false_iff_ne]
        intro e
        have h96 : (96 : UInt8).toNat = 96 := rfl
        exact h3 (UInt8.toNat_inj.1 (by omega))
      have H3 := hide h3
      clear h3
      have hix := ix_ge s[k] bar9
      cases h4 : hasL s[k] bar9
      · rw [h4] at hix
        have HY := hide (all_more hlt hall.out (addr_yes h1 h2 H3.out h4))
        have HX := hide hix
        clear h4 hix
        go_wp2_with fail
        refine (findBar s[k] _).mono ?_
        rintro e w1 ⟨rfl, hw1⟩
        subst hw1
        have hixd := HX.out
        go_wp2_with fail
        exact ⟨⟨k + 1, by omega, by go_num, HY⟩, by simp [intOf]; omega⟩
      · rw [h4] at hix
        have HN := hide (all_no hlt (addr_no (Or.inr (Or.inr (Or.inr h4)))))
        have HX := hide hix
        clear h4 hix
        go_wp2_with fail
        refine (findBar s[k] _).mono ?_
        rintro e w1 ⟨rfl, hw1⟩
        subst hw1
        have hixd := HX.out
        go_wp2_with fail
        go_ret
        exact ⟨by rw [HN.out]; rfl, rfl⟩
    · have hd : decide ((k : Int) < s.size) = false := decide_eq_false (by omega)
      have HN : Hid (allB addrB s.data.toList = true) := by
        have := hall.out
        rw [List.take_of_length_le (by rw [size_list]; omega)] at this
        exact all_yes this
      go_wp2_with fail
      go_ret
      exact ⟨by rw [HN.out]; rfl, rfl⟩

theorem host_has (c : UInt8) : hostB c = hasL c hostL := by
  rw [hostB_iff, Bool.eq_iff_iff, hasL_iff, List.contains_iff_mem]

set_option maxRecDepth 100000 in
set_option maxHeartbeats 1000000 in
theorem refhost_any (s : ByteArray) (w : World) (hs : s.size ≤ 1000000) :
    Calls Tryd.prog 34 #[.string s] w fun e w' => e = .returned (.bool (hostOk s.data.toList)) ∧ w' = w := by
  go_enter Tryd.func34, Tryd.ntmps34
  go_wp2_with fail
  go_loop [3] (fun i => ∃ k : Nat, k ≤ s.size ∧ i = .int .i64 k ∧ Hid (∀ x ∈ s.data.toList.take k, hostB x = true)) (fun i => s.size - (intOf i).toNat)
  case atStart => exact ⟨0, Nat.zero_le _, rfl, by simp [Hid]⟩
  case round =>
    obtain ⟨k, hk, rfl, hall⟩ := hrel
    by_cases hlt : k < s.size
    · have hltz : (k : Int) < s.size := by omega
      have hix := ix_lt s[k] hostL
      rw [← host_has] at hix
      cases h4 : hostB s[k]
      · rw [h4] at hix
        have HN : Hid (hostOk s.data.toList = false) := by
          unfold Hid hostOk
          rw [all_no hlt h4]; simp
        have HX := hide hix
        clear h4 hix
        go_wp2_with fail
        refine (findHost s[k] _).mono ?_
        rintro e w1 ⟨rfl, hw1⟩
        subst hw1
        have hixd := HX.out
        simp only [Bool.not_false] at hixd
        go_wp2_with fail
        go_ret
        exact ⟨by rw [HN.out]; rfl, rfl⟩
      · rw [h4] at hix
        have HY := hide (all_more hlt hall.out h4)
        have HX := hide hix
        clear h4 hix
        go_wp2_with fail
        refine (findHost s[k] _).mono ?_
        rintro e w1 ⟨rfl, hw1⟩
        subst hw1
        have hixd := HX.out
        simp only [Bool.not_true] at hixd
        go_wp2_with fail
        exact ⟨⟨k + 1, by omega, by go_num, HY⟩, by simp [intOf]; omega⟩
    · have hd : decide ((k : Int) < s.size) = false := decide_eq_false (by omega)
      have HN : Hid (allB hostB s.data.toList = true) := by
        have := hall.out
        rw [List.take_of_length_le (by rw [size_list]; omega)] at this
        exact all_yes this
      by_cases h0 : 0 < s.size
      · by_cases h1 : s.size ≤ 100
        · have HR : Hid (hostOk s.data.toList = true) := by
            unfold Hid hostOk
            rw [HN.out, size_list, decide_eq_true h1]
            have : s.data.toList.isEmpty = false := by
              rw [List.isEmpty_eq_false_iff]
              intro e
              have := congrArg List.length e
              rw [size_list, List.length_nil] at this
              omega
            rw [this]; rfl
          go_wp2_with fail
          go_ret
          exact ⟨by rw [HR.out]; exact ret_bool (decide_eq_true (by omega)), rfl⟩
        · have HR : Hid (hostOk s.data.toList = false) := by
            unfold Hid hostOk
            rw [size_list, decide_eq_false h1]; simp
          have h1d : decide ((s.size : Int) ≤ 100) = false := decide_eq_false (by omega)
          go_wp2_with fail
          go_ret
          exact ⟨by rw [HR.out]; rfl, rfl⟩
      · have HR : Hid (hostOk s.data.toList = false) := by
          unfold Hid hostOk
          have : s.data.toList.isEmpty = true := by
            rw [List.isEmpty_iff]
            exact List.length_eq_zero_iff.1 (by rw [size_list]; omega)
          rw [this]; rfl
        have h0d : decide ((0 : Int) < (s.size : Int)) = false := decide_eq_false (by omega)
        go_wp2_with fail
        go_ret
        exact ⟨by rw [HR.out]; rfl, rfl⟩

end Go.Proofs.YtjegoceebdiaaaaDoor
