/- The walks of what finds the end of quotes, and of the document's own small functions. -/
import Derived.Test.YtojoidhjlbcijaaDoorWc
namespace Go.Proofs.YtojoidhjlbcijaaDoor
set_option linter.unusedVariables false
set_option linter.unusedSimpArgs false
set_option maxRecDepth 100000
open Go.RowKit

theorem u8_int {c : UInt8} {n : Nat} (h : c.toNat = n) : (c.toNat : Int) = (n : Int) := by rw [h]
theorem u8_eq_int {c d : UInt8} (h : c = d) : (c.toNat : Int) = (d.toNat : Int) := by rw [h]
theorem u8_ne_int {c d : UInt8} (h : c ≠ d) : ¬ (c.toNat : Int) = (d.toNat : Int) := fun e => h (UInt8.toNat_inj.1 (by omega))
theorem u8_beq (c d : UInt8) : ((c.toNat : Int) == (d.toNat : Int)) = decide (c = d) := by
  by_cases h : c = d
  · simp [h]
  · have := u8_ne_int h
    simp [h, this]
theorem u8_bne (c d : UInt8) : ((c.toNat : Int) != (d.toNat : Int)) = !decide (c = d) := by rw [← u8_beq]; rfl

def clS (s : ByteArray) (k : Nat) : Nat := cl s.data.toList k
theorem clS_le (s : ByteArray) (k : Nat) : clS s k ≤ s.size := by rw [← size_list]; exact cl_le _

theorem ret_bool {a b : Bool} (h : a = b) : Ending.returned (.bool a) = .returned (.bool b) := by rw [h]

set_option maxHeartbeats 1000000 in
theorem blank_any (c : UInt8) (w : World) :
    Calls Tryd.prog 56 #[.int .u8 (c.toNat : Int)] w fun e w' => e = .returned (.bool (blankB c)) ∧ w' = w := by
  have hc := c.toNat_lt
  have HB := hide (blankB_iff c)
  go_enter Tryd.func56, Tryd.ntmps56
  go_wp2
  all_goals (go_ret; refine ⟨ret_bool ?_, rfl⟩; rw [HB.out])
  all_goals (rw [Bool.eq_iff_iff]; simp; try omega)

set_option maxHeartbeats 1000000 in
theorem control_any (c : UInt8) (w : World) :
    Calls Tryd.prog 54 #[.int .u8 (c.toNat : Int)] w fun e w' => e = .returned (.bool (ctrlB c)) ∧ w' = w := by
  have hc := c.toNat_lt
  have HB := hide (ctrlB_iff c)
  go_enter Tryd.func54, Tryd.ntmps54
  go_wp2
  all_goals (go_ret; refine ⟨ret_bool ?_, rfl⟩; rw [HB.out])
  all_goals (rw [Bool.eq_iff_iff]; simp; try omega)

def signS : ByteArray := ⟨#[33, 35, 36, 37, 38, 39, 42, 43, 45, 46, 94, 95, 124, 126]⟩
theorem signS_list : signS.data.toList = signL := rfl
theorem signS_size : signS.size = 14 := rfl

set_option maxHeartbeats 4000000 in
theorem word_any (c : UInt8) (w : World) :
    Calls Tryd.prog 55 #[.int .u8 (c.toNat : Int)] w fun e w' => e = .returned (.bool (wordB c)) ∧ w' = w := by
  have hc := c.toNat_lt
  have HB := hide (wordB_iff c)
  obtain ⟨n, hn⟩ : ∃ n, c.toNat = n := ⟨_, rfl⟩
  obtain ⟨S, hS⟩ : ∃ S, S = signS := ⟨_, rfl⟩
  have hSs : S.size = 14 := by rw [hS]; rfl
  have HS := hide hS
  clear hS
  have HPB : Hid (plainB c = ((decide (97 ≤ n) && decide (n ≤ 122)) || (decide (65 ≤ n) && decide (n ≤ 90)) || (decide (48 ≤ n) && decide (n ≤ 57)) || decide (n = 96))) := by unfold Hid plainB; rw [hn]
  have HN := hide hn
  rw [hn] at hc ⊢
  clear hn
  have hr : ((97 ≤ n ∧ n ≤ 122) ∨ (65 ≤ n ∧ n ≤ 90) ∨ (48 ≤ n ∧ n ≤ 57) ∨ n = 96) ∨ (n < 48 ∨ (57 < n ∧ n < 65) ∨ (90 < n ∧ n < 96) ∨ 122 < n) := by omega
  rcases hr with hr | hr
  · have HP : Hid (plainB c = true) := by unfold Hid; rw [HPB.out]; simp; omega
    have HW : Hid (wordB c = true) := by unfold Hid; rw [HB.out, HP.out]; rfl
    rcases hr with ⟨h1, h2⟩ | ⟨h1, h2⟩ | ⟨h1, h2⟩ | h1
    all_goals (go_enter Tryd.func55, Tryd.ntmps55; go_wp2; go_ret; exact ⟨by rw [HW.out]; rfl, rfl⟩)
  · have HP : Hid (plainB c = false) := by unfold Hid; rw [HPB.out, Bool.eq_false_iff]; intro h; simp at h; omega
    have HW : Hid (wordB c = signL.contains c) := by unfold Hid; rw [HB.out, HP.out]; rfl
    have hlit : (⟨#[33, 35, 36, 37, 38, 39, 42, 43, 45, 46, 94, 95, 124, 126]⟩ : ByteArray) = S := HS.out.symm
    have e96 : ((n : Int) == 96) = false := by rw [beq_eq_false_iff_ne]; omega
    rcases hr with h1 | ⟨h1, h2⟩ | ⟨h1, h2⟩ | h1
    · go_enter Tryd.func55, Tryd.ntmps55
      go_wp2
      (try rw [hlit])
      go_loop [4] (fun i => ∃ k : Nat, k ≤ 14 ∧ i = .int .i64 k ∧ Hid (∀ d ∈ signL.take k, d ≠ c)) (fun i => 14 - (intOf i).toNat)
      case atStart => exact ⟨0, by omega, rfl, by simp [Hid]⟩
      case round =>
        obtain ⟨k, hk, rfl, hno⟩ := hrel
        by_cases hlt : k < 14
        · have hks : k < S.size := by rw [hSs]; exact hlt
          have hkz : (k : Int) < S.size := by omega
          obtain ⟨d, hd⟩ : ∃ d, S[k] = d := ⟨_, rfl⟩
          have hat : signL[k]? = some d := by
            rw [← signS_list, ← HS.out, List.getElem?_eq_getElem (by simpa using hks), get_at S k hks, hd]
          have HA := hide hat
          clear hat
          by_cases he : d = c
          · have hb : ((d.toNat : Int) == (n : Int)) = true := by rw [← HN.out, u8_beq, decide_eq_true he]
            have HM : Hid (signL.contains c = true) := by
              unfold Hid
              rw [← he]
              simpa using List.mem_of_getElem? HA.out
            clear he
            go_wp2
            go_ret
            exact ⟨by rw [HW.out, HM.out]; rfl, rfl⟩
          · have hb : ((d.toNat : Int) == (n : Int)) = false := by rw [← HN.out, u8_beq, decide_eq_false he]
            have HE := hide he
            clear he
            go_wp2
            refine ⟨⟨k + 1, by omega, by go_num, ?_⟩, by simp [intOf]; omega⟩
            unfold Hid
            intro x hx
            rw [List.take_add_one, HA.out] at hx
            rcases List.mem_append.1 hx with hx | hx
            · exact hno.out x hx
            · obtain rfl : x = d := by simpa using hx
              exact HE.out
        · obtain rfl : k = 14 := by omega
          have HM : Hid (signL.contains c = false) := by
            unfold Hid
            rw [Bool.eq_false_iff]
            intro h
            exact hno.out c (by simpa [signL] using h) rfl
          go_wp2
          go_ret
          exact ⟨by rw [HW.out, HM.out]; rfl, rfl⟩
    · have e57 : decide ((n : Int) ≤ 57) = false := decide_eq_false (by omega)
      go_enter Tryd.func55, Tryd.ntmps55
      go_wp2
      (try rw [hlit])
      go_loop [4] (fun i => ∃ k : Nat, k ≤ 14 ∧ i = .int .i64 k ∧ Hid (∀ d ∈ signL.take k, d ≠ c)) (fun i => 14 - (intOf i).toNat)
      case atStart => exact ⟨0, by omega, rfl, by simp [Hid]⟩
      case round =>
        obtain ⟨k, hk, rfl, hno⟩ := hrel
        by_cases hlt : k < 14
        · have hks : k < S.size := by rw [hSs]; exact hlt
          have hkz : (k : Int) < S.size := by omega
          obtain ⟨d, hd⟩ : ∃ d, S[k] = d := ⟨_, rfl⟩
          have hat : signL[k]? = some d := by
            rw [← signS_list, ← HS.out, List.getElem?_eq_getElem (by simpa using hks), get_at S k hks, hd]
          have HA := hide hat
          clear hat
          by_cases he : d = c
          · have hb : ((d.toNat : Int) == (n : Int)) = true := by rw [← HN.out, u8_beq, decide_eq_true he]
            have HM : Hid (signL.contains c = true) := by
              unfold Hid
              rw [← he]
              simpa using List.mem_of_getElem? HA.out
            clear he
            go_wp2
            go_ret
            exact ⟨by rw [HW.out, HM.out]; rfl, rfl⟩
          · have hb : ((d.toNat : Int) == (n : Int)) = false := by rw [← HN.out, u8_beq, decide_eq_false he]
            have HE := hide he
            clear he
            go_wp2
            refine ⟨⟨k + 1, by omega, by go_num, ?_⟩, by simp [intOf]; omega⟩
            unfold Hid
            intro x hx
            rw [List.take_add_one, HA.out] at hx
            rcases List.mem_append.1 hx with hx | hx
            · exact hno.out x hx
            · obtain rfl : x = d := by simpa using hx
              exact HE.out
        · obtain rfl : k = 14 := by omega
          have HM : Hid (signL.contains c = false) := by
            unfold Hid
            rw [Bool.eq_false_iff]
            intro h
            exact hno.out c (by simpa [signL] using h) rfl
          go_wp2
          go_ret
          exact ⟨by rw [HW.out, HM.out]; rfl, rfl⟩
    · have e57 : decide ((n : Int) ≤ 57) = false := decide_eq_false (by omega)
      have e90 : decide ((n : Int) ≤ 90) = false := decide_eq_false (by omega)
      go_enter Tryd.func55, Tryd.ntmps55
      go_wp2
      (try rw [hlit])
      go_loop [4] (fun i => ∃ k : Nat, k ≤ 14 ∧ i = .int .i64 k ∧ Hid (∀ d ∈ signL.take k, d ≠ c)) (fun i => 14 - (intOf i).toNat)
      case atStart => exact ⟨0, by omega, rfl, by simp [Hid]⟩
      case round =>
        obtain ⟨k, hk, rfl, hno⟩ := hrel
        by_cases hlt : k < 14
        · have hks : k < S.size := by rw [hSs]; exact hlt
          have hkz : (k : Int) < S.size := by omega
          obtain ⟨d, hd⟩ : ∃ d, S[k] = d := ⟨_, rfl⟩
          have hat : signL[k]? = some d := by
            rw [← signS_list, ← HS.out, List.getElem?_eq_getElem (by simpa using hks), get_at S k hks, hd]
          have HA := hide hat
          clear hat
          by_cases he : d = c
          · have hb : ((d.toNat : Int) == (n : Int)) = true := by rw [← HN.out, u8_beq, decide_eq_true he]
            have HM : Hid (signL.contains c = true) := by
              unfold Hid
              rw [← he]
              simpa using List.mem_of_getElem? HA.out
            clear he
            go_wp2
            go_ret
            exact ⟨by rw [HW.out, HM.out]; rfl, rfl⟩
          · have hb : ((d.toNat : Int) == (n : Int)) = false := by rw [← HN.out, u8_beq, decide_eq_false he]
            have HE := hide he
            clear he
            go_wp2
            refine ⟨⟨k + 1, by omega, by go_num, ?_⟩, by simp [intOf]; omega⟩
            unfold Hid
            intro x hx
            rw [List.take_add_one, HA.out] at hx
            rcases List.mem_append.1 hx with hx | hx
            · exact hno.out x hx
            · obtain rfl : x = d := by simpa using hx
              exact HE.out
        · obtain rfl : k = 14 := by omega
          have HM : Hid (signL.contains c = false) := by
            unfold Hid
            rw [Bool.eq_false_iff]
            intro h
            exact hno.out c (by simpa [signL] using h) rfl
          go_wp2
          go_ret
          exact ⟨by rw [HW.out, HM.out]; rfl, rfl⟩
    · have e57 : decide ((n : Int) ≤ 57) = false := decide_eq_false (by omega)
      have e90 : decide ((n : Int) ≤ 90) = false := decide_eq_false (by omega)
      have e122 : decide ((n : Int) ≤ 122) = false := decide_eq_false (by omega)
      go_enter Tryd.func55, Tryd.ntmps55
      go_wp2
      (try rw [hlit])
      go_loop [4] (fun i => ∃ k : Nat, k ≤ 14 ∧ i = .int .i64 k ∧ Hid (∀ d ∈ signL.take k, d ≠ c)) (fun i => 14 - (intOf i).toNat)
      case atStart => exact ⟨0, by omega, rfl, by simp [Hid]⟩
      case round =>
        obtain ⟨k, hk, rfl, hno⟩ := hrel
        by_cases hlt : k < 14
        · have hks : k < S.size := by rw [hSs]; exact hlt
          have hkz : (k : Int) < S.size := by omega
          obtain ⟨d, hd⟩ : ∃ d, S[k] = d := ⟨_, rfl⟩
          have hat : signL[k]? = some d := by
            rw [← signS_list, ← HS.out, List.getElem?_eq_getElem (by simpa using hks), get_at S k hks, hd]
          have HA := hide hat
          clear hat
          by_cases he : d = c
          · have hb : ((d.toNat : Int) == (n : Int)) = true := by rw [← HN.out, u8_beq, decide_eq_true he]
            have HM : Hid (signL.contains c = true) := by
              unfold Hid
              rw [← he]
              simpa using List.mem_of_getElem? HA.out
            clear he
            go_wp2
            go_ret
            exact ⟨by rw [HW.out, HM.out]; rfl, rfl⟩
          · have hb : ((d.toNat : Int) == (n : Int)) = false := by rw [← HN.out, u8_beq, decide_eq_false he]
            have HE := hide he
            clear he
            go_wp2
            refine ⟨⟨k + 1, by omega, by go_num, ?_⟩, by simp [intOf]; omega⟩
            unfold Hid
            intro x hx
            rw [List.take_add_one, HA.out] at hx
            rcases List.mem_append.1 hx with hx | hx
            · exact hno.out x hx
            · obtain rfl : x = d := by simpa using hx
              exact HE.out
        · obtain rfl : k = 14 := by omega
          have HM : Hid (signL.contains c = false) := by
            unfold Hid
            rw [Bool.eq_false_iff]
            intro h
            exact hno.out c (by simpa [signL] using h) rfl
          go_wp2
          go_ret
          exact ⟨by rw [HW.out, HM.out]; rfl, rfl⟩

end Go.Proofs.YtojoidhjlbcijaaDoor
