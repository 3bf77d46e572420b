/- The walks of what finds the end of quotes, and of the document's own small functions. The walks of the document's own answers: the end of quotes, trimming, tokens, small letters. The walks of the document's own answers on tokens, small letters and quotes. The walks of what puts other bytes in the place of some. The walks of small letters and quotes. -/
import Derived.Test.YtmpijlaidnhpnaaGreatJMa
import Derived.Laws.BytesArg
import Derived.OwnWalk
namespace Go.Proofs.YtmpijlaidnhpnaaGreat
set_option linter.unusedVariables false
set_option linter.unusedSimpArgs false
set_option maxRecDepth 100000
open Go.RowKit

theorem u8_ne_int {c d : UInt8} (h : c ≠ d) : ¬ (c.toNat : Int) = (d.toNat : Int) := fun e => h (UInt8.toNat_inj.1 (by omega))
theorem u8_beq (c d : UInt8) : ((c.toNat : Int) == (d.toNat : Int)) = decide (c = d) := by
  by_cases h : c = d
  · simp [h]
  · have := u8_ne_int h
    simp [h, this]
theorem ret_bool {a b : Bool} (h : a = b) : Ending.returned (.bool a) = .returned (.bool b) := by rw [h]

set_option maxHeartbeats 1000000 in
theorem blank_any (c : UInt8) (w : World) :
    Calls Tryz.prog 42 #[.int .u8 (c.toNat : Int)] w fun e w' => e = .returned (.bool (blankB c)) ∧ w' = w := by
  have hc := c.toNat_lt
  have HB := hide (blankB_iff c)
  go_enter Tryz.func42, Tryz.ntmps42
  go_wp2
  all_goals (go_ret; refine ⟨ret_bool ?_, rfl⟩; rw [HB.out])
  all_goals (rw [Bool.eq_iff_iff]; simp; try omega)

set_option maxHeartbeats 1000000 in
theorem control_any (c : UInt8) (w : World) :
    Calls Tryz.prog 29 #[.int .u8 (c.toNat : Int)] w fun e w' => e = .returned (.bool (ctrlB c)) ∧ w' = w := by
  have hc := c.toNat_lt
  have HB := hide (ctrlB_iff c)
  go_enter Tryz.func29, Tryz.ntmps29
  go_wp2
  all_goals (go_ret; refine ⟨ret_bool ?_, rfl⟩; rw [HB.out])
  all_goals (rw [Bool.eq_iff_iff]; simp; try omega)

def signS : ByteArray := ⟨#[33, 35, 36, 37, 38, 39, 42, 43, 45, 46, 94, 95, 124, 126]⟩
theorem signS_list : signS.data.toList = signL := rfl
set_option maxHeartbeats 4000000 in
theorem word_any (c : UInt8) (w : World) :
    Calls Tryz.prog 44 #[.int .u8 (c.toNat : Int)] w fun e w' => e = .returned (.bool (wordB c)) ∧ w' = w := by
  have hc := c.toNat_lt
  have HB := hide (wordB_iff c)
  obtain ⟨n, hn⟩ : ∃ n, c.toNat = n := ⟨_, rfl⟩
  obtain ⟨S, hS⟩ : ∃ S, S = signS := ⟨_, rfl⟩
  have hSs : S.size = 14 := by rw [hS]; rfl
  have HS := hide hS
  clear hS
  have HPB : Hid (plainB c = ((decide (97 ≤ n) && decide (n ≤ 122)) || (decide (65 ≤ n) && decide (n ≤ 90)) || (decide (48 ≤ n) && decide (n ≤ 57)) || decide (n = 96))) := by unfold Hid plainB; rw [hn]
  have HN := hide hn
  rw [hn] at hc ⊢
  clear hn
  have hr : ((97 ≤ n ∧ n ≤ 122) ∨ (65 ≤ n ∧ n ≤ 90) ∨ (48 ≤ n ∧ n ≤ 57) ∨ n = 96) ∨ (n < 48 ∨ (57 < n ∧ n < 65) ∨ (90 < n ∧ n < 96) ∨ 122 < n) := by omega
  rcases hr with hr | hr
  · have HP : Hid (plainB c = true) := by unfold Hid; rw [HPB.out]; simp; omega
    have HW : Hid (wordB c = true) := by unfold Hid; rw [HB.out, HP.out]; rfl
    rcases hr with ⟨h1, h2⟩ | ⟨h1, h2⟩ | ⟨h1, h2⟩ | h1
    all_goals (go_enter Tryz.func44, Tryz.ntmps44; go_wp2; go_ret; exact ⟨by rw [HW.out]; rfl, rfl⟩)
  · have HP : Hid (plainB c = false) := by unfold Hid; rw [HPB.out, Bool.eq_false_iff]; intro h; simp at h; omega
    have HW : Hid (wordB c = signL.contains c) := by unfold Hid; rw [HB.out, HP.out]; rfl
    have hlit : (⟨#[33, 35, 36, 37, 38, 39, 42, 43, 45, 46, 94, 95, 124, 126]⟩ : ByteArray) = S := HS.out.symm
    have e96 : ((n : Int) == 96) = false := by rw [beq_eq_false_iff_ne]; omega
    rcases hr with h1 | ⟨h1, h2⟩ | ⟨h1, h2⟩ | h1
    · go_enter Tryz.func44, Tryz.ntmps44
      go_wp2
      (try rw [hlit])
      go_loop [4] (fun i => ∃ k : Nat, k ≤ 14 ∧ i = .int .i64 k ∧ Hid (∀ d ∈ signL.take k, d ≠ c)) (fun i => 14 - (intOf i).toNat)
      case atStart => exact ⟨0, by omega, rfl, by simp [Hid]⟩
      case round =>
        obtain ⟨k, hk, rfl, hno⟩ := hrel
        by_cases hlt : k < 14
        · have hks : k < S.size := by rw [hSs]; exact hlt
          have hkz : (k : Int) < S.size := by omega
          obtain ⟨d, hd⟩ : ∃ d, S[k] = d := ⟨_, rfl⟩
          have hat : signL[k]? = some d := by
            rw [← signS_list, ← HS.out, List.getElem?_eq_getElem (by simpa using hks), get_at S k hks, hd]
          have HA := hide hat
          clear hat
          by_cases he : d = c
          · have hb : ((d.toNat : Int) == (n : Int)) = true := by rw [← HN.out, u8_beq, decide_eq_true he]
            have HM : Hid (signL.contains c = true) := by
              unfold Hid
              rw [← he]
              simpa using List.mem_of_getElem? HA.out
            clear he
            go_wp2
            go_ret
            exact ⟨by rw [HW.out, HM.out]; rfl, rfl⟩
          · have hb : ((d.toNat : Int) == (n : Int)) = false := by rw [← HN.out, u8_beq, decide_eq_false he]
            have HE := hide he
            clear he
            go_wp2
            refine ⟨⟨k + 1, by omega, by go_num, ?_⟩, by simp [intOf]; omega⟩
            unfold Hid
            intro x hx
            rw [List.take_add_one, HA.out] at hx
            rcases List.mem_append.1 hx with hx | hx
            · exact hno.out x hx
            · obtain rfl : x = d := by simpa using hx
              exact HE.out
        · obtain rfl : k = 14 := by omega
          have HM : Hid (signL.contains c = false) := by
            unfold Hid
            rw [Bool.eq_false_iff]
            intro h
            exact hno.out c (by simpa [signL] using h) rfl
          go_wp2
          go_ret
          exact ⟨by rw [HW.out, HM.out]; rfl, rfl⟩
    · have e57 : decide ((n : Int) ≤ 57) = false := decide_eq_false (by omega)
      go_enter Tryz.func44, Tryz.ntmps44
      go_wp2
      (try rw [hlit])
      go_loop [4] (fun i => ∃ k : Nat, k ≤ 14 ∧ i = .int .i64 k ∧ Hid (∀ d ∈ signL.take k, d ≠ c)) (fun i => 14 - (intOf i).toNat)
      case atStart => exact ⟨0, by omega, rfl, by simp [Hid]⟩
      case round =>
        obtain ⟨k, hk, rfl, hno⟩ := hrel
        by_cases hlt : k < 14
        · have hks : k < S.size := by rw [hSs]; exact hlt
          have hkz : (k : Int) < S.size := by omega
          obtain ⟨d, hd⟩ : ∃ d, S[k] = d := ⟨_, rfl⟩
          have hat : signL[k]? = some d := by
            rw [← signS_list, ← HS.out, List.getElem?_eq_getElem (by simpa using hks), get_at S k hks, hd]
          have HA := hide hat
          clear hat
          by_cases he : d = c
          · have hb : ((d.toNat : Int) == (n : Int)) = true := by rw [← HN.out, u8_beq, decide_eq_true he]
            have HM : Hid (signL.contains c = true) := by
              unfold Hid
              rw [← he]
              simpa using List.mem_of_getElem? HA.out
            clear he
            go_wp2
            go_ret
            exact ⟨by rw [HW.out, HM.out]; rfl, rfl⟩
          · have hb : ((d.toNat : Int) == (n : Int)) = false := by rw [← HN.out, u8_beq, decide_eq_false he]
            have HE := hide he
            clear he
            go_wp2
            refine ⟨⟨k + 1, by omega, by go_num, ?_⟩, by simp [intOf]; omega⟩
            unfold Hid
            intro x hx
            rw [List.take_add_one, HA.out] at hx
            rcases List.mem_append.1 hx with hx | hx
            · exact hno.out x hx
            · obtain rfl : x = d := by simpa using hx
              exact HE.out
        · obtain rfl : k = 14 := by omega
          have HM : Hid (signL.contains c = false) := by
            unfold Hid
            rw [Bool.eq_false_iff]
            intro h
            exact hno.out c (by simpa [signL] using h) rfl
          go_wp2
          go_ret
          exact ⟨by rw [HW.out, HM.out]; rfl, rfl⟩
    · have e57 : decide ((n : Int) ≤ 57) = false := decide_eq_false (by omega)
      have e90 : decide ((n : Int) ≤ 90) = false := decide_eq_false (by omega)
      go_enter Tryz.func44, Tryz.ntmps44
      go_wp2
      (try rw [hlit])
      go_loop [4] (fun i => ∃ k : Nat, k ≤ 14 ∧ i = .int .i64 k ∧ Hid (∀ d ∈ signL.take k, d ≠ c)) (fun i => 14 - (intOf i).toNat)
      case atStart => exact ⟨0, by omega, rfl, by simp [Hid]⟩
      case round =>
        obtain ⟨k, hk, rfl, hno⟩ := hrel
        by_cases hlt : k < 14
        · have hks : k < S.size := by rw [hSs]; exact hlt
          have hkz : (k : Int) < S.size := by omega
          obtain ⟨d, hd⟩ : ∃ d, S[k] = d := ⟨_, rfl⟩
          have hat : signL[k]? = some d := by
            rw [← signS_list, ← HS.out, List.getElem?_eq_getElem (by simpa using hks), get_at S k hks, hd]
          have HA := hide hat
          clear hat
          by_cases he : d = c
          · have hb : ((d.toNat : Int) == (n : Int)) = true := by rw [← HN.out, u8_beq, decide_eq_true he]
            have HM : Hid (signL.contains c = true) := by
              unfold Hid
              rw [← he]
              simpa using List.mem_of_getElem? HA.out
            clear he
            go_wp2
            go_ret
            exact ⟨by rw [HW.out, HM.out]; rfl, rfl⟩
          · have hb : ((d.toNat : Int) == (n : Int)) = false := by rw [← HN.out, u8_beq, decide_eq_false he]
            have HE := hide he
            clear he
            go_wp2
            refine ⟨⟨k + 1, by omega, by go_num, ?_⟩, by simp [intOf]; omega⟩
            unfold Hid
            intro x hx
            rw [List.take_add_one, HA.out] at hx
            rcases List.mem_append.1 hx with hx | hx
            · exact hno.out x hx
            · obtain rfl : x = d := by simpa using hx
              exact HE.out
        · obtain rfl : k = 14 := by omega
          have HM : Hid (signL.contains c = false) := by
            unfold Hid
            rw [Bool.eq_false_iff]
            intro h
            exact hno.out c (by simpa [signL] using h) rfl
          go_wp2
          go_ret
          exact ⟨by rw [HW.out, HM.out]; rfl, rfl⟩
    · have e57 : decide ((n : Int) ≤ 57) = false := decide_eq_false (by omega)
      have e90 : decide ((n : Int) ≤ 90) = false := decide_eq_false (by omega)
      have e122 : decide ((n : Int) ≤ 122) = false := decide_eq_false (by omega)
      go_enter Tryz.func44, Tryz.ntmps44
      go_wp2
      (try rw [hlit])
      go_loop [4] (fun i => ∃ k : Nat, k ≤ 14 ∧ i = .int .i64 k ∧ Hid (∀ d ∈ signL.take k, d ≠ c)) (fun i => 14 - (intOf i).toNat)
      case atStart => exact ⟨0, by omega, rfl, by simp [Hid]⟩
      case round =>
        obtain ⟨k, hk, rfl, hno⟩ := hrel
        by_cases hlt : k < 14
        · have hks : k < S.size := by rw [hSs]; exact hlt
          have hkz : (k : Int) < S.size := by omega
          obtain ⟨d, hd⟩ : ∃ d, S[k] = d := ⟨_, rfl⟩
          have hat : signL[k]? = some d := by
            rw [← signS_list, ← HS.out, List.getElem?_eq_getElem (by simpa using hks), get_at S k hks, hd]
          have HA := hide hat
          clear hat
          by_cases he : d = c
          · have hb : ((d.toNat : Int) == (n : Int)) = true := by rw [← HN.out, u8_beq, decide_eq_true he]
            have HM : Hid (signL.contains c = true) := by
              unfold Hid
              rw [← he]
              simpa using List.mem_of_getElem? HA.out
            clear he
            go_wp2
            go_ret
            exact ⟨by rw [HW.out, HM.out]; rfl, rfl⟩
          · have hb : ((d.toNat : Int) == (n : Int)) = false := by rw [← HN.out, u8_beq, decide_eq_false he]
            have HE := hide he
            clear he
            go_wp2
            refine ⟨⟨k + 1, by omega, by go_num, ?_⟩, by simp [intOf]; omega⟩
            unfold Hid
            intro x hx
            rw [List.take_add_one, HA.out] at hx
            rcases List.mem_append.1 hx with hx | hx
            · exact hno.out x hx
            · obtain rfl : x = d := by simpa using hx
              exact HE.out
        · obtain rfl : k = 14 := by omega
          have HM : Hid (signL.contains c = false) := by
            unfold Hid
            rw [Bool.eq_false_iff]
            intro h
            exact hno.out c (by simpa [signL] using h) rfl
          go_wp2
          go_ret
          exact ⟨by rw [HW.out, HM.out]; rfl, rfl⟩

end Go.Proofs.YtmpijlaidnhpnaaGreat

namespace Go.Proofs.YtmpijlaidnhpnaaGreat
set_option linter.unusedVariables false
set_option linter.unusedSimpArgs false
set_option maxRecDepth 100000
open Go.RowKit

theorem ret_int {k : IntKind} {a b : Int} (h : a = b) : Ending.returned (.int k a) = .returned (.int k b) := by rw [h]
theorem ret_str {a b : ByteArray} (h : a = b) : Ending.returned (.string a) = .returned (.string b) := by rw [h]

theorem drop_blank {x : ByteArray} (h : 0 < x.size) (hb : blankB x[0] = true) : (x.extract 1 x.size).data.toList.dropWhile blankB = x.data.toList.dropWhile blankB := by
  have h0 : 0 < x.data.toList.length := by simpa using h
  have e : x.data.toList = x[0] :: x.data.toList.drop 1 := by
    have := List.drop_eq_getElem_cons h0
    rw [get_at x 0 h] at this
    simpa using this
  rw [ext_drop]
  conv => rhs; rw [e, List.dropWhile_cons, if_pos hb]
theorem drop_done {x : ByteArray} (h : 0 < x.size → blankB (x.data.toList.headD 0) = false) : x.data.toList.dropWhile blankB = x.data.toList := by
  apply dropWhile_same
  intro c hc
  cases hl : x.data.toList with
  | nil => rw [hl] at hc; simp at hc
  | cons d l =>
    rw [hl] at hc h
    obtain rfl : d = c := by simpa using hc
    have : 0 < x.size := by rw [← size_list, hl]; simp
    simpa using h this
theorem last_blank {x : ByteArray} {m : Nat} (hm : x.size = m + 1) (hms : m < x.size) (hb : blankB (x[m]'hms) = true) : (x.extract 0 m).data.toList.reverse.dropWhile blankB = x.data.toList.reverse.dropWhile blankB := by
  have h0 : m < x.data.toList.length := by simpa using hms
  have e : x.data.toList = x.data.toList.take m ++ [x[m]'hms] := by
    have := take_snoc x.data.toList m h0
    rw [get_at x m hms, List.take_of_length_le (by rw [size_list]; omega)] at this
    exact this
  rw [ext_take]
  conv => rhs; rw [e, List.reverse_append]
  show _ = List.dropWhile blankB (x[m]'hms :: (x.data.toList.take m).reverse)
  rw [List.dropWhile_cons, if_pos hb]
theorem last_done {x : ByteArray} (h : ∀ c, x.data.toList.getLast? = some c → blankB c = false) : x.data.toList.reverse.dropWhile blankB = x.data.toList.reverse := by
  apply dropWhile_same
  intro c hc
  rw [List.head?_reverse] at hc
  exact h c hc
theorem head_at {x : ByteArray} (h : 0 < x.size) : x.data.toList.headD 0 = x[0] := by
  have h0 : 0 < x.data.toList.length := by simpa using h
  rw [← get_at x 0 h, List.headD_eq_head?_getD, List.head?_eq_getElem?, List.getElem?_eq_getElem h0]
  rfl
theorem trim_done {s x y : ByteArray} (h1 : x.data.toList.dropWhile blankB = s.data.toList.dropWhile blankB) (h2 : x.data.toList.dropWhile blankB = x.data.toList)
    (h3 : y.data.toList.reverse.dropWhile blankB = x.data.toList.reverse.dropWhile blankB) (h4 : y.data.toList.reverse.dropWhile blankB = y.data.toList.reverse) : y = trimS s := by
  apply bytes_ext
  rw [trimS_list, trimL, ← h1, h2, ← h3, h4, List.reverse_reverse]
theorem last_at {x : ByteArray} {m : Nat} (hm : x.size = m + 1) (hms : m < x.size) : x.data.toList.getLast? = some (x[m]'hms) := by
  rw [List.getLast?_eq_getElem?, size_list, show x.size - 1 = m by omega, List.getElem?_eq_getElem (by rw [size_list]; omega), get_at x m hms]

set_option maxHeartbeats 1000000 in
theorem reftrim_any (s : ByteArray) (w : World) (hs : s.size ≤ 1000000) :
    Calls Tryz.prog 30 #[.string s] w fun e w' => e = .returned (.string (trimS s)) ∧ w' = w := by
  go_enter Tryz.func30, Tryz.ntmps30
  go_wp2_with fail
  go_loop [0] (fun z => ∃ x : ByteArray, x.size ≤ s.size ∧ z = .string x ∧ Hid (x.data.toList.dropWhile blankB = s.data.toList.dropWhile blankB)) (fun z => match z with | .string x => x.size | _ => 0)
  case atStart => exact ⟨s, Nat.le_refl _, rfl, rfl⟩
  case round =>
    obtain ⟨x, hx, rfl, hd⟩ := hrel
    by_cases h0 : 0 < x.size
    · have h0z : (0 : Int) < x.size := by omega
      have hsz : (x.extract 1 x.size).size = x.size - 1 := by rw [ByteArray.size_extract]; omega
      have HD := hide (drop_blank h0)
      cases hb : blankB x[0]
      · have HX : Hid (x.data.toList.dropWhile blankB = x.data.toList) := drop_done fun _ => by rw [head_at h0]; exact hb
        go_wp2_with (go_at_call 42; refine (blank_any _ _).mono ?_; rintro e w' ⟨rfl, rfl⟩; rw [hb])
        clear hb
        go_loop [0] (fun z => ∃ y : ByteArray, y.size ≤ s.size ∧ z = .string y ∧ Hid (y.data.toList.reverse.dropWhile blankB = x.data.toList.reverse.dropWhile blankB)) (fun z => match z with | .string y => y.size | _ => 0)
        case atStart => exact ⟨x, hx, rfl, rfl⟩
        case round =>
          obtain ⟨y, hy, rfl, hr⟩ := hrel
          by_cases g0 : 0 < y.size
          · have g0z : (0 : Int) < y.size := by omega
            obtain ⟨m, hm⟩ : ∃ m, y.size - 1 = m := ⟨_, rfl⟩
            have hms : m < y.size := by omega
            have hmz : (y.size : Int) - 1 = (m : Int) := by omega
            have hsy : (y.extract 0 m).size = y.size - 1 := by rw [ByteArray.size_extract]; omega
            have hle := last_at (by omega : y.size = m + 1) hms
            have hlb := last_blank (by omega : y.size = m + 1) hms
            have HLE := hide hle
            have HLB := hide hlb
            have HM := hide hm
            clear hm hle hlb
            cases hc : blankB y[m]
            · go_wp2_with (go_at_call 42; refine (blank_any _ _).mono ?_; rintro e w' ⟨rfl, rfl⟩; rw [hc])
              go_ret
              refine ⟨ret_str (trim_done hd.out HX.out hr.out (last_done ?_)), rfl⟩
              intro c hcc
              rw [HLE.out] at hcc
              obtain rfl := Option.some.inj hcc
              exact hc
            · go_wp2_with (go_at_call 42; refine (blank_any _ _).mono ?_; rintro e w' ⟨rfl, rfl⟩; rw [hc])
              refine ⟨⟨y.extract 0 m, by omega, rfl, ?_⟩, by show (y.extract 0 m).size < y.size; omega⟩
              exact (HLB.out hc).trans hr.out
          · have gd : decide ((0 : Int) < y.size) = false := decide_eq_false (by omega)
            go_wp2_with fail
            go_ret
            refine ⟨ret_str (trim_done hd.out HX.out hr.out (last_done ?_)), rfl⟩
            intro c hcc
            have : y.data.toList = [] := List.length_eq_zero_iff.1 (by rw [size_list]; omega)
            rw [this] at hcc
            simp at hcc
      · go_wp2_with (go_at_call 42; refine (blank_any _ _).mono ?_; rintro e w' ⟨rfl, rfl⟩; rw [hb])
        refine ⟨⟨x.extract 1 x.size, by omega, rfl, ?_⟩, by show (x.extract 1 x.size).size < x.size; omega⟩
        exact (HD.out hb).trans hd.out
    · have hdd : decide ((0 : Int) < x.size) = false := decide_eq_false (by omega)
      have HX : Hid (x.data.toList.dropWhile blankB = x.data.toList) := drop_done fun h => absurd h h0
      go_wp2_with fail
      go_loop [0] (fun z => ∃ y : ByteArray, y.size ≤ s.size ∧ z = .string y ∧ Hid (y.data.toList.reverse.dropWhile blankB = x.data.toList.reverse.dropWhile blankB)) (fun z => match z with | .string y => y.size | _ => 0)
      case atStart => exact ⟨x, hx, rfl, rfl⟩
      case round =>
        obtain ⟨y, hy, rfl, hr⟩ := hrel
        by_cases g0 : 0 < y.size
        · have g0z : (0 : Int) < y.size := by omega
          obtain ⟨m, hm⟩ : ∃ m, y.size - 1 = m := ⟨_, rfl⟩
          have hms : m < y.size := by omega
          have hmz : (y.size : Int) - 1 = (m : Int) := by omega
          have hsy : (y.extract 0 m).size = y.size - 1 := by rw [ByteArray.size_extract]; omega
          have hle := last_at (by omega : y.size = m + 1) hms
          have hlb := last_blank (by omega : y.size = m + 1) hms
          have HLE := hide hle
          have HLB := hide hlb
          have HM := hide hm
          clear hm hle hlb
          cases hc : blankB y[m]
          · go_wp2_with (go_at_call 42; refine (blank_any _ _).mono ?_; rintro e w' ⟨rfl, rfl⟩; rw [hc])
            go_ret
            refine ⟨ret_str (trim_done hd.out HX.out hr.out (last_done ?_)), rfl⟩
            intro c hcc
            rw [HLE.out] at hcc
            obtain rfl := Option.some.inj hcc
            exact hc
          · go_wp2_with (go_at_call 42; refine (blank_any _ _).mono ?_; rintro e w' ⟨rfl, rfl⟩; rw [hc])
            refine ⟨⟨y.extract 0 m, by omega, rfl, ?_⟩, by show (y.extract 0 m).size < y.size; omega⟩
            exact (HLB.out hc).trans hr.out
        · have gd : decide ((0 : Int) < y.size) = false := decide_eq_false (by omega)
          go_wp2_with fail
          go_ret
          refine ⟨ret_str (trim_done hd.out HX.out hr.out (last_done ?_)), rfl⟩
          intro c hcc
          have : y.data.toList = [] := List.length_eq_zero_iff.1 (by rw [size_list]; omega)
          rw [this] at hcc
          simp at hcc

end Go.Proofs.YtmpijlaidnhpnaaGreat

namespace Go.Proofs.YtmpijlaidnhpnaaGreat
set_option linter.unusedVariables false
set_option linter.unusedSimpArgs false
set_option maxRecDepth 100000
open Go.RowKit

theorem tok_of {s : ByteArray} (h : ∀ c ∈ s.data.toList, wordB c = true) : tokB s = !s.toList.isEmpty := by
  unfold tokB tokL
  rw [List.all_eq_true.2 h, Bool.and_true, ByteArray.toList_eq]
theorem tok_not {s : ByteArray} {c : UInt8} (h : c ∈ s.data.toList) (g : wordB c = false) : tokB s = false := by
  unfold tokB tokL
  rw [Bool.and_eq_false_iff]
  right
  rw [List.all_eq_false]
  exact ⟨c, h, by simp [g]⟩

theorem one_byte (w : World) (c : UInt8) (x : Int) (hx : x = (c.toNat : Int)) : Sem.run Tryz.prog (convert 55 9 (.slice (some ⟨w.heap.size, 0, none⟩) 1 1)) (w.alloc (.cells #[.int .u8 x] 5)) = .ok (.string ⟨#[c]⟩) (w.alloc (.cells #[.int .u8 x] 5)) := by
  subst hx
  exact run_convert_bytes_back (P := Tryz.prog) _ 55 9 5 ⟨w.heap.size, 0, none⟩ 1 [c] Tryz.underlying55 Tryz.underlying5 Tryz.underlying9 (fun j hj => by
    obtain rfl : j = 0 := by simpa using hj
    simp [add_none])

set_option maxHeartbeats 1000000 in
theorem reftoken_any (s : ByteArray) (w : World) (hs : s.size ≤ 1000000) :
    Calls Tryz.prog 32 #[.string s] w fun e w' => e = .returned (.bool (tokB s)) ∧ w' = w := by
  have HZ : Hid (s.data.toList.length = s.size) := by unfold Hid; simp
  go_enter Tryz.func32, Tryz.ntmps32
  go_wp2_with fail
  go_loop [3] (fun i => ∃ k : Nat, k ≤ s.size ∧ i = .int .i64 k ∧ Hid (∀ c ∈ s.data.toList.take k, wordB c = true)) (fun i => s.size - (intOf i).toNat)
  case atStart => exact ⟨0, Nat.zero_le _, rfl, by simp [Hid]⟩
  case round =>
    obtain ⟨k, hk, rfl, hall⟩ := hrel
    by_cases hlt : k < s.size
    · have hltz : (k : Int) < s.size := by omega
      have HT : Hid (s.data.toList.take (k + 1) = s.data.toList.take k ++ [s[k]]) := by
        unfold Hid; rw [take_snoc _ k (by rw [HZ.out]; exact hlt), get_at s k hlt]
      cases hb : wordB s[k]
      · have HN : Hid (tokB s = false) := tok_not (by rw [← List.take_append_drop (k + 1) s.data.toList, HT.out]; simp) hb
        go_wp2_with (go_at_call 44; refine (word_any _ _).mono ?_; rintro e w' ⟨rfl, rfl⟩; rw [hb])
        go_ret
        exact ⟨by rw [HN.out]; rfl, rfl⟩
      · go_wp2_with (go_at_call 44; refine (word_any _ _).mono ?_; rintro e w' ⟨rfl, rfl⟩; rw [hb])
        refine ⟨⟨k + 1, by omega, by go_num, ?_⟩, by simp [intOf]; omega⟩
        unfold Hid
        rw [HT.out]
        intro c hc
        rcases List.mem_append.1 hc with hc | hc
        · exact hall.out c hc
        · obtain rfl : c = s[k] := by simpa using hc
          exact hb
    · have hd : decide ((k : Int) < s.size) = false := decide_eq_false (by omega)
      rw [List.take_of_length_le (by rw [HZ.out]; omega)] at hall
      have HN := hide (tok_of hall.out)
      go_wp2_with fail
      go_ret
      refine ⟨?_, rfl⟩
      rw [HN.out]
      rfl

def lowS (s : ByteArray) : ByteArray := ⟨(lowL s.data.toList).toArray⟩
/-- The small letters of the first k bytes. -/
def lowT (s : ByteArray) (k : Nat) : ByteArray := ⟨(lowL (s.data.toList.take k)).toArray⟩
theorem lowT_zero (s : ByteArray) : lowT s 0 = ⟨#[]⟩ := by simp [lowT, lowL]
theorem lowT_size (s : ByteArray) (k : Nat) : (lowT s k).size ≤ k := by
  rw [← size_list]; simp [lowT, lowL]; omega
theorem lowT_succ {s : ByteArray} {k : Nat} (h : k < s.size) : lowT s k ++ ⟨#[lowB s[k]]⟩ = lowT s (k + 1) := by
  apply bytes_ext
  rw [app_list]
  simp only [lowT, List.toList_toArray]
  rw [take_snoc _ k (by rw [size_list]; exact h), get_at s k h]
  simp [lowL]
theorem lowT_all {s : ByteArray} {k : Nat} (h : s.size ≤ k) : lowT s k = lowS s := by
  unfold lowT lowS
  rw [List.take_of_length_le (by rw [size_list]; exact h)]
theorem low_yes {c : UInt8} (h : 65 ≤ c.toNat) (g : c.toNat ≤ 90) : ((lowB c).toNat : Int) = (c.toNat : Int) + 32 := by
  have hc : capB c = true := by rw [capB_iff]; simp [h, g]
  unfold lowB
  rw [if_pos hc, UInt8.toNat_add]
  have : (32 : UInt8).toNat = 32 := rfl
  rw [this]
  omega
theorem low_no {c : UInt8} (h : ¬ (65 ≤ c.toNat ∧ c.toNat ≤ 90)) : lowB c = c := by
  have hc : capB c = false := by rw [capB_iff]; simp; omega
  unfold lowB
  rw [if_neg (by simp [hc])]

set_option maxHeartbeats 1000000 in
theorem reflower_any (s : ByteArray) (w : World) (hs : s.size ≤ 1000000) :
    Calls Tryz.prog 87 #[.string s] w fun e w' => e = .returned (.string (lowS s)) ∧ Below w.heap.size w w' := by
  go_enter Tryz.func87, Tryz.ntmps87
  go_wp2_with fail
  go_loopw [3, 4] (fun o i wr => ∃ k : Nat, k ≤ s.size ∧ i = .int .i64 k ∧ o = .string (lowT s k) ∧ Below w.heap.size w wr) (fun _ i _ => s.size - (intOf i).toNat)
  case atStart => exact ⟨0, Nat.zero_le _, rfl, by rw [lowT_zero], Below.refl _ _⟩
  case round =>
    obtain ⟨k, hk, rfl, rfl, hbr⟩ := hrel
    have hts := lowT_size s k
    by_cases hlt : k < s.size
    · have hltz : (k : Int) < s.size := by omega
      have hc := (s[k]).toNat_lt
      have HS := hide (lowT_succ hlt)
      have hBN : ∀ x, Below w.heap.size w (wr.alloc (.cells #[x] 5)) := fun x => hbr.alloc hbr.size _
      have HBN := hide hBN
      clear hBN
      by_cases hcap : 65 ≤ (s[k]).toNat ∧ (s[k]).toNat ≤ 90
      · obtain ⟨h1, h2⟩ := hcap
        have hcv := one_byte wr (lowB s[k]) ((s[k]).toNat + 32) (low_yes h1 h2).symm
        go_wp2_with fail
        refine ⟨⟨k + 1, by omega, by go_num, by rw [← HS.out], HBN.out _⟩, by simp [intOf]; omega⟩
      · have hlo := low_no hcap
        rw [hlo] at HS
        have hcv := one_byte wr s[k] (s[k]).toNat rfl
        clear hlo
        by_cases h1 : 65 ≤ (s[k]).toNat
        · have h2 : ¬ (s[k]).toNat ≤ 90 := fun h => hcap ⟨h1, h⟩
          have h2d : decide (((s[k]).toNat : Int) ≤ 90) = false := decide_eq_false (by omega)
          clear hcap
          go_wp2_with fail
          refine ⟨⟨k + 1, by omega, by go_num, by rw [← HS.out], HBN.out _⟩, by simp [intOf]; omega⟩
        · clear hcap
          go_wp2_with fail
          refine ⟨⟨k + 1, by omega, by go_num, by rw [← HS.out], HBN.out _⟩, by simp [intOf]; omega⟩
    · have hd : decide ((k : Int) < s.size) = false := decide_eq_false (by omega)
      have HS := hide (lowT_all (s := s) (k := k) (by omega))
      go_wp2_with fail
      go_ret
      exact ⟨ret_str HS.out, hbr⟩

end Go.Proofs.YtmpijlaidnhpnaaGreat

namespace Go.Proofs.YtmpijlaidnhpnaaGreat
set_option linter.unusedVariables false
set_option linter.unusedSimpArgs false
set_option maxRecDepth 100000
open Go.RowKit

theorem Tryz.info5 : (Tryz.prog.info? 5).map (fun i => (i.zero, i.size, i.bytes)) = some (some (.int .u8 0), 1, 1) := by kernel_rfl
theorem Tryz.info9 : (Tryz.prog.info? 9).map (fun i => (i.zero, i.size, i.bytes)) = some (some (.string ⟨#[]⟩), 1, 16) := by kernel_rfl

/-- What a call owns stays owned behind what turns nothing of old. -/
theorem owns_below {w w' : World} {base : Nat} {e : TypeId} {size : Nat} {v : Value} {n : Nat} {xs : List Value} (h : w.ownsRow base e size v n xs) (hb : Below w.heap.size w w') : w'.ownsRow base e size v n xs := by
  refine ⟨h.1, ?_⟩
  rcases h.2 with h | ⟨g, cap, cur, h1, h2, h3, h4⟩
  · exact Or.inl h
  · exact Or.inr ⟨g, cap, cur, h1, h2, (hb.block g (Array.getElem?_eq_some_iff.1 h3).1).trans h3, h4⟩
theorem owns_drew {w : World} {base : Nat} {e : TypeId} {size : Nat} {v : Value} {n : Nat} {xs : List Value} (h : w.ownsRow base e size v n xs) : w.drew.ownsRow base e size v n xs := h

/-- Bytes as cells. -/
def u8s (l : List UInt8) : List Value := l.map fun c => .int .u8 (c.toNat : Int)
theorem u8s_append (l m : List UInt8) : u8s (l ++ m) = u8s l ++ u8s m := by simp [u8s]
theorem u8s_one (l : List UInt8) : ∀ u ∈ u8s l, u.oneCell' = true := by
  intro u hu
  obtain ⟨c, _, rfl⟩ := List.mem_map.1 hu
  rfl

/-- Owned bytes as a text. -/
theorem conv_own {w : World} {base : Nat} {v : Value} {l : List UInt8} (h : w.ownsRow base 5 1 v l.length (u8s l)) : Sem.run Tryz.prog (convert 55 9 v) w = .ok (.string ⟨l.toArray⟩) w := by
  rcases h.2 with ⟨rfl, h0⟩ | ⟨g, cap, cur, rfl, h2, h3, h4, h5, h6, h7⟩
  · obtain rfl : l = [] := List.length_eq_zero_iff.1 h0
    exact run_convert_bytes_nil (P := Tryz.prog) w 55 5 Tryz.underlying55 Tryz.underlying5 0 0 9 Tryz.underlying9
  · have hcell : ∀ j (hj : j < l.length), w.cell? ((⟨g, 0, none⟩ : Addr).add j) = some (.int .u8 (l[j].toNat : Int)) := by
      intro j hj
      rw [add_none, Nat.zero_add, cell_of_row w g j cur 5 (0, 0) h3]
      have : (u8s l)[j]? = some (.int .u8 (l[j].toNat : Int)) := by simp [u8s, hj]
      rw [← h7, List.getElem?_take, if_pos (by omega)] at this
      simpa using this
    exact run_convert_bytes_back (P := Tryz.prog) w 55 9 5 ⟨g, 0, none⟩ cap l Tryz.underlying55 Tryz.underlying5 Tryz.underlying9 hcell

theorem Lies.alloc {w w' : World} {l : List UInt8} (h : Lies w l w') (o : Obj) : Lies w l (w'.alloc o) := h.below ((Below.refl _ _).alloc (Nat.le_refl _) o)
theorem Lies.grown {w w1 w2 : World} {l : List UInt8} {e : TypeId} {size : Nat} {v : Value} {n : Nat} {xs : List Value} (h : Lies w l w1) (ho : w1.ownsRow (w.heap.size + 1) e size v n xs) (hg : w1.grownBy w2 v.ownBlock) : Lies w l w2 := by
  have hk : ∀ k, v.ownBlock = some k → w.heap.size + 1 ≤ k := fun k hk => (ho.lt k hk).1
  refine ⟨(hg.block _ h.lt (fun e => ?_)).trans h.1, h.2.grown hg (Nat.le_of_lt h.lt) (fun k hk' => by have := hk k hk'; omega)⟩
  have := hk _ e.symm
  omega

set_option maxHeartbeats 1000000 in
theorem low1_any (c : UInt8) (hc : capB c = true) (w : World) :
    Calls Tryz.prog 118 #[.int .u8 (c.toNat : Int)] w fun e w' => e = .returned (.slice (some ⟨w.heap.size, 0, none⟩) 1 1) ∧ w' = w.alloc (.cells (u8s [lowB c]).toArray 5) := by
  rw [capB_iff] at hc
  simp only [Bool.and_eq_true, decide_eq_true_eq] at hc
  obtain ⟨h1, h2⟩ := hc
  have HL := hide (low_yes h1 h2)
  go_enter Tryz.func118, Tryz.ntmps118
  go_wp2
  go_ret
  refine ⟨rfl, ?_⟩
  simp only [u8s, List.map_cons, List.map_nil]
  rw [HL.out, show ((c.toNat : Int)) - 65 + 97 = c.toNat + 32 by omega]

theorem flat_le (l : List UInt8) (f : UInt8 → List UInt8) (h : ∀ c, (f c).length ≤ 2) : (l.flatMap f).length ≤ 2 * l.length := by
  induction l with
  | nil => simp
  | cons c l ih =>
    rw [List.flatMap_cons, List.length_append, List.length_cons]
    have := h c
    omega
def lows1 (c : UInt8) : List UInt8 := [lowB c]
theorem lows1_no {c : UInt8} (h : capB c = false) : lows1 c = [c] := by
  unfold lows1 lowB; rw [if_neg (by simp [h])]
theorem flat_low (l : List UInt8) : l.flatMap lows1 = lowL l := by
  induction l with
  | nil => rfl
  | cons c l ih => rw [List.flatMap_cons, ih]; rfl

set_option maxHeartbeats 2000000 in
theorem rewrite_low (s : ByteArray) (w : World) (hs : s.size ≤ 1000000) :
    Calls Tryz.prog 115 #[.string s, .agg (Lib.setCells capsL), .func (.func 117) #[] #[], .func (.func 118) #[] #[]] w fun e w' => e = .returned (.string ⟨(s.data.toList.flatMap lows1).toArray⟩) ∧ Below w.heap.size w w' := by
  have HZ : Hid (s.data.toList.length = s.size) := by unfold Hid; simp
  obtain ⟨i0, hi0, hz0, hz1, hz2⟩ := info_parts Tryz.info5
  go_enter Tryz.func115, Tryz.ntmps115
  go_wp2_with fail
  go_loopw [9, 13] (fun v i wr => ∃ k : Nat, k ≤ s.size ∧ i = .int .i64 k ∧ Lies w capsL wr ∧ wr.ownsRow (w.heap.size + 1) 5 1 v ((s.data.toList.take k).flatMap lows1).length (u8s ((s.data.toList.take k).flatMap lows1))) (fun _ i _ => s.size - (intOf i).toNat)
  case atStart => exact ⟨0, Nat.zero_le _, rfl, Lies.new _ _, World.ownsRow_nil _ _ _ _⟩
  case round =>
    obtain ⟨k, hk, rfl, hli, hown⟩ := hrel
    by_cases hlt : k < s.size
    · have hltz : (k : Int) < s.size := by omega
      obtain ⟨b, hb⟩ : ∃ b, capB s[k] = b := ⟨_, rfl⟩
      have HB := hide hb
      have HT : Hid (s.data.toList.take (k + 1) = s.data.toList.take k ++ [s[k]]) := by
        unfold Hid; rw [take_snoc _ k (by rw [HZ.out]; exact hlt), get_at s k hlt]
      have HF : Hid ((s.data.toList.take (k + 1)).flatMap lows1 = (s.data.toList.take k).flatMap lows1 ++ lows1 s[k]) := by
        unfold Hid; rw [HT.out, List.flatMap_append]; simp
      have HLE : Hid (((s.data.toList.take k).flatMap lows1).length ≤ 2 * k) := by
        unfold Hid
        refine Nat.le_trans (flat_le _ lows1 (by intro c; simp [lows1])) ?_
        rw [List.length_take]; omega
      obtain ⟨F, hF⟩ : ∃ F, (s.data.toList.take k).flatMap lows1 = F := ⟨_, rfl⟩
      rw [hF] at HF HLE hown
      clear hF
      have hu := Tryz.underlying134
      have hi := len39 capsL
      go_wp2_with fail
      go_region_held3 (fun w' => Lies w capsL w' ∧ w'.rangeAt w.heap.size 0 (Lib.setCells capsL).toList)
        (first | exact ⟨hli.drew, hli.drew.range⟩ | exact ⟨hli.drew.below (by assumption), (hli.drew.below (by assumption)).range⟩)
        (first | (go_at_call 117; refine (has_any capsL s[k] b hb _).mono ?_; rintro e w1 ⟨rfl, hw1⟩))
      rename_i hS
      obtain ⟨hl1, -⟩ := hS
      have ho1 := owns_below (owns_drew hown) hw1
      clear hi hu hw1 hli hown
      cases b
      · have hlw := hl1.lt
        have hla := hl1.alloc (.cells #[.int .u8 ((s[k]).toNat : Int)] 5)
        have hoa := ho1.alloc (.cells #[.int .u8 ((s[k]).toNat : Int)] 5)
        have h63 : F.length + 1 ≤ maxLen := maxLen_of (by have := HLE.out; omega)
        have hby : (F.length + 1) * 1 ≤ 140737488355328 := by have := HLE.out; omega
        have hba : w.heap.size + 1 ≤ (w1.alloc (.cells #[.int .u8 ((s[k]).toNat : Int)] 5)).heap.size := by simp; omega
        have hce : ∀ j u, [Value.int .u8 ((s[k]).toNat : Int)][j]? = some u → (w1.alloc (.cells #[.int .u8 ((s[k]).toNat : Int)] 5)).cell? ((⟨w1.heap.size, 0, none⟩ : Addr).add j) = some u := by
          intro j u hj
          rw [add_none, Nat.zero_add, World.cell?_alloc_new]
          simpa using hj
        have HX := hide (And.intro h63 (And.intro hby (And.intro hba (And.intro hce (And.intro hla hoa)))))
        clear h63 hby hba hce hla hoa ho1
        go_wp2_with (at_builtin; refine wpList_append_own _ rfl (.tmp 29) (.tmp 33) 55 rfl (w.heap.size + 1) 5 i0 (.int .u8 0) 1 1 Tryz.underlying55 hi0 hz0 hz1 hz2 rfl (by decide) _ _ _ rfl HX.out.2.2.2.2.2 ⟨w1.heap.size, 0, none⟩ 1 1 [.int .u8 ((s[k]).toNat : Int)] rfl rfl HX.out.2.2.2.1 (by intro u hu; simp at hu; subst hu; rfl) HX.out.1 HX.out.2.1 HX.out.2.2.1 ?_; intro v' w2 ho2 hg2 _)
        have hl2 := HX.out.2.2.2.2.1.grown HX.out.2.2.2.2.2 hg2
        refine ⟨⟨k + 1, by omega, by go_num, hl2, ?_⟩, by simp [intOf]; omega⟩
        rw [HF.out, lows1_no HB.out, List.length_append, u8s_append]
        exact ho2
      · have hlw := hl1.lt
        have hla := hl1.alloc (.cells (u8s [lowB s[k]]).toArray 5)
        have hoa := ho1.alloc (.cells (u8s [lowB s[k]]).toArray 5)
        have h63 : F.length + 1 ≤ maxLen := maxLen_of (by have := HLE.out; omega)
        have hby : (F.length + 1) * 1 ≤ 140737488355328 := by have := HLE.out; omega
        have hba : w.heap.size + 1 ≤ (w1.alloc (.cells (u8s [lowB s[k]]).toArray 5)).heap.size := by simp; omega
        have hce : ∀ j u, (u8s [lowB s[k]])[j]? = some u → (w1.alloc (.cells (u8s [lowB s[k]]).toArray 5)).cell? ((⟨w1.heap.size, 0, none⟩ : Addr).add j) = some u := by
          intro j u hj
          rw [add_none, Nat.zero_add, World.cell?_alloc_new]
          simpa using hj
        have HX := hide (And.intro h63 (And.intro hby (And.intro hba (And.intro hce (And.intro hla hoa)))))
        clear h63 hby hba hce hla hoa ho1
        go_wp2_with fail
        refine (low1_any s[k] HB.out _).mono ?_
        rintro e w2 ⟨rfl, hw2⟩
        rw [← hw2] at HX
        clear hw2
        go_wp2_with (at_builtin; refine wpList_append_own _ rfl (.tmp 22) (.tmp 27) 55 rfl (w.heap.size + 1) 5 i0 (.int .u8 0) 1 1 Tryz.underlying55 hi0 hz0 hz1 hz2 rfl (by decide) _ _ _ rfl HX.out.2.2.2.2.2 ⟨w1.heap.size, 0, none⟩ 1 1 (u8s [lowB s[k]]) rfl rfl HX.out.2.2.2.1 (u8s_one _) HX.out.1 HX.out.2.1 HX.out.2.2.1 ?_; intro v' w3 ho2 hg2 _)
        have hl2 := HX.out.2.2.2.2.1.grown HX.out.2.2.2.2.2 hg2
        refine ⟨⟨k + 1, by omega, by go_num, hl2, ?_⟩, by simp [intOf]; omega⟩
        rw [HF.out, show lows1 s[k] = [lowB s[k]] from rfl, List.length_append, u8s_append]
        exact ho2
    · have hd : decide ((k : Int) < s.size) = false := decide_eq_false (by omega)
      rw [List.take_of_length_le (by rw [HZ.out]; omega)] at hown
      have hcv := conv_own hown
      go_wp2_with fail
      go_ret
      exact ⟨rfl, hli.2⟩

end Go.Proofs.YtmpijlaidnhpnaaGreat

namespace Go.Proofs.YtmpijlaidnhpnaaGreat
set_option linter.unusedVariables false
set_option linter.unusedSimpArgs false
set_option maxRecDepth 100000
open Go.RowKit

set_option maxHeartbeats 1000000 in
theorem lower_any (s : ByteArray) (w : World) (hs : s.size ≤ 1000000) :
    Calls Tryz.prog 93 #[.string s] w fun e w' => e = .returned (.string (lowS s)) ∧ Below w.heap.size w w' := by
  go_enter Tryz.func93, Tryz.ntmps93
  go_wp2_with fail
  refine (setOf_any _ w (by decide)).mono ?_
  rintro e w1 ⟨he1, hb1⟩
  have hE : e = .returned (.agg (Lib.setCells capsL)) := he1
  clear he1
  subst hE
  go_wp2_with fail
  refine (rewrite_low s _ hs).mono ?_
  rintro e w2 ⟨rfl, hb2⟩
  rw [flat_low]
  go_wp2_with fail
  go_ret
  exact ⟨rfl, hb1.trans (hb2.mono hb1.size)⟩

def sameB (a b : ByteArray) : Bool := (lowS a).toList == (lowS b).toList

set_option maxHeartbeats 1000000 in
theorem same_any (a b : ByteArray) (w : World) (ha : a.size ≤ 1000000) (hb : b.size ≤ 1000000) :
    Calls Tryz.prog 137 #[.string a, .string b] w fun e w' => e = .returned (.bool (sameB a b)) ∧ Below w.heap.size w w' := by
  go_enter Tryz.func137, Tryz.ntmps137
  go_wp2_with fail
  refine (lower_any a w ha).mono ?_
  rintro e w1 ⟨rfl, hb1⟩
  go_wp2_with fail
  refine (lower_any b _ hb).mono ?_
  rintro e w2 ⟨rfl, hb2⟩
  go_wp2_with fail
  go_ret
  exact ⟨rfl, hb1.trans (hb2.mono hb1.size)⟩

end Go.Proofs.YtmpijlaidnhpnaaGreat
