/- The walks of the document's own answers: the end of quotes, trimming, tokens, small letters. -/
import Derived.Test.YtojoidhjlbcijaaDoorWd
namespace Go.Proofs.YtojoidhjlbcijaaDoor
set_option linter.unusedVariables false
set_option linter.unusedSimpArgs false
set_option maxRecDepth 100000
open Go.RowKit

theorem ret_int {k : IntKind} {a b : Int} (h : a = b) : Ending.returned (.int k a) = .returned (.int k b) := by rw [h]
theorem ret_str {a b : ByteArray} (h : a = b) : Ending.returned (.string a) = .returned (.string b) := by rw [h]

/-- Behind the quotes that begin at a; -1: nowhere. -/
def enI (s : ByteArray) (a : Nat) : Int := if clS s (a + 1) < s.size then (clS s (a + 1) : Int) + 1 else -1

theorem drop_blank {x : ByteArray} (h : 0 < x.size) (hb : blankB x[0] = true) : (x.extract 1 x.size).data.toList.dropWhile blankB = x.data.toList.dropWhile blankB := by
  have h0 : 0 < x.data.toList.length := by simpa using h
  have e : x.data.toList = x[0] :: x.data.toList.drop 1 := by
    have := List.drop_eq_getElem_cons h0
    rw [get_at x 0 h] at this
    simpa using this
  rw [ext_drop]
  conv => rhs; rw [e, List.dropWhile_cons, if_pos hb]
theorem drop_done {x : ByteArray} (h : 0 < x.size → blankB (x.data.toList.headD 0) = false) : x.data.toList.dropWhile blankB = x.data.toList := by
  apply dropWhile_same
  intro c hc
  cases hl : x.data.toList with
  | nil => rw [hl] at hc; simp at hc
  | cons d l =>
    rw [hl] at hc h
    obtain rfl : d = c := by simpa using hc
    have : 0 < x.size := by rw [← size_list, hl]; simp
    simpa using h this
theorem last_blank {x : ByteArray} {m : Nat} (hm : x.size = m + 1) (hms : m < x.size) (hb : blankB (x[m]'hms) = true) : (x.extract 0 m).data.toList.reverse.dropWhile blankB = x.data.toList.reverse.dropWhile blankB := by
  have h0 : m < x.data.toList.length := by simpa using hms
  have e : x.data.toList = x.data.toList.take m ++ [x[m]'hms] := by
    have := take_snoc x.data.toList m h0
    rw [get_at x m hms, List.take_of_length_le (by rw [size_list]; omega)] at this
    exact this
  rw [ext_take]
  conv => rhs; rw [e, List.reverse_append]
  show _ = List.dropWhile blankB (x[m]'hms :: (x.data.toList.take m).reverse)
  rw [List.dropWhile_cons, if_pos hb]
theorem last_done {x : ByteArray} (h : ∀ c, x.data.toList.getLast? = some c → blankB c = false) : x.data.toList.reverse.dropWhile blankB = x.data.toList.reverse := by
  apply dropWhile_same
  intro c hc
  rw [List.head?_reverse] at hc
  exact h c hc
theorem head_at {x : ByteArray} (h : 0 < x.size) : x.data.toList.headD 0 = x[0] := by
  have h0 : 0 < x.data.toList.length := by simpa using h
  rw [← get_at x 0 h, List.headD_eq_head?_getD, List.head?_eq_getElem?, List.getElem?_eq_getElem h0]
  rfl
theorem trim_done {s x y : ByteArray} (h1 : x.data.toList.dropWhile blankB = s.data.toList.dropWhile blankB) (h2 : x.data.toList.dropWhile blankB = x.data.toList)
    (h3 : y.data.toList.reverse.dropWhile blankB = x.data.toList.reverse.dropWhile blankB) (h4 : y.data.toList.reverse.dropWhile blankB = y.data.toList.reverse) : y = trimS s := by
  apply bytes_ext
  rw [trimS_list, trimL, ← h1, h2, ← h3, h4, List.reverse_reverse]
theorem last_at {x : ByteArray} {m : Nat} (hm : x.size = m + 1) (hms : m < x.size) : x.data.toList.getLast? = some (x[m]'hms) := by
  rw [List.getLast?_eq_getElem?, size_list, show x.size - 1 = m by omega, List.getElem?_eq_getElem (by rw [size_list]; omega), get_at x m hms]

set_option maxHeartbeats 1000000 in
theorem reftrim_any (s : ByteArray) (w : World) (hs : s.size ≤ 1000000) :
    Calls Tryd.prog 35 #[.string s] w fun e w' => e = .returned (.string (trimS s)) ∧ w' = w := by
  go_enter Tryd.func35, Tryd.ntmps35
  go_wp2_with fail
  go_loop [0] (fun z => ∃ x : ByteArray, x.size ≤ s.size ∧ z = .string x ∧ Hid (x.data.toList.dropWhile blankB = s.data.toList.dropWhile blankB)) (fun z => match z with | .string x => x.size | _ => 0)
  case atStart => exact ⟨s, Nat.le_refl _, rfl, rfl⟩
  case round =>
    obtain ⟨x, hx, rfl, hd⟩ := hrel
    by_cases h0 : 0 < x.size
    · have h0z : (0 : Int) < x.size := by omega
      have hsz : (x.extract 1 x.size).size = x.size - 1 := by rw [ByteArray.size_extract]; omega
      have HD := hide (drop_blank h0)
      cases hb : blankB x[0]
      · have HX : Hid (x.data.toList.dropWhile blankB = x.data.toList) := drop_done fun _ => by rw [head_at h0]; exact hb
        go_wp2_with (go_at_call 56; refine (blank_any _ _).mono ?_; rintro e w' ⟨rfl, rfl⟩; rw [hb])
        clear hb
        go_loop [0] (fun z => ∃ y : ByteArray, y.size ≤ s.size ∧ z = .string y ∧ Hid (y.data.toList.reverse.dropWhile blankB = x.data.toList.reverse.dropWhile blankB)) (fun z => match z with | .string y => y.size | _ => 0)
        case atStart => exact ⟨x, hx, rfl, rfl⟩
        case round =>
          obtain ⟨y, hy, rfl, hr⟩ := hrel
          by_cases g0 : 0 < y.size
          · have g0z : (0 : Int) < y.size := by omega
            obtain ⟨m, hm⟩ : ∃ m, y.size - 1 = m := ⟨_, rfl⟩
            have hms : m < y.size := by omega
            have hmz : (y.size : Int) - 1 = (m : Int) := by omega
            have hsy : (y.extract 0 m).size = y.size - 1 := by rw [ByteArray.size_extract]; omega
            have hle := last_at (by omega : y.size = m + 1) hms
            have hlb := last_blank (by omega : y.size = m + 1) hms
            have HLE := hide hle
            have HLB := hide hlb
            have HM := hide hm
            clear hm hle hlb
            cases hc : blankB y[m]
            · go_wp2_with (go_at_call 56; refine (blank_any _ _).mono ?_; rintro e w' ⟨rfl, rfl⟩; rw [hc])
              go_ret
              refine ⟨ret_str (trim_done hd.out HX.out hr.out (last_done ?_)), rfl⟩
              intro c hcc
              rw [HLE.out] at hcc
              obtain rfl := Option.some.inj hcc
              exact hc
            · go_wp2_with (go_at_call 56; refine (blank_any _ _).mono ?_; rintro e w' ⟨rfl, rfl⟩; rw [hc])
              refine ⟨⟨y.extract 0 m, by omega, rfl, ?_⟩, by show (y.extract 0 m).size < y.size; omega⟩
              exact (HLB.out hc).trans hr.out
          · have gd : decide ((0 : Int) < y.size) = false := decide_eq_false (by omega)
            go_wp2_with fail
            go_ret
            refine ⟨ret_str (trim_done hd.out HX.out hr.out (last_done ?_)), rfl⟩
            intro c hcc
            have : y.data.toList = [] := List.length_eq_zero_iff.1 (by rw [size_list]; omega)
            rw [this] at hcc
            simp at hcc
      · go_wp2_with (go_at_call 56; refine (blank_any _ _).mono ?_; rintro e w' ⟨rfl, rfl⟩; rw [hb])
        refine ⟨⟨x.extract 1 x.size, by omega, rfl, ?_⟩, by show (x.extract 1 x.size).size < x.size; omega⟩
        exact (HD.out hb).trans hd.out
    · have hdd : decide ((0 : Int) < x.size) = false := decide_eq_false (by omega)
      have HX : Hid (x.data.toList.dropWhile blankB = x.data.toList) := drop_done fun h => absurd h h0
      go_wp2_with fail
      go_loop [0] (fun z => ∃ y : ByteArray, y.size ≤ s.size ∧ z = .string y ∧ Hid (y.data.toList.reverse.dropWhile blankB = x.data.toList.reverse.dropWhile blankB)) (fun z => match z with | .string y => y.size | _ => 0)
      case atStart => exact ⟨x, hx, rfl, rfl⟩
      case round =>
        obtain ⟨y, hy, rfl, hr⟩ := hrel
        by_cases g0 : 0 < y.size
        · have g0z : (0 : Int) < y.size := by omega
          obtain ⟨m, hm⟩ : ∃ m, y.size - 1 = m := ⟨_, rfl⟩
          have hms : m < y.size := by omega
          have hmz : (y.size : Int) - 1 = (m : Int) := by omega
          have hsy : (y.extract 0 m).size = y.size - 1 := by rw [ByteArray.size_extract]; omega
          have hle := last_at (by omega : y.size = m + 1) hms
          have hlb := last_blank (by omega : y.size = m + 1) hms
          have HLE := hide hle
          have HLB := hide hlb
          have HM := hide hm
          clear hm hle hlb
          cases hc : blankB y[m]
          · go_wp2_with (go_at_call 56; refine (blank_any _ _).mono ?_; rintro e w' ⟨rfl, rfl⟩; rw [hc])
            go_ret
            refine ⟨ret_str (trim_done hd.out HX.out hr.out (last_done ?_)), rfl⟩
            intro c hcc
            rw [HLE.out] at hcc
            obtain rfl := Option.some.inj hcc
            exact hc
          · go_wp2_with (go_at_call 56; refine (blank_any _ _).mono ?_; rintro e w' ⟨rfl, rfl⟩; rw [hc])
            refine ⟨⟨y.extract 0 m, by omega, rfl, ?_⟩, by show (y.extract 0 m).size < y.size; omega⟩
            exact (HLB.out hc).trans hr.out
        · have gd : decide ((0 : Int) < y.size) = false := decide_eq_false (by omega)
          go_wp2_with fail
          go_ret
          refine ⟨ret_str (trim_done hd.out HX.out hr.out (last_done ?_)), rfl⟩
          intro c hcc
          have : y.data.toList = [] := List.length_eq_zero_iff.1 (by rw [size_list]; omega)
          rw [this] at hcc
          simp at hcc

end Go.Proofs.YtojoidhjlbcijaaDoor
