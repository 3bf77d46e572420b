/- The walks of trimming, of tokens and of what finds control bytes. -/
import Derived.Test.YtojoidhjlbcijaaDoorWb
namespace Go.Proofs.YtojoidhjlbcijaaDoor
set_option linter.unusedVariables false
set_option linter.unusedSimpArgs false
set_option maxRecDepth 100000
open Go.RowKit

theorem app_list (a b : ByteArray) : (a ++ b).data.toList = a.data.toList ++ b.data.toList := by simp
theorem bytes_ext {a b : ByteArray} (h : a.data.toList = b.data.toList) : a = b := by
  cases a; cases b; simp at h; rw [h]
theorem ext_take (s : ByteArray) (k : Nat) : (s.extract 0 k).data.toList = s.data.toList.take k := by
  rw [ByteArray.data_extract, Array.toList_extract, List.extract_eq_take_drop]; simp
theorem ext_drop (s : ByteArray) (k : Nat) : (s.extract k s.size).data.toList = s.data.toList.drop k := by
  rw [ByteArray.data_extract, Array.toList_extract, List.extract_eq_take_drop, List.take_of_length_le (by simp)]
theorem size_list (s : ByteArray) : s.data.toList.length = s.size := by simp
theorem empty_of {s : ByteArray} (h : s.data.toList = []) : s.toList.isEmpty = true := by rw [ByteArray.toList_eq, h]; rfl
theorem empty_not {s : ByteArray} (h : s.data.toList ≠ []) : s.toList.isEmpty = false := by rw [ByteArray.toList_eq]; simpa using h

def trimS (s : ByteArray) : ByteArray := ⟨(trimL s.data.toList).toArray⟩
theorem trimS_list (s : ByteArray) : (trimS s).data.toList = trimL s.data.toList := by simp [trimS]
theorem trimS_size (s : ByteArray) : (trimS s).size ≤ s.size := by
  rw [← size_list, ← size_list, trimS_list]; exact trimL_le _

/-- Where blanks at the head end, and where those at the end begin. -/
def tA (s : ByteArray) : Nat := (s.data.toList.takeWhile blankB).length
def tB (s : ByteArray) : Nat := lastN blankB (s.extract (tA s) s.size).data.toList
theorem tA_le (s : ByteArray) : tA s ≤ s.size := by rw [← size_list]; exact takeWhile_le _ _
theorem tB_le (s : ByteArray) : tB s ≤ s.size - tA s := by
  have h := lastN_le blankB (s.extract (tA s) s.size).data.toList
  rw [size_list, ByteArray.size_extract] at h
  unfold tB; omega
theorem trim_cut (s : ByteArray) : (s.extract (tA s) s.size).extract 0 (tB s) = trimS s := by
  apply bytes_ext
  rw [ext_take, trimS_list, tB, ext_drop, tA, trimL_eq]

set_option maxHeartbeats 1000000 in
theorem trim_any (s : ByteArray) (w : World) (hs : s.size ≤ 1000000) :
    Calls Tryd.prog 50 #[.string s] w fun e w' => e = .returned (.string (trimS s)) ∧ Below w.heap.size w w' := by
  have hz := zero39
  have ha := tA_le s
  have hb := tB_le s
  have hex : (s.extract (tA s) s.size).size = s.size - tA s := by rw [ByteArray.size_extract]; omega
  have HEX := hide hex
  have HTC := hide (trim_cut s)
  clear hex
  obtain ⟨t, ht⟩ : ∃ t, s.extract (tA s) s.size = t := ⟨_, rfl⟩
  rw [ht] at HEX HTC
  have HT := hide ht
  clear ht
  have hts : t.size = s.size - tA s := HEX.out
  go_enter Tryd.func50, Tryd.ntmps50
  go_wp2_with fail
  refine (setOf_any _ w (by decide)).mono ?_
  rintro e w1 ⟨rfl, hb1⟩
  have hsz := Lib.setCells_size [32, 9]
  have hsc := run_storeCells_new (P := Tryd.prog) w1 74 (Lib.setCells []) (Lib.setCells [32, 9]) (by rw [hsz]; exact size39) (by rw [hsz, Lib.setCells_size]) (Lib.setCells_one _)
  have hli := Lies.new w1 [32, 9]
  obtain ⟨w2, hw2⟩ : ∃ w2, w1.alloc (.cells (Lib.setCells [32, 9]) 74) = w2 := ⟨_, rfl⟩
  rw [hw2] at hsc hli
  have HW := hide hw2
  clear hw2
  obtain ⟨N, hN⟩ : ∃ N, N = 256 := ⟨_, rfl⟩
  have hS : ∀ w, Sem.run Tryd.prog (sizeOf 74) w = .ok N w := by rw [hN]; exact Tryd.sizeOf74
  rw [← hN] at hsz
  clear hN
  have hlc := hli.load hsz
  have hB2 : Below w.heap.size w w2 := by rw [← HW.out]; exact hb1.alloc hb1.size _
  go_wp2_with fail
  refine (first_lacks s [32, 9] blankB (fun c => rfl) _ hs).mono ?_
  rintro e w3 ⟨rfl, hb3⟩
  rw [show ((s.data.toList.takeWhile blankB).length : Nat) = tA s from rfl]
  have hl3 := hli.below hb3
  have hlc3 := hl3.load hsz
  have hB3 := hB2.trans (hb3.mono hB2.size)
  have htE := HT.out
  clear hlc hli hb3 hB2 hsc
  go_wp2_with fail
  refine (last_lacks t [32, 9] blankB (fun c => rfl) _ (by omega)).mono ?_
  rintro e w4 ⟨rfl, hb4⟩
  have hn : lastN blankB t.data.toList = tB s := by rw [← HT.out]; rfl
  rw [hn]
  have hB4 := hB3.trans (hb4.mono hB3.size)
  clear hlc3 hl3 hb4 hB3 hn
  have htc := HTC.out
  go_wp2_with fail
  go_ret
  exact ⟨rfl, hB4⟩

theorem int_beq (a b : Nat) : ((a : Int) == (b : Int)) = decide (a = b) := by
  by_cases h : a = b
  · simp [h]
  · have : ¬ (a : Int) = (b : Int) := by omega
    simp [h, this]

def tokB (s : ByteArray) : Bool := tokL s.data.toList

theorem tok_at (l : List UInt8) (h : l ≠ []) : tokL l = decide ((l.takeWhile wordB).length = l.length) := by
  unfold tokL
  rw [show l.isEmpty = false by simpa using h]
  simp only [Bool.not_false, Bool.true_and]
  induction l with
  | nil => exact absurd rfl h
  | cons c l ih =>
    rw [List.all_cons, List.takeWhile_cons]
    cases hc : wordB c with
    | false => simp
    | true =>
      by_cases hl : l = []
      · subst hl; simp
      · rw [ih hl]; simp

set_option maxHeartbeats 1000000 in
theorem token_any (s : ByteArray) (w : World) (hs : s.size ≤ 1000000) :
    Calls Tryd.prog 49 #[.string s] w fun e w' => e = .returned (.bool (tokB s)) ∧ Below w.heap.size w w' := by
  by_cases h0 : s.data.toList = []
  · have he := empty_of h0
    have HT : Hid (tokB s = false) := by unfold Hid tokB tokL; rw [h0]; rfl
    clear h0
    go_enter Tryd.func49, Tryd.ntmps49
    go_wp2_with fail
    go_ret
    exact ⟨by rw [HT.out]; rfl, Below.refl _ _⟩
  · have he := empty_not h0
    have HT : Hid (tokB s = decide ((s.data.toList.takeWhile wordB).length = s.size)) := by unfold Hid tokB; rw [tok_at _ h0, size_list]
    clear h0
    obtain ⟨k, hk⟩ : ∃ k, (s.data.toList.takeWhile wordB).length = k := ⟨_, rfl⟩
    rw [hk] at HT
    go_enter Tryd.func49, Tryd.ntmps49
    go_wp2_with fail
    refine (setOf_any _ w (by decide)).mono ?_
    rintro e w1 ⟨he1, hb1⟩
    have hE : e = .returned (.agg (Lib.setCells wordL)) := he1
    clear he1
    subst hE
    go_wp2_with fail
    refine (first_lacks s wordL wordB (fun c => rfl) _ hs).mono ?_
    rintro e w2 ⟨rfl, hb2⟩
    rw [hk]
    go_wp2_with fail
    go_ret
    refine ⟨?_, hb1.trans (hb2.mono hb1.size)⟩
    rw [HT.out, ← int_beq]
    rfl

def ctlB (s : ByteArray) : Bool := s.data.toList.any ctrlB

theorem any_at (l : List UInt8) : l.any ctrlB = decide ((l.takeWhile (fun c => !ctrlB c)).length < l.length) := by
  induction l with
  | nil => rfl
  | cons c l ih =>
    rw [List.any_cons, List.takeWhile_cons]
    cases hc : ctrlB c with
    | true => simp
    | false => rw [ih]; simp

end Go.Proofs.YtojoidhjlbcijaaDoor
