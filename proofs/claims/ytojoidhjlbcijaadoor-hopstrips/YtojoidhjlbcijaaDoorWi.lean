/- The walks of what asks of one field: whether it may be, whether it has a name. -/
import Derived.Test.YtojoidhjlbcijaaDoorWh
namespace Go.Proofs.YtojoidhjlbcijaaDoor
set_option linter.unusedVariables false
set_option linter.unusedSimpArgs false
set_option maxRecDepth 100000
open Go.RowKit

/-- A field: its name and its value. -/
abbrev Fd := ByteArray × ByteArray
def fv (f : Fd) : Value := .agg #[.string f.1, .string f.2]

theorem ctl_not {s : ByteArray} (h : ∀ c ∈ s.data.toList, ctrlB c = false) : ctlB s = false := by
  unfold ctlB; rw [List.any_eq_false]; intro c hc; rw [h c hc]; decide
theorem ctl_yes {s : ByteArray} {c : UInt8} (h : c ∈ s.data.toList) (g : ctrlB c = true) : ctlB s = true := by
  unfold ctlB; rw [List.any_eq_true]; exact ⟨c, h, g⟩

set_option maxHeartbeats 2000000 in
theorem hasControl_any (s : ByteArray) (w : World) (hs : s.size ≤ 1000000) :
    Calls Tryd.prog 76 #[.string s] w fun e w' => e = .returned (.bool (ctlB s)) ∧ w' = w := by
  have HZ : Hid (s.data.toList.length = s.size) := by unfold Hid; simp
  go_enter Tryd.func76, Tryd.ntmps76
  go_wp2_with fail
  go_loop [6] (fun i => ∃ k : Nat, k ≤ s.size ∧ i = .int .i64 k ∧ Hid (∀ c ∈ s.data.toList.take k, ctrlB c = false)) (fun i => s.size - (intOf i).toNat)
  case atStart => exact ⟨0, Nat.zero_le _, rfl, by simp [Hid]⟩
  case round =>
    obtain ⟨k, hk, rfl, hall⟩ := hrel
    by_cases hlt : k < s.size
    · have hltz : (k : Int) < s.size := by omega
      have HT : Hid (s.data.toList.take (k + 1) = s.data.toList.take k ++ [s[k]'hlt]) := by
        unfold Hid; rw [take_snoc _ k (by rw [HZ.out]; exact hlt), get_at s k hlt]
      have HB := hide (ctrlB_iff (s[k]'hlt))
      obtain ⟨c, hc⟩ : ∃ c, s[k]'hlt = c := ⟨_, rfl⟩
      have hcl := c.toNat_lt
      rw [hc] at HT HB
      have YES : Hid (ctrlB c = true → ctlB s = true) := ctl_yes (by rw [← List.take_append_drop (k + 1) s.data.toList, HT.out]; simp)
      have NO : Hid (ctrlB c = false → ∀ d ∈ s.data.toList.take (k + 1), ctrlB d = false) := by
        unfold Hid
        intro hn d hd
        rw [HT.out] at hd
        rcases List.mem_append.1 hd with hd | hd
        · exact hall.out d hd
        · obtain rfl : d = c := by simpa using hd
          exact hn
      clear HT hall
      go_wp2_with fail
      all_goals first
        | (go_ret; refine ⟨?_, rfl⟩; rw [YES.out (by rw [HB.out]; simp_all <;> omega)]; rfl)
        | (refine ⟨⟨k + 1, by omega, by go_num, NO.out (by rw [HB.out]; simp_all <;> omega)⟩, by simp [intOf]; omega⟩)
    · have hd : decide ((k : Int) < s.size) = false := decide_eq_false (by omega)
      rw [List.take_of_length_le (by rw [HZ.out]; omega)] at hall
      have HN := hide (ctl_not hall.out)
      go_wp2_with fail
      go_ret
      refine ⟨?_, rfl⟩
      rw [HN.out]
      rfl

def trimB (v : ByteArray) : Bool := (trimS v).toList == v.toList
/-- Whether a value may be. -/
def valB (v : ByteArray) : Bool := decide (v.size ≤ 1000) && trimB v && !ctlB v
/-- Whether a field may be. -/
def mayF (f : Fd) : Bool := tokB f.1 && valB f.2

set_option maxHeartbeats 1000000 in
theorem wrongValue_any (s : ByteArray) (w : World) (hs : s.size ≤ 1000000) :
    Calls Tryd.prog 57 #[.string s] w fun e w' => e = .returned (.bool (!valB s)) ∧ Below w.heap.size w w' := by
  have HV : Hid (valB s = (decide (s.size ≤ 1000) && ((trimS s).toList == s.toList) && !ctlB s)) := rfl
  by_cases h1 : s.size ≤ 1000
  · have h1d : decide ((1000 : Int) < s.size) = false := decide_eq_false (by omega)
    rw [decide_eq_true h1] at HV
    go_enter Tryd.func57, Tryd.ntmps57
    go_wp2_with fail
    refine (trim_any s _ hs).mono ?_
    rintro e w1 ⟨rfl, hb1⟩
    by_cases h2 : ((trimS s).toList == s.toList) = true
    · rw [h2] at HV
      go_wp2_with fail
      refine (hasControl_any s _ hs).mono ?_
      rintro e w2 ⟨rfl, rfl⟩
      go_wp2_with fail
      go_ret
      exact ⟨ret_bool (by rw [HV.out]; simp), hb1⟩
    · rw [Bool.not_eq_true] at h2
      rw [h2] at HV
      go_wp2_with fail
      go_ret
      exact ⟨ret_bool (by rw [HV.out]; simp), hb1⟩
  · have h1d : decide ((1000 : Int) < s.size) = true := decide_eq_true (by omega)
    rw [decide_eq_false h1] at HV
    go_enter Tryd.func57, Tryd.ntmps57
    go_wp2_with fail
    go_ret
    exact ⟨ret_bool (by rw [HV.out]; simp), Below.refl _ _⟩

set_option maxHeartbeats 1000000 in
theorem wrong_any (f : Fd) (w : World) (h1 : f.1.size ≤ 1000000) (h2 : f.2.size ≤ 1000000) :
    Calls Tryd.prog 40 #[fv f] w fun e w' => e = .returned (.bool (!mayF f)) ∧ Below w.heap.size w w' := by
  have HV : Hid (mayF f = (tokB f.1 && valB f.2)) := rfl
  unfold fv
  go_enter Tryd.func40, Tryd.ntmps40
  go_wp2_with fail
  refine (token_any _ _ h1).mono ?_
  rintro e w1 ⟨rfl, hb1⟩
  cases ht : tokB f.1
  · rw [ht] at HV
    go_wp2_with fail
    go_ret
    exact ⟨ret_bool (by rw [HV.out]; simp), (one_alloc _ _ _).trans (hb1.mono (by simp))⟩
  · rw [ht] at HV
    have c1 : w1.cell? ⟨w.heap.size, 1, none⟩ = some (.string f.2) := by
      rw [(stays hb1).1 _ _ (by simp), World.cell?_alloc_new]; rfl
    go_wp2_with fail
    refine (wrongValue_any _ _ h2).mono ?_
    rintro e w2 ⟨rfl, hb2⟩
    go_wp2_with fail
    go_ret
    exact ⟨ret_bool (by rw [HV.out]; simp), ((one_alloc _ _ _).trans (hb1.mono (by simp))).trans (hb2.mono (by have := hb1.size; simp at this; omega))⟩

end Go.Proofs.YtojoidhjlbcijaaDoor
