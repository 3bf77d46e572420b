/- The walks of the document's own question whether a field may be, and of the names of fields. -/
import Derived.Test.YtojoidhjlbcijaaDoorWi
namespace Go.Proofs.YtojoidhjlbcijaaDoor
set_option linter.unusedVariables false
set_option linter.unusedSimpArgs false
set_option maxRecDepth 100000
open Go.RowKit

theorem reftoken_is (s : ByteArray) (b : Bool) (h : tokB s = b) (w : World) (hs : s.size ≤ 1000000) :
    Calls Tryd.prog 34 #[.string s] w fun e w' => e = .returned (.bool b) ∧ w' = w := by rw [← h]; exact reftoken_any s w hs

theorem below_drewN {B : Nat} {a w : World} (h : Below B a w) (n : Nat) : Below B a (w.drewN n) := ⟨h.os, h.tape, h.output, h.size, h.block⟩

theorem may_ctl {f : Fd} (h : ctlB f.2 = true) : mayF f = false := by unfold mayF valB; rw [h]; simp
theorem may_not {f : Fd} (h : ctlB f.2 = false) : mayF f = (tokB f.1 && ((trimS f.2).toList == f.2.toList) && decide (f.2.size ≤ 1000)) := by
  unfold mayF valB trimB; rw [h]; simp [Bool.and_comm, Bool.and_left_comm, Bool.and_assoc]

set_option maxHeartbeats 2000000 in
theorem may_any (f : Fd) (w : World) (h1 : f.1.size ≤ 1000000) (h2 : f.2.size ≤ 1000000) :
    Calls Tryd.prog 32 #[fv f] w fun e w' => e = .returned (.bool (mayF f)) ∧ Below w.heap.size w w' := by
  obtain ⟨n, v⟩ := f
  simp only at h1 h2
  have HZ : Hid (v.data.toList.length = v.size) := by unfold Hid; simp
  unfold fv
  go_enter Tryd.func32, Tryd.ntmps32
  go_wp2_with fail
  go_loop [3] (fun i => ∃ k : Nat, k ≤ v.size ∧ i = .int .i64 k ∧ Hid (∀ c ∈ v.data.toList.take k, ctrlB c = false)) (fun i => v.size - (intOf i).toNat)
  case atStart => exact ⟨0, Nat.zero_le _, rfl, by simp [Hid]⟩
  case round =>
    obtain ⟨k, hk, rfl, hall⟩ := hrel
    by_cases hlt : k < v.size
    · have hltz : (k : Int) < v.size := by omega
      have HT : Hid (v.data.toList.take (k + 1) = v.data.toList.take k ++ [v[k]'hlt]) := by
        unfold Hid; rw [take_snoc _ k (by rw [HZ.out]; exact hlt), get_at v k hlt]
      cases hb : ctrlB (v[k]'hlt)
      · go_wp2_with (go_at_call 54; refine (control_any _ _).mono ?_; rintro e w' ⟨rfl, rfl⟩; rw [hb])
        refine ⟨⟨k + 1, by omega, by go_num, ?_⟩, by simp [intOf]; omega⟩
        unfold Hid
        rw [HT.out]
        intro c hc
        rcases List.mem_append.1 hc with hc | hc
        · exact hall.out c hc
        · obtain rfl : c = v[k]'hlt := by simpa using hc
          exact hb
      · have HN : Hid (mayF (n, v) = false) := may_ctl (ctl_yes (by rw [← List.take_append_drop (k + 1) v.data.toList, HT.out]; simp) hb)
        go_wp2_with (go_at_call 54; refine (control_any _ _).mono ?_; rintro e w' ⟨rfl, rfl⟩; rw [hb])
        go_ret
        exact ⟨by rw [HN.out]; rfl, one_alloc _ _ _⟩
    · have hd : decide ((k : Int) < v.size) = false := decide_eq_false (by omega)
      rw [List.take_of_length_le (by rw [HZ.out]; omega)] at hall
      have HN := hide (may_not (f := (n, v)) (ctl_not hall.out))
      simp only at HN
      clear hall
      cases ht : tokB n
      · rw [ht] at HN
        go_wp2_with fail
        go_quiet (first | (go_at_call 34; refine Calls.quiet_of_same (reftoken_is _ _ ht _ h1)))
        go_wp2_with fail
        go_ret
        exact ⟨ret_bool (by rw [HN.out]; simp <;> omega), below_drewN (one_alloc _ _ _) _⟩
      · rw [ht] at HN
        cases hr : ((trimS v).toList == v.toList)
        · rw [hr] at HN
          go_wp2_with fail
          go_quiet (first | (go_at_call 34; refine Calls.quiet_of_same (reftoken_is _ _ ht _ h1)) | (go_at_call 35; refine Calls.quiet_of_same (reftrim_any _ _ h2)))
          go_wp2_with fail
          go_ret
          exact ⟨ret_bool (by rw [HN.out]; simp <;> omega), below_drewN (one_alloc _ _ _) _⟩
        · rw [hr] at HN
          go_wp2_with fail
          go_quiet (first | (go_at_call 34; refine Calls.quiet_of_same (reftoken_is _ _ ht _ h1)) | (go_at_call 35; refine Calls.quiet_of_same (reftrim_any _ _ h2)))
          go_wp2_with fail
          go_ret
          exact ⟨ret_bool (by rw [HN.out]; simp <;> omega), below_drewN (one_alloc _ _ _) _⟩

set_option maxHeartbeats 1000000 in
theorem refsame_any (a b : ByteArray) (w : World) (ha : a.size ≤ 1000000) (hb : b.size ≤ 1000000) :
    Calls Tryd.prog 37 #[.string a, .string b] w fun e w' => e = .returned (.bool (sameB a b)) ∧ Below w.heap.size w w' := by
  go_enter Tryd.func37, Tryd.ntmps37
  go_wp2_with fail
  refine (reflower_any a w ha).mono ?_
  rintro e w1 ⟨rfl, hb1⟩
  go_wp2_with fail
  refine (reflower_any b _ hb).mono ?_
  rintro e w2 ⟨rfl, hb2⟩
  go_wp2_with fail
  go_ret
  exact ⟨rfl, hb1.trans (hb2.mono hb1.size)⟩

/-- Whether a field has a name. -/
def nm (n : ByteArray) (f : Fd) : Bool := sameB f.1 n

set_option maxHeartbeats 1000000 in
theorem named1_any (f : Fd) (n : ByteArray) (N : Nat) (w : World) (h1 : f.1.size ≤ 1000000) (h2 : n.size ≤ 1000000) (hc : w.cell? ⟨N, 0, none⟩ = some (.string n)) :
    Calls Tryd.prog 63 #[fv f, .pointer (some ⟨N, 0, none⟩)] w fun e w' => e = .returned (.bool (nm n f)) ∧ Below w.heap.size w w' := by
  have hN : N < w.heap.size := block_lt_of_cell (a := ⟨N, 0, none⟩) hc
  have c1 : (w.alloc (.cells #[.string f.1, .string f.2] 39)).cell? ⟨N, 0, none⟩ = some (.string n) := by
    rw [(stays (one_alloc _ _ _)).1 _ _ hN]; exact hc
  unfold fv
  go_enter Tryd.func63, Tryd.ntmps63
  go_wp2_with fail
  refine (same_any _ _ _ h1 h2).mono ?_
  rintro e w1 ⟨rfl, hb1⟩
  go_wp2_with fail
  go_ret
  exact ⟨rfl, (one_alloc _ _ _).trans (hb1.mono (by simp))⟩

set_option maxHeartbeats 1000000 in
theorem named_any (n : ByteArray) (w : World) :
    Calls Tryd.prog 45 #[.string n] w fun e w' => e = .returned (.func (.func 63) #[] #[.pointer (some ⟨w.heap.size, 0, none⟩)]) ∧ w' = w.alloc (.cells #[.string n] 9) := by
  go_enter Tryd.func45, Tryd.ntmps45
  go_wp2_with fail
  go_ret
  exact ⟨rfl, rfl⟩

end Go.Proofs.YtojoidhjlbcijaaDoor
