/- The walks of what asks bytes, targets and reasons. -/
import Derived.Test.YtplanlhgcckioaaDoorMt
namespace Go.Proofs.YtplanlhgcckioaaDoor
set_option linter.unusedVariables false
set_option linter.unusedSimpArgs false
set_option maxRecDepth 100000
open Go.RowKit

theorem eq_of_beq {s : ByteArray} {l : List UInt8} (h : (s.toList == l) = true) : s.data.toList = l := by
  rw [ByteArray.toList_eq] at h; simpa using h
theorem ne_of_beq {s : ByteArray} {l : List UInt8} (h : (s.toList == l) = false) : s.data.toList ≠ l := by
  rw [ByteArray.toList_eq] at h; simpa using h
theorem beq_of_eq {s : ByteArray} {l : List UInt8} (h : s.data.toList = l) : (s.toList == l) = true := by
  rw [ByteArray.toList_eq, h]; simp
theorem beq_of_ne {s : ByteArray} {l : List UInt8} (h : s.data.toList ≠ l) : (s.toList == l) = false := by
  rw [ByteArray.toList_eq]; simpa using h
theorem below_drew {n : Nat} {w w' : World} (h : Below n w w') : Below n w w'.drew := ⟨h.1, h.2, h.3, h.4, h.5⟩

theorem pre_any (s p : ByteArray) (b : Bool) (h : pre p.data.toList s.data.toList = b) (w : World) :
    Calls Tryd.prog 86 #[.string s, .string p] w fun e w' => e = .returned (.bool b) ∧ w' = w := by
  refine (Tryd.strings_HasPrefix s p w).mono ?_
  rintro e w1 ⟨rfl, rfl⟩
  exact ⟨by rw [← h]; rfl, rfl⟩

theorem toU8 (c : UInt8) : ((c.toNat : Int)).toNat.toUInt8 = c := by simp
theorem bar_has (c : UInt8) : hasL c barL = barL.contains c := by
  rw [Bool.eq_iff_iff, hasL_iff, List.contains_iff_mem]

set_option maxRecDepth 100000 in
set_option maxHeartbeats 1000000 in
theorem ofAddress_any (c : UInt8) (w : World) :
    Calls Tryd.prog 88 #[.int .u8 (c.toNat : Int)] w fun e w' => e = .returned (.bool (addrB c)) ∧ w' = w := by
  have hc := c.toNat_lt
  have hi := Tryd.strings_IndexByte ⟨barL.toArray⟩ (c.toNat : Int) w
  rw [toU8, indexByte_ix] at hi
  have hl : (⟨barL.toArray⟩ : ByteArray).data.toList = barL := by simp
  rw [hl] at hi
  have HI := hide hi
  have HX : Hid (decide (ixI c barL < 0) = !barL.contains c) := by unfold Hid; rw [ixI_lt, bar_has]
  clear hi hl
  by_cases h1 : 33 ≤ c.toNat
  · by_cases h2 : c.toNat ≤ 126
    · go_enter Tryd.func88, Tryd.ntmps88
      go_wp2_with fail
      refine HI.out.mono ?_
      rintro e w1 ⟨rfl, rfl⟩
      go_wp2_with fail
      go_ret
      refine ⟨?_, rfl⟩
      unfold addrB
      rw [← HX.out, decide_eq_true h1, decide_eq_true h2]
      rfl
    · have h2d : decide ((c.toNat : Int) ≤ 126) = false := decide_eq_false (by omega)
      have HR : Hid (addrB c = false) := by unfold Hid addrB; simp [h2]
      go_enter Tryd.func88, Tryd.ntmps88
      go_wp2_with fail
      go_ret
      exact ⟨by rw [HR.out]; rfl, rfl⟩
  · have h1d : decide (33 ≤ (c.toNat : Int)) = false := decide_eq_false (by omega)
    have HR : Hid (addrB c = false) := by unfold Hid addrB; simp [h1]
    go_enter Tryd.func88, Tryd.ntmps88
    go_wp2_with fail
    go_ret
    exact ⟨by rw [HR.out]; rfl, rfl⟩

set_option maxRecDepth 100000 in
set_option maxHeartbeats 1000000 in
theorem ofReason_any (c : UInt8) (w : World) :
    Calls Tryd.prog 89 #[.int .u8 (c.toNat : Int)] w fun e w' => e = .returned (.bool (sayB c)) ∧ w' = w := by
  have hc := c.toNat_lt
  go_enter Tryd.func89, Tryd.ntmps89
  go_wp2
  all_goals (go_ret; refine ⟨ret_bool ?_, rfl⟩)
  all_goals (unfold sayB; rw [ctrlB_iff, Bool.eq_iff_iff]; simp; try omega)

set_option maxRecDepth 100000 in
set_option maxHeartbeats 1000000 in
theorem every_any (F : FuncId) (p : UInt8 → Bool) (hcf : ∀ (a : Array Value) (w1 : World), Sem.run Tryd.prog (callFunc F a) w1 = .ok (.enter F a) w1)
    (hp : ∀ (c : UInt8) (w : World), Calls Tryd.prog F #[.int .u8 (c.toNat : Int)] w fun e w' => e = .returned (.bool (p c)) ∧ w' = w)
    (s : ByteArray) (w : World) (hs : s.size ≤ 1000000) :
    Calls Tryd.prog 87 #[.string s, .func (.func F) #[] #[]] w fun e w' => e = .returned (.bool (allB p s.data.toList)) ∧ w' = w := by
  have HZ : Hid (s.data.toList.length = s.size) := by unfold Hid; simp
  have HP := hide hp
  clear hp
  go_enter Tryd.func87, Tryd.ntmps87
  go_wp2_with fail
  go_loop [8] (fun i => ∃ k : Nat, k ≤ s.size ∧ i = .int .i64 k ∧ Hid (∀ x ∈ s.data.toList.take k, p x = true)) (fun i => s.size - (intOf i).toNat)
  case atStart => exact ⟨0, Nat.zero_le _, rfl, by simp [Hid]⟩
  case round =>
    obtain ⟨k, hk, rfl, hall⟩ := hrel
    by_cases hlt : k < s.size
    · have hltz : (k : Int) < s.size := by omega
      have HT : Hid (s.data.toList.take (k + 1) = s.data.toList.take k ++ [s[k]]) := by
        unfold Hid; rw [take_snoc _ k (by rw [HZ.out]; exact hlt), get_at s k hlt]
      cases hb : p s[k]
      · have HN : Hid (allB p s.data.toList = false) := by
          unfold Hid allB
          rw [List.all_eq_false]
          exact ⟨s[k], by rw [← List.take_append_drop (k + 1) s.data.toList, HT.out]; simp, by simp [hb]⟩
        go_wp2_with fail
        refine (HP.out s[k] _).mono ?_
        rintro e w1 ⟨rfl, hw1⟩
        subst hw1
        rw [hb]
        go_wp2_with fail
        go_ret
        exact ⟨by rw [HN.out]; rfl, rfl⟩
      · go_wp2_with fail
        refine (HP.out s[k] _).mono ?_
        rintro e w1 ⟨rfl, hw1⟩
        subst hw1
        rw [hb]
        go_wp2_with fail
        refine ⟨⟨k + 1, by omega, by go_num, ?_⟩, by simp [intOf]; omega⟩
        unfold Hid
        rw [HT.out]
        intro x hx
        rcases List.mem_append.1 hx with hx | hx
        · exact hall.out x hx
        · obtain rfl : x = s[k] := by simpa using hx
          exact hb
    · have hd : decide ((k : Int) < s.size) = false := decide_eq_false (by omega)
      rw [List.take_of_length_le (by rw [HZ.out]; omega)] at hall
      have HN : Hid (allB p s.data.toList = true) := List.all_eq_true.2 hall.out
      go_wp2_with fail
      go_ret
      exact ⟨by rw [HN.out]; rfl, rfl⟩

theorem cf52 (a : Array Value) (w1 : World) : Sem.run Tryd.prog (callFunc 88 a) w1 = .ok (.enter 88 a) w1 := by kernel_rfl
theorem cf53 (a : Array Value) (w1 : World) : Sem.run Tryd.prog (callFunc 89 a) w1 = .ok (.enter 89 a) w1 := by kernel_rfl
theorem everyA (s : ByteArray) (w : World) (hs : s.size ≤ 1000000) : Calls Tryd.prog 87 #[.string s, .func (.func 88) #[] #[]] w fun e w' => e = .returned (.bool (allB addrB s.data.toList)) ∧ w' = w :=
  every_any 88 addrB cf52 ofAddress_any s w hs
theorem everyR (s : ByteArray) (w : World) (hs : s.size ≤ 1000000) : Calls Tryd.prog 87 #[.string s, .func (.func 89) #[] #[]] w fun e w' => e = .returned (.bool (allB sayB s.data.toList)) ∧ w' = w :=
  every_any 89 sayB cf53 ofReason_any s w hs

def tgtB (s : ByteArray) : Bool := tgtL s.data.toList
def rsnB (s : ByteArray) : Bool := rsnL s.data.toList

theorem tgt_star {s : ByteArray} (h : s.data.toList = [42]) : tgtB s = true := by unfold tgtB tgtL; rw [h]; rfl
theorem tgt_else {s : ByteArray} (h : s.data.toList ≠ [42]) {b : Bool} (hb : (pre [47] s.data.toList || pre httpL s.data.toList) = b) : tgtB s = (b && decide (s.size ≤ 500) && allB addrB s.data.toList) := by
  unfold tgtB tgtL
  rw [decide_eq_false h, hb, size_list]; simp

set_option maxRecDepth 100000 in
set_option maxHeartbeats 1000000 in
theorem rightTarget_any (s : ByteArray) (w : World) (hs : s.size ≤ 1000000) :
    Calls Tryd.prog 74 #[.string s] w fun e w' => e = .returned (.bool (tgtB s)) ∧ w' = w := by
  have hE := everyA s
  cases h0 : (s.toList == [42])
  · have H0 := hide (ne_of_beq h0)
    have hp1 := fun b (h : pre [47] s.data.toList = b) => pre_any s ⟨#[47]⟩ b h
    have hp2 := fun b (h : pre httpL s.data.toList = b) => pre_any s ⟨#[104, 116, 116, 112, 58, 47, 47]⟩ b h
    by_cases hl : s.size ≤ 500
    · have hld : decide ((s.size : Int) ≤ 500) = true := decide_eq_true (by omega)
      cases h1 : pre [47] s.data.toList
      · have C1 := hp1 _ h1
        cases h2 : pre httpL s.data.toList
        · have C2 := hp2 _ h2
          have HR : Hid (tgtB s = false) := by unfold Hid; rw [tgt_else H0.out (b := false) (by rw [h1, h2]; rfl)]; simp
          clear hp1 hp2 h1 h2 hE
          go_enter Tryd.func74, Tryd.ntmps74
          go_wp2_with fail
          refine (C1 _).mono ?_
          rintro e w1 ⟨rfl, hw1⟩
          subst hw1
          go_wp2_with fail
          refine (C2 _).mono ?_
          rintro e w1 ⟨rfl, hw1⟩
          subst hw1
          go_wp2_with fail
          go_ret
          exact ⟨by rw [HR.out]; rfl, rfl⟩
        · have C2 := hp2 _ h2
          have HR : Hid (tgtB s = allB addrB s.data.toList) := by unfold Hid; rw [tgt_else H0.out (b := true) (by rw [h1, h2]; rfl), decide_eq_true hl]; simp
          clear hp1 hp2 h1 h2
          go_enter Tryd.func74, Tryd.ntmps74
          go_wp2_with fail
          refine (C1 _).mono ?_
          rintro e w1 ⟨rfl, hw1⟩
          subst hw1
          go_wp2_with fail
          refine (C2 _).mono ?_
          rintro e w1 ⟨rfl, hw1⟩
          subst hw1
          go_wp2_with fail
          refine (hE _ hs).mono ?_
          rintro e w1 ⟨rfl, hw1⟩
          subst hw1
          go_wp2_with fail
          go_ret
          exact ⟨by rw [HR.out]; rfl, rfl⟩
      · have C1 := hp1 _ h1
        have HR : Hid (tgtB s = allB addrB s.data.toList) := by unfold Hid; rw [tgt_else H0.out (b := true) (by rw [h1]; rfl), decide_eq_true hl]; simp
        clear hp1 hp2 h1
        go_enter Tryd.func74, Tryd.ntmps74
        go_wp2_with fail
        refine (C1 _).mono ?_
        rintro e w1 ⟨rfl, hw1⟩
        subst hw1
        go_wp2_with fail
        refine (hE _ hs).mono ?_
        rintro e w1 ⟨rfl, hw1⟩
        subst hw1
        go_wp2_with fail
        go_ret
        exact ⟨by rw [HR.out]; rfl, rfl⟩
    · have hld : decide ((s.size : Int) ≤ 500) = false := decide_eq_false (by omega)
      have HR : Hid (tgtB s = false) := by unfold Hid; rw [tgt_else H0.out (b := _) rfl, decide_eq_false hl]; simp
      clear hE
      cases h1 : pre [47] s.data.toList
      · have C1 := hp1 _ h1
        have C2 := hp2 _ rfl
        generalize pre httpL s.data.toList = b2 at C2
        clear hp1 hp2 h1
        cases b2
        all_goals
          go_enter Tryd.func74, Tryd.ntmps74
          go_wp2_with fail
          refine (C1 _).mono ?_
          rintro e w1 ⟨rfl, hw1⟩
          subst hw1
          go_wp2_with fail
          refine (C2 _).mono ?_
          rintro e w1 ⟨rfl, hw1⟩
          subst hw1
          go_wp2_with fail
          go_ret
          exact ⟨by rw [HR.out]; rfl, rfl⟩
      · have C1 := hp1 _ h1
        clear hp1 hp2 h1
        go_enter Tryd.func74, Tryd.ntmps74
        go_wp2_with fail
        refine (C1 _).mono ?_
        rintro e w1 ⟨rfl, hw1⟩
        subst hw1
        go_wp2_with fail
        go_ret
        exact ⟨by rw [HR.out]; rfl, rfl⟩
  · have HR := hide (tgt_star (eq_of_beq h0))
    clear hE
    go_enter Tryd.func74, Tryd.ntmps74
    go_wp2_with fail
    go_ret
    exact ⟨by rw [HR.out]; rfl, rfl⟩

theorem rsn_long {s : ByteArray} (h : ¬ s.size ≤ 100) : rsnB s = false := by unfold rsnB rsnL; rw [size_list, decide_eq_false h]; rfl
theorem rsn_bad {s : ByteArray} (h : allB sayB s.data.toList = false) : rsnB s = false := by unfold rsnB rsnL; rw [h]; simp
theorem rsn_trim {s : ByteArray} (h : s.size ≤ 100) (g : allB sayB s.data.toList = true) : rsnB s = ((trimS s).toList == s.toList) := by
  unfold rsnB rsnL
  rw [size_list, decide_eq_true h, g, ByteArray.toList_eq, ByteArray.toList_eq, trimS_list]
  simp only [Bool.true_and]
  rw [Bool.eq_iff_iff]; simp

set_option maxRecDepth 100000 in
set_option maxHeartbeats 1000000 in
theorem rightReason_any (s : ByteArray) (w : World) (hs : s.size ≤ 1000000) :
    Calls Tryd.prog 75 #[.string s] w fun e w' => e = .returned (.bool (rsnB s)) ∧ Below w.heap.size w w' := by
  have hE := everyR s
  by_cases hl : s.size ≤ 100
  · have hld : decide ((s.size : Int) ≤ 100) = true := decide_eq_true (by omega)
    cases h1 : allB sayB s.data.toList
    · rw [h1] at hE
      have HR := hide (rsn_bad h1)
      clear h1
      go_enter Tryd.func75, Tryd.ntmps75
      go_wp2_with fail
      refine (hE _ hs).mono ?_
      rintro e w1 ⟨rfl, hw1⟩
      subst hw1
      go_wp2_with fail
      go_ret
      exact ⟨by rw [HR.out]; rfl, Below.refl _ _⟩
    · rw [h1] at hE
      have HR := hide (rsn_trim hl h1)
      clear h1
      go_enter Tryd.func75, Tryd.ntmps75
      go_wp2_with fail
      refine (hE _ hs).mono ?_
      rintro e w1 ⟨rfl, hw1⟩
      subst hw1
      go_wp2_with fail
      refine (trim_any s _ hs).mono ?_
      rintro e w1 ⟨rfl, hb⟩
      go_wp2_with fail
      go_ret
      exact ⟨by rw [HR.out]; rfl, hb⟩
  · have hld : decide ((s.size : Int) ≤ 100) = false := decide_eq_false (by omega)
    have HR := hide (rsn_long hl)
    clear hE
    go_enter Tryd.func75, Tryd.ntmps75
    go_wp2_with fail
    go_ret
    exact ⟨by rw [HR.out]; rfl, Below.refl _ _⟩

end Go.Proofs.YtplanlhgcckioaaDoor
