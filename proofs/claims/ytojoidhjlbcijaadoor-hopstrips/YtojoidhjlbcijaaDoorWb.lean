/- The walks of the loops that ask a set. -/
import Derived.Test.YtojoidhjlbcijaaDoorWa
namespace Go.Proofs.YtojoidhjlbcijaaDoor
set_option linter.unusedVariables false
set_option linter.unusedSimpArgs false
set_option maxRecDepth 100000
open Go.RowKit

/-- The control bytes below k. -/
def ct (k : Nat) : List UInt8 := ((List.range k).filter (fun i => i != 9)).map UInt8.ofNat
theorem ct_zero : ct 0 = [] := rfl
theorem ct_yes {k : Nat} (h : k ≠ 9) : ct (k + 1) = ct k ++ [UInt8.ofNat k] := by
  unfold ct
  rw [List.range_succ, List.filter_append, List.filter_cons, if_pos (by simpa using h), List.map_append]; rfl
theorem ct_no : ct (9 + 1) = ct 9 := by decide
theorem ct_end : ct 32 ++ [127] = ctrlL := by decide
theorem set_same (a : Array Value) (i : Nat) (v : Value) (h : a[i]? = some v) : a.setIfInBounds i v = a := by
  obtain ⟨h1, h2⟩ := Array.getElem?_eq_some_iff.1 h
  apply Array.ext
  · simp
  · intro j h3 h4
    rw [Array.getElem_setIfInBounds]
    split
    · rename_i e; subst e; exact h2.symm
    · rfl
theorem ct_nine : (Lib.setCells (ct 9)).setIfInBounds 9 (.bool false) = Lib.setCells (ct (9 + 1)) := by
  rw [ct_no]
  exact set_same _ _ _ (Lib.setCells_at (ct 9) 9)
theorem ct_store {k : Nat} (h : k ≠ 9) (hk : k < 32) : (Lib.setCells (ct k)).setIfInBounds k (.bool true) = Lib.setCells (ct (k + 1)) := by
  rw [ct_yes h, Lib.setCells_snoc]
  congr 1
  simp; omega
theorem ct_last : (Lib.setCells (ct 32)).setIfInBounds 127 (.bool true) = Lib.setCells ctrlL := by
  rw [← ct_end, Lib.setCells_snoc]; rfl

/-- The set lies in block B, and below it nothing has turned. -/
def Lies (w : World) (l : List UInt8) (w' : World) : Prop := w'.heap[w.heap.size]? = some (.cells (Lib.setCells l) 74 (0, 0)) ∧ Below w.heap.size w w'
theorem Lies.lt {w w' : World} {l : List UInt8} (h : Lies w l w') : w.heap.size < w'.heap.size := (Array.getElem?_eq_some_iff.1 h.1).1
theorem Lies.below {w w1 w2 : World} {l : List UInt8} (h : Lies w l w1) (hb : Below w1.heap.size w1 w2) : Lies w l w2 := ⟨(hb.block _ h.lt).trans h.1, h.2.trans (hb.mono h.2.size)⟩
theorem Lies.load {w w' : World} {l : List UInt8} (h : Lies w l w') {N : Nat} (hN : (Lib.setCells l).size = N) : Sem.run Tryd.prog (loadCellsFrom ⟨w.heap.size, 0, none⟩ 0 N #[]) w' = .ok (Lib.setCells l) w' := load_row _ _ _ _ _ h.1 N hN
theorem Lies.range {w w' : World} {l : List UInt8} (h : Lies w l w') : w'.rangeAt w.heap.size 0 (Lib.setCells l).toList := fun j v hv => by
  rw [Nat.zero_add, cell_of_row _ _ j _ _ _ h.1]
  simpa using hv
theorem Lies.drew {w w' : World} {l : List UInt8} (h : Lies w l w') : Lies w l w'.drew := ⟨h.1, h.2.drew⟩
theorem len39 (l : List UInt8) : (Tryd.prog.info? 74).map (·.size) = some (Lib.setCells l).toList.length := by
  rw [Array.length_toList, Lib.setCells_size]; exact size39
theorem Lies.new (w : World) (l : List UInt8) : Lies w l (w.alloc (.cells (Lib.setCells l) 74)) := ⟨heap_alloc_new w _, one_alloc _ _ _⟩
theorem Lies.drewN {w w' : World} {l : List UInt8} (h : Lies w l w') (n : Nat) : Lies w l (w'.drewN n) := ⟨h.1, ⟨h.2.os, h.2.tape, h.2.output, h.2.size, h.2.block⟩⟩

set_option maxHeartbeats 1000000 in
/-- Where the first byte stands that is not in the set. -/
theorem first_lacks (s : ByteArray) (l : List UInt8) (p : UInt8 → Bool) (hp : ∀ c, l.contains c = p c) (w : World) (hs : s.size ≤ 1000000) :
    Calls Tryd.prog 72 #[.string s, .agg (Lib.setCells l), .func (.func 73) #[] #[]] w fun e w' => e = .returned (.int .i64 ((s.data.toList.takeWhile p).length : Nat)) ∧ Below w.heap.size w w' := by
  have HZ : Hid (s.data.toList.length = s.size) := by unfold Hid; simp
  have HP := hide hp
  clear hp
  go_enter Tryd.func72, Tryd.ntmps72
  go_wp2
  go_loopw [7] (fun i wr => ∃ k : Nat, k ≤ s.size ∧ i = .int .i64 k ∧ Hid (∀ c ∈ s.data.toList.take k, p c = true) ∧ Lies w l wr) (fun i _ => s.size - (intOf i).toNat)
  case atStart => exact ⟨0, Nat.zero_le _, rfl, by simp [Hid], Lies.new _ _⟩
  case round =>
    obtain ⟨k, hk, rfl, hall, hli⟩ := hrel
    by_cases hlt : k < s.size
    · have hltz : (k : Int) < s.size := by omega
      obtain ⟨b, hb⟩ : ∃ b, p s[k] = b := ⟨_, rfl⟩
      have hpb : l.contains s[k] = b := (HP.out _).trans hb
      have HB := hide hb
      have HT : Hid (s.data.toList.take (k + 1) = s.data.toList.take k ++ [s[k]]) := by
        unfold Hid; rw [take_snoc _ k (by rw [HZ.out]; exact hlt), get_at s k hlt]
      have hu := Tryd.underlying74
      have hi := len39 l
      clear hb
      go_wp2_with fail
      go_region_held3 (fun w' => Lies w l w' ∧ w'.rangeAt w.heap.size 0 (Lib.setCells l).toList)
        (first | exact ⟨hli.drew, hli.drew.range⟩ | exact ⟨hli.drew.below (by assumption), (hli.drew.below (by assumption)).range⟩)
        (first | (go_at_call 73; refine (lacks_any l s[k] b hpb _).mono ?_; rintro e w1 ⟨rfl, hw1⟩))
      rename_i hS
      obtain ⟨hl1, -⟩ := hS
      clear hi hu hpb hw1 hli
      cases b
      · go_wp2
        go_ret
        refine ⟨?_, hl1.2⟩
        rw [takeWhile_at (k := k) (by rw [HZ.out]; exact hlt) hall.out (by rw [get_at s k hlt]; simp [HB.out])]
        rfl
      · go_wp2
        refine ⟨⟨k + 1, by omega, by go_num, ?_, hl1⟩, by simp [intOf]; omega⟩
        unfold Hid
        rw [HT.out]
        intro c hc
        rcases List.mem_append.1 hc with hc | hc
        · exact hall.out c hc
        · obtain rfl : c = s[k] := by simpa using hc
          simp [HB.out]
    · have hd : decide ((k : Int) < s.size) = false := decide_eq_false (by omega)
      go_wp2_with fail
      go_quiet (fail)
      go_wp2
      go_ret
      refine ⟨?_, (hli.drewN _).2⟩
      rw [takeWhile_all (by rw [List.take_of_length_le (by rw [HZ.out]; omega)] at hall; exact hall.out), HZ.out]
      obtain rfl : k = s.size := by omega
      rfl

set_option maxHeartbeats 1000000 in
/-- Where the first byte stands that is in the set. -/
theorem first_has (s : ByteArray) (l : List UInt8) (p : UInt8 → Bool) (hp : ∀ c, l.contains c = p c) (w : World) (hs : s.size ≤ 1000000) :
    Calls Tryd.prog 72 #[.string s, .agg (Lib.setCells l), .func (.func 60) #[] #[]] w fun e w' => e = .returned (.int .i64 ((s.data.toList.takeWhile (fun c => !p c)).length : Nat)) ∧ Below w.heap.size w w' := by
  have HZ : Hid (s.data.toList.length = s.size) := by unfold Hid; simp
  have HP := hide hp
  clear hp
  go_enter Tryd.func72, Tryd.ntmps72
  go_wp2
  go_loopw [7] (fun i wr => ∃ k : Nat, k ≤ s.size ∧ i = .int .i64 k ∧ Hid (∀ c ∈ s.data.toList.take k, (fun c => !p c) c = true) ∧ Lies w l wr) (fun i _ => s.size - (intOf i).toNat)
  case atStart => exact ⟨0, Nat.zero_le _, rfl, by simp [Hid], Lies.new _ _⟩
  case round =>
    obtain ⟨k, hk, rfl, hall, hli⟩ := hrel
    by_cases hlt : k < s.size
    · have hltz : (k : Int) < s.size := by omega
      obtain ⟨b, hb⟩ : ∃ b, p s[k] = b := ⟨_, rfl⟩
      have hpb : l.contains s[k] = b := (HP.out _).trans hb
      have HB := hide hb
      have HT : Hid (s.data.toList.take (k + 1) = s.data.toList.take k ++ [s[k]]) := by
        unfold Hid; rw [take_snoc _ k (by rw [HZ.out]; exact hlt), get_at s k hlt]
      have hu := Tryd.underlying74
      have hi := len39 l
      clear hb
      go_wp2_with fail
      go_region_held3 (fun w' => Lies w l w' ∧ w'.rangeAt w.heap.size 0 (Lib.setCells l).toList)
        (first | exact ⟨hli.drew, hli.drew.range⟩ | exact ⟨hli.drew.below (by assumption), (hli.drew.below (by assumption)).range⟩)
        (first | (go_at_call 60; refine (has_any l s[k] b hpb _).mono ?_; rintro e w1 ⟨rfl, hw1⟩))
      rename_i hS
      obtain ⟨hl1, -⟩ := hS
      clear hi hu hpb hw1 hli
      cases b
      · go_wp2
        refine ⟨⟨k + 1, by omega, by go_num, ?_, hl1⟩, by simp [intOf]; omega⟩
        unfold Hid
        rw [HT.out]
        intro c hc
        rcases List.mem_append.1 hc with hc | hc
        · exact hall.out c hc
        · obtain rfl : c = s[k] := by simpa using hc
          simp [HB.out]
      · go_wp2
        go_ret
        refine ⟨?_, hl1.2⟩
        rw [takeWhile_at (k := k) (by rw [HZ.out]; exact hlt) hall.out (by rw [get_at s k hlt]; simp [HB.out])]
        rfl
    · have hd : decide ((k : Int) < s.size) = false := decide_eq_false (by omega)
      go_wp2_with fail
      go_quiet (fail)
      go_wp2
      go_ret
      refine ⟨?_, (hli.drewN _).2⟩
      rw [takeWhile_all (by rw [List.take_of_length_le (by rw [HZ.out]; omega)] at hall; exact hall.out), HZ.out]
      obtain rfl : k = s.size := by omega
      rfl

set_option maxHeartbeats 1000000 in
/-- Just behind the last byte that is not in the set. -/
theorem last_lacks (s : ByteArray) (l : List UInt8) (p : UInt8 → Bool) (hp : ∀ c, l.contains c = p c) (w : World) (hs : s.size ≤ 1000000) :
    Calls Tryd.prog 74 #[.string s, .agg (Lib.setCells l), .func (.func 73) #[] #[]] w fun e w' => e = .returned (.int .i64 (lastN p s.data.toList : Nat)) ∧ Below w.heap.size w w' := by
  have HZ : Hid (s.data.toList.length = s.size) := by unfold Hid; simp
  have HP := hide hp
  clear hp
  go_enter Tryd.func74, Tryd.ntmps74
  go_wp2
  go_loopw [7] (fun i wr => ∃ k : Nat, k ≤ s.size ∧ i = .int .i64 k ∧ Hid (∀ c ∈ s.data.toList.drop k, p c = true) ∧ Lies w l wr) (fun i _ => (intOf i).toNat)
  case atStart => exact ⟨s.size, Nat.le_refl _, rfl, by unfold Hid; rw [List.drop_eq_nil_of_le (by rw [HZ.out]; exact Nat.le_refl _)]; simp, Lies.new _ _⟩
  case round =>
    obtain ⟨k, hk, rfl, hall, hli⟩ := hrel
    by_cases hlt : 0 < k
    · obtain ⟨m, hm⟩ : ∃ m, k = m + 1 := ⟨k - 1, by omega⟩
      have hms : m < s.size := by omega
      have hltz : (0 : Int) < (k : Int) := by omega
      have hsub : (k : Int) - 1 = (m : Int) := by omega
      have hwr : IntKind.i64.wrap ((k : Int) - 1) = (m : Int) := by rw [i64_wrap_id _ (by omega) (by omega), hsub]
      have hwr2 : IntKind.i64.wrap (m : Int) = (m : Int) := i64_wrap_id _ (by omega) (by omega)
      have hmz : (m : Int) < s.size := by omega
      have HM := hide hm
      clear hm
      obtain ⟨b, hb⟩ : ∃ b, p s[m] = b := ⟨_, rfl⟩
      have hpb : l.contains s[m] = b := (HP.out _).trans hb
      have HB := hide hb
      have HT : Hid (s.data.toList.drop m = s[m] :: s.data.toList.drop (m + 1)) := by
        unfold Hid; rw [List.drop_eq_getElem_cons (by rw [HZ.out]; exact hms), get_at s m hms]
      have hu := Tryd.underlying74
      have hi := len39 l
      clear hb
      go_wp2_with fail
      go_region_held3 (fun w' => Lies w l w' ∧ w'.rangeAt w.heap.size 0 (Lib.setCells l).toList)
        (first | exact ⟨hli.drew, hli.drew.range⟩ | exact ⟨hli.drew.below (by assumption), (hli.drew.below (by assumption)).range⟩)
        (first | (go_at_call 73; refine (lacks_any l s[m] b hpb _).mono ?_; rintro e w1 ⟨rfl, hw1⟩))
      rename_i hS
      obtain ⟨hl1, -⟩ := hS
      clear hi hu hpb hw1 hli
      cases b
      · go_wp2
        go_ret
        refine ⟨?_, hl1.2⟩
        have hal := hall.out
        rw [HM.out] at hal
        rw [lastN_at (k := m) (by rw [HZ.out]; exact hms) hal (by rw [get_at s m hms]; exact HB.out), ← HM.out]
        rfl
      · go_wp2
        refine ⟨⟨m, by omega, by go_num, ?_, hl1⟩, by simp [intOf]; omega⟩
        unfold Hid
        rw [HT.out]
        intro c hc
        rcases List.mem_cons.1 hc with hc | hc
        · subst hc; exact HB.out
        · rw [← HM.out] at hc; exact hall.out c hc
    · obtain rfl : k = 0 := by omega
      have hd : decide ((0 : Int) < ((0 : Nat) : Int)) = false := by decide
      go_wp2_with fail
      go_quiet (fail)
      go_wp2
      go_ret
      refine ⟨?_, (hli.drewN _).2⟩
      rw [lastN_none (by intro c hc; exact hall.out c (by simpa using hc))]
      rfl

end Go.Proofs.YtojoidhjlbcijaaDoor
