/- The walks of ReadDec, ReadHex, Signed, and of the document's own readings. -/
import Derived.Test.YtkefplnajcbffaaDoorWb
import Derived.Test.YtkefplnajcbffaaDoorShelf
namespace Go.Proofs.YtkefplnajcbffaaDoor
set_option linter.unusedVariables false
set_option linter.unusedSimpArgs false
open Go.RowKit

theorem below_drewN (w : World) (n : Nat) : Below w.heap.size w (w.drewN n) := ⟨rfl, rfl, rfl, Nat.le_refl _, fun _ _ => rfl⟩

set_option maxHeartbeats 400000 in
theorem below_u (b : Nat) (w : World) :
    Calls Tryd.prog 17 #[.int .u64 (b : Int)] w fun e w' => e = .returned (.func (.func 23) #[] #[.pointer (some ⟨w.heap.size, 0, none⟩)]) ∧ w' = w.alloc (.cells #[.int .u64 (b : Int)] 22) := by
  go_enter Tryd.func17, Tryd.ntmps17
  go_wp2
  go_ret
  exact ⟨rfl, rfl⟩

set_option maxHeartbeats 400000 in
theorem below_i (b : Nat) (w : World) :
    Calls Tryd.prog 21 #[.int .i64 (b : Int)] w fun e w' => e = .returned (.func (.func 26) #[] #[.pointer (some ⟨w.heap.size, 0, none⟩)]) ∧ w' = w.alloc (.cells #[.int .i64 (b : Int)] 2) := by
  go_enter Tryd.func21, Tryd.ntmps21
  go_wp2
  go_ret
  exact ⟨rfl, rfl⟩

set_option maxHeartbeats 400000 in
theorem readDec_any (s : ByteArray) (w : World) (hs : s.size ≤ maxLen) :
    Calls Tryd.prog 7 #[.string s] w fun e w' => e = .returned (.tuple #[.int .u64 (rdN 10 s.data.toList : Nat), .int .i64 (rdE 10 s.data.toList : Nat)]) ∧ Below w.heap.size w w' := by
  go_enter Tryd.func7, Tryd.ntmps7
  go_wp2_with fail
  refine (below_u 10 _).mono ?_
  rintro e w1 ⟨rfl, rfl⟩
  go_wp2_with fail
  refine (read_u10 s _ _ hs (by simp)).mono ?_
  rintro e w2 ⟨rfl, n, rfl⟩
  go_wp2_with fail
  go_ret2
  exact ⟨rfl, ((Below.refl _ _).alloc (Nat.le_refl _) _).trans ((below_drewN _ n).mono (by simp))⟩

set_option maxHeartbeats 400000 in
theorem readHex_any (s : ByteArray) (w : World) (hs : s.size ≤ maxLen) :
    Calls Tryd.prog 9 #[.string s] w fun e w' => e = .returned (.tuple #[.int .u64 (rdN 16 s.data.toList : Nat), .int .i64 (rdE 16 s.data.toList : Nat)]) ∧ Below w.heap.size w w' := by
  go_enter Tryd.func9, Tryd.ntmps9
  go_wp2_with fail
  refine (below_u 16 _).mono ?_
  rintro e w1 ⟨rfl, rfl⟩
  go_wp2_with fail
  refine (read_u16 s _ _ hs (by simp)).mono ?_
  rintro e w2 ⟨rfl, n, rfl⟩
  go_wp2_with fail
  go_ret2
  exact ⟨rfl, ((Below.refl _ _).alloc (Nat.le_refl _) _).trans ((below_drewN _ n).mono (by simp))⟩

theorem trim_minus (l : List UInt8) : (Lib.hasPrefix l [45] = true → l.head? = some 45 ∧ Lib.trimPrefix l [45] = l.drop 1) ∧ (Lib.hasPrefix l [45] = false → l.head? ≠ some 45 ∧ Lib.trimPrefix l [45] = l) := by
  cases l with
  | nil => simp [Lib.hasPrefix, Lib.trimPrefix]
  | cons x l =>
    by_cases h : x = 45
    · subst h; simp [Lib.hasPrefix, Lib.trimPrefix]
    · have h' : ¬ 45 = x := fun e => h e.symm
      simp [Lib.hasPrefix, Lib.trimPrefix, h, h']

set_option maxHeartbeats 400000 in
theorem signed_any (s : ByteArray) (w : World) (hs : s.size ≤ maxLen) :
    Calls Tryd.prog 10 #[.string s] w fun e w' => e = .returned (.tuple #[.int .i64 (sgN s.data.toList), .int .i64 (sgE s.data.toList : Nat)]) ∧ Below w.heap.size w w' := by
  have ht := trim_minus s.data.toList
  have hle : (Lib.trimPrefix s.data.toList [45]).toArray.size ≤ maxLen := by
    cases h : Lib.hasPrefix s.data.toList [45] with
    | true => rw [(ht.1 h).2]; simp; omega
    | false => rw [(ht.2 h).2]; simpa using hs
  have hr := rdN_le 10 (Lib.trimPrefix s.data.toList [45])
  cases h : Lib.hasPrefix s.data.toList [45] with
  | true =>
    obtain ⟨h1, h2⟩ := ht.1 h
    have H : Hid (sgN s.data.toList = -(rdN 10 (Lib.trimPrefix s.data.toList [45]) : Int) ∧ sgE s.data.toList = rdE 10 (Lib.trimPrefix s.data.toList [45])) := by
      unfold Hid sgN sgE; rw [if_pos h1, if_pos h1, h2]; exact ⟨rfl, rfl⟩
    have HH : Hid (Lib.hasPrefix s.data.toList [45] = true) := h
    clear ht h h1 h2
    go_enter Tryd.func10, Tryd.ntmps10
    go_wp2_with fail
    refine (Tryd.strings_CutPrefix _ _ _).mono ?_
    rintro e w1 ⟨rfl, rfl⟩
    simp only [show (⟨#[45]⟩ : ByteArray).data.toList = [45] from rfl, HH.out]
    go_wp2_with fail
    refine (below_i 10 _).mono ?_
    rintro e w1 ⟨rfl, rfl⟩
    go_wp2_with fail
    refine (read_i10 _ _ _ hle (by simp)).mono ?_
    rintro e w2 ⟨rfl, n, rfl⟩
    go_wp2_with fail
    go_ret2
    refine ⟨?_, ((Below.refl _ _).alloc (Nat.le_refl _) _).trans ((below_drewN _ n).mono (by simp))⟩
    exact ret_two (by rw [H.out.1]) (by rw [H.out.2])
  | false =>
    obtain ⟨h1, h2⟩ := ht.2 h
    have H : Hid (sgN s.data.toList = (rdN 10 (Lib.trimPrefix s.data.toList [45]) : Int) ∧ sgE s.data.toList = rdE 10 (Lib.trimPrefix s.data.toList [45])) := by
      unfold Hid sgN sgE; rw [if_neg h1, if_neg h1, h2]; exact ⟨rfl, rfl⟩
    have HH : Hid (Lib.hasPrefix s.data.toList [45] = false) := h
    clear ht h h1 h2
    go_enter Tryd.func10, Tryd.ntmps10
    go_wp2_with fail
    refine (Tryd.strings_CutPrefix _ _ _).mono ?_
    rintro e w1 ⟨rfl, rfl⟩
    simp only [show (⟨#[45]⟩ : ByteArray).data.toList = [45] from rfl, HH.out]
    go_wp2_with fail
    refine (below_i 10 _).mono ?_
    rintro e w1 ⟨rfl, rfl⟩
    go_wp2_with fail
    refine (read_i10 _ _ _ hle (by simp)).mono ?_
    rintro e w2 ⟨rfl, n, rfl⟩
    go_wp2_with fail
    go_ret2
    refine ⟨?_, ((Below.refl _ _).alloc (Nat.le_refl _) _).trans ((below_drewN _ n).mono (by simp))⟩
    exact ret_two (by rw [H.out.1]) (by rw [H.out.2])

end Go.Proofs.YtkefplnajcbffaaDoor
