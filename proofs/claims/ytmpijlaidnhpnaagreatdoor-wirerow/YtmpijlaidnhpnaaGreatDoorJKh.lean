/- The walks of Encode and End. -/
import Derived.Test.YtmpijlaidnhpnaaGreatDoorJKn
import Derived.Test.YtmpijlaidnhpnaaGreatDoorJKy
namespace Go.Proofs.YtmpijlaidnhpnaaGreatDoor.Ck
set_option linter.unusedVariables false
set_option linter.unusedSimpArgs false
set_option maxRecDepth 100000
open Go.RowKit

/-- Data as a chunk, as a text. -/
def encS (s : ByteArray) : ByteArray := bs (encL s.data.toList)
theorem encS_list (s : ByteArray) : (encS s).data.toList = encL s.data.toList := bs_list _
theorem encL_len (x : List UInt8) (h : x.length ≤ 1000000) : (encL x).length ≤ x.length + 20 := by
  unfold encL
  split
  · simp
  · have := hexL_len x.length (by omega)
    simp only [List.length_append, List.length_cons, List.length_nil]; omega
theorem encS_size (s : ByteArray) (h : s.size ≤ 1000000) : (encS s).size ≤ s.size + 20 := by
  unfold encS
  rw [bs_size, ← size_list s]; exact encL_len _ (by rw [size_list]; exact h)
theorem encS_empty {s : ByteArray} (h : s.data.toList = []) : encS s = ⟨#[]⟩ := by
  unfold encS; rw [h]; rfl
theorem encS_some {s : ByteArray} (h : s.data.toList ≠ []) : encS s = ((hexS s.size ++ ⟨#[13, 10]⟩) ++ s) ++ ⟨#[13, 10]⟩ := by
  apply bytes_ext
  rw [encS_list, app_list, app_list, app_list, hexS_list]
  unfold encL
  rw [if_neg h, size_list]; rfl

set_option maxRecDepth 100000 in
set_option maxHeartbeats 1000000 in
theorem encode_any (s : ByteArray) (w : World) (hs : s.size ≤ 1000000) (ht : Tabs w) :
    Calls Tryz.prog 21 #[.string s] w fun e w' => e = .returned (.string (encS s)) ∧ Below w.heap.size w w' := by
  by_cases h : s.data.toList = []
  · have he := empty_of h
    have HE := hide (encS_empty h)
    clear h
    go_enter Tryz.func21, Tryz.ntmps21
    go_wp2_with fail
    go_ret
    exact ⟨ret_str HE.out.symm, Below.refl _ _⟩
  · have he := empty_not h
    have HE := hide (encS_some h)
    have hx := hexS_le s.size (by omega)
    clear h
    go_enter Tryz.func21, Tryz.ntmps21
    go_wp2_with fail
    refine (hex_any s.size (by omega) _ ht).mono ?_
    rintro e w1 ⟨rfl, hb1⟩
    go_wp2_with fail
    go_ret
    exact ⟨ret_str HE.out.symm, hb1⟩

set_option maxRecDepth 100000 in
theorem endc_any (w : World) : Calls Tryz.prog 22 #[] w fun e w' => e = .returned (.string ⟨#[48, 13, 10, 13, 10]⟩) ∧ w' = w := by
  go_enter Tryz.func22, Tryz.ntmps22
  go_wp2_with fail
  go_ret
  exact ⟨rfl, rfl⟩

end Go.Proofs.YtmpijlaidnhpnaaGreatDoor.Ck
