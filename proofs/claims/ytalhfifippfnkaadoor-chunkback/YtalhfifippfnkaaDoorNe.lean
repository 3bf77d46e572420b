/- The walks of Dec and Hex, of the document's own digits, and of the statement's own question whether anything answers. -/
import Derived.Test.YtalhfifippfnkaaDoorNd
namespace Go.Proofs.YtalhfifippfnkaaDoor
set_option linter.unusedVariables false
set_option linter.unusedSimpArgs false
open Go.RowKit Go.Sort

/-- The hexadecimal digits, as a string. -/
def hexS (u : Nat) : ByteArray := ⟨(dgs 16 (by omega) u).toArray⟩

theorem hexS_list (u : Nat) : (hexS u).data.toList = dgs 16 (by omega) u := by simp [hexS]
theorem hexS_size (u : Nat) : (hexS u).size = (dgs 16 (by omega) u).length := by rw [← hexS_list]; simp
theorem hexS_le (u : Nat) (h : u < 18446744073709551616) : (hexS u).size ≤ 16 := by rw [hexS_size]; exact dgs_length_lt _ 15 u (by omega)

set_option maxHeartbeats 400000 in
theorem fmt16 (u : Nat) (hu64 : u < 18446744073709551616) (w : World) (ht : Tabs w) :
    Calls Tryd.prog 19 #[.int .u64 (u : Int), .int .i64 16] w fun e w' => e = .returned (.string (hexS u)) ∧ Below w.heap.size w w' := by
  go_enter Tryd.func19, Tryd.ntmps19
  go_wp2_with fail
  refine (fmtHex u hu64 _ ht).mono ?_
  rintro e w1 ⟨rfl, hb⟩
  rw [show (⟨(dgs 16 (by omega) u).toArray⟩ : ByteArray) = hexS u from rfl]
  go_wp2_with fail
  go_ret
  exact ⟨rfl, hb⟩

set_option maxHeartbeats 400000 in
theorem hex_any (u : Nat) (hu64 : u < 18446744073709551616) (w : World) (ht : Tabs w) :
    Calls Tryd.prog 10 #[.int .u64 (u : Int)] w fun e w' => e = .returned (.string (hexS u)) ∧ Below w.heap.size w w' := by
  have h22 : Calls Tryd.prog 13 #[.int .u64 (u : Int), .int .i64 16] w fun e w' => e = .returned (.string (hexS u)) ∧ Below w.heap.size w w' := by
    go_enter Tryd.func13, Tryd.ntmps13
    go_wp2_with fail
    refine (fmt16 u hu64 _ ht).mono ?_
    rintro e w1 ⟨rfl, hb⟩
    go_wp2_with fail
    go_ret
    exact ⟨rfl, hb⟩
  go_enter Tryd.func10, Tryd.ntmps10
  go_wp2_with fail
  refine h22.mono ?_
  rintro e w1 ⟨rfl, hb⟩
  go_wp2_with fail
  go_ret
  exact ⟨rfl, hb⟩

end Go.Proofs.YtalhfifippfnkaaDoor
