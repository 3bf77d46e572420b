/- Small facts on short addresses and on what is read. -/
import Derived.Test.YtjegoceebdiaaaaDoorMx
import Derived.Test.YtjegoceebdiaaaaDoorFa
import Derived.Test.YtjegoceebdiaaaaDoorRd
namespace Go.Proofs.YtjegoceebdiaaaaDoor
set_option linter.unusedVariables false
set_option linter.unusedSimpArgs false
open Go.RowKit

theorem few_short (u : U) : Short (fewU u) := ⟨Nat.le_trans (few_cut _ 120) (by omega), Nat.le_trans (few_cut _ 520) (by omega), Nat.le_trans (few_cut _ 520) (by omega)⟩
theorem few_path (u : U) : (fewU u).path.size ≤ 520 := few_cut _ 520
theorem few_host (u : U) : (fewU u).host.size ≤ 120 := few_cut _ 120
theorem few_query (u : U) : (fewU u).query.size ≤ 520 := few_cut _ 520

theorem ps_short (s : ByteArray) (hs : s.size ≤ 5000) : Short (psU s.data.toList) := by
  rcases ps_cases s.data.toList with ⟨-, h⟩ | ⟨-, h⟩
  · have hl := rt_len h
    unfold wrL at hl
    generalize psU s.data.toList = u at h hl
    have k := rt_place h
    refine ⟨?_, ?_, ?_⟩
    · unfold placeB at k
      cases ha : u.abs
      · rw [ha] at k
        simp only [Bool.false_eq_true, if_false, Bool.and_eq_true, List.isEmpty_iff] at k
        rw [← size_list, k.1.1]; simp
      · rw [ha, if_pos rfl] at hl
        rw [← size_list]
        simp only [List.length_append] at hl
        omega
    · rw [← size_list]
      cases ha : u.abs <;> rw [ha] at hl <;> simp only [List.length_append, if_true, Bool.false_eq_true, if_false] at hl <;> omega
    · rw [← size_list]
      obtain ⟨-, q, -, -⟩ := rt_path h
      rcases q with q | q
      · rw [q] at hl
        simp only [List.length_append, qryL, if_true, List.length_cons] at hl
        omega
      · rw [q]; simp
  · rw [h]; exact ⟨by show 0 ≤ 10000; omega, by show 0 ≤ 10000; omega, by show 0 ≤ 10000; omega⟩

theorem Six.zero {w : World} {N : Nat} (h : Six w N U0) : w.cell? ⟨N, 0, none⟩ = some (.bool false) ∧ w.cell? ⟨N, 1, none⟩ = some (.string ⟨#[]⟩) ∧ w.cell? ⟨N, 2, none⟩ = some (.int .i64 0) ∧ w.cell? ⟨N, 3, none⟩ = some (.string ⟨#[]⟩) ∧ w.cell? ⟨N, 4, none⟩ = some (.bool false) ∧ w.cell? ⟨N, 5, none⟩ = some (.string ⟨#[]⟩) :=
  ⟨h.c0, h.c1, h.c2, h.c3, h.c4, h.c5⟩

end Go.Proofs.YtjegoceebdiaaaaDoor
