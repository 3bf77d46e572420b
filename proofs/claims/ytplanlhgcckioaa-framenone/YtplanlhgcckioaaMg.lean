/- What several lengths say, read one by one: the document's own way comes to the same. By plain reckoning. -/
import Derived.Test.YtplanlhgcckioaaMf
namespace Go.Proofs.Ytplanlhgcckioaa
set_option linter.unusedVariables false
set_option linter.unusedSimpArgs false
set_option maxRecDepth 100000
open Go.RowKit

/-- A length's number: the greatest of all for one that is longer than may be. -/
def numF (v : ByteArray) : Nat := if rdE 10 v.data.toList = 2 then 18446744073709551615 else rdN 10 v.data.toList
theorem num_le (v : ByteArray) : numF v ≤ 18446744073709551615 := by
  unfold numF
  split
  · exact Nat.le_refl _
  · have := rdN_le 10 v.data.toList; omega

theorem ls_bad {v : ByteArray} (h : rdE 10 v.data.toList = 10) : lsF v = (0, 0, 32) := by
  unfold lsF; rw [h]; rfl
theorem ls_num {v : ByteArray} (h : rdE 10 v.data.toList ≠ 10) : lsF v = if numF v = 18446744073709551615 then (0, 0, 2) else (1, numF v, 0) := by
  have hle := rdN_le 10 v.data.toList
  rcases rdE_three v.data.toList with e | e | e
  · have hne : ¬ rdN 10 v.data.toList = 18446744073709551615 := by omega
    simp [lsF, numF, e, hne]
  · exact absurd e h
  · simp [lsF, numF, e]
theorem num_ls {a b : ByteArray} (ha : rdE 10 a.data.toList ≠ 10) (hb : rdE 10 b.data.toList ≠ 10) : lsF a = lsF b ↔ numF a = numF b := by
  rw [ls_num ha, ls_num hb]
  constructor
  · intro h
    split at h <;> split at h
    · omega
    · simp at h
    · simp at h
    · exact (Prod.mk.inj (Prod.mk.inj h).2).1
  · intro h; rw [h]

theorem lenA_bad {A : List ByteArray} {y : ByteArray} (hy : y ∈ A) (h : rdE 10 y.data.toList = 10) : lenA A = (0, 0, 32) := by
  cases A with
  | nil => cases hy
  | cons x r =>
    show lensF x r = _
    by_cases hall : ∀ z ∈ r, lsF z = lsF x
    · have hx : lsF x = (0, 0, 32) := by
        rcases List.mem_cons.1 hy with rfl | hr
        · exact ls_bad h
        · rw [← hall y hr]; exact ls_bad h
      rw [lens_yes hall, hx]; rfl
    · have : ∃ z, z ∈ r ∧ lsF z ≠ lsF x := by
        by_cases e : ∃ z, z ∈ r ∧ lsF z ≠ lsF x
        · exact e
        · exact absurd (fun z hz => by
            by_cases g : lsF z = lsF x
            · exact g
            · exact absurd ⟨z, hz, g⟩ e) hall
      obtain ⟨z, hz, hne⟩ := this
      exact lens_no hz hne
theorem lenA_two {A : List ByteArray} {a b : ByteArray} (ha : a ∈ A) (hb : b ∈ A) (h : lsF a ≠ lsF b) : lenA A = (0, 0, 32) := by
  cases A with
  | nil => cases ha
  | cons x r =>
    show lensF x r = _
    by_cases e : lsF a = lsF x
    · rcases List.mem_cons.1 hb with rfl | hr
      · exact absurd e h
      · exact lens_no hr (fun g => h (e.trans g.symm))
    · rcases List.mem_cons.1 ha with rfl | hr
      · exact absurd rfl e
      · exact lens_no hr e
theorem lenA_one {A : List ByteArray} {c : Nat} (h0 : 0 < A.length) (h : ∀ y ∈ A, rdE 10 y.data.toList ≠ 10 ∧ numF y = c) :
    (20000 < c → lenA A = (0, 0, 2)) ∧ (¬ 20000 < c → lenA A = (1, c, 0)) := by
  cases A with
  | nil => simp at h0
  | cons x r =>
    have hx := h x (by simp)
    have hl : lenA (x :: r) = ls2 (lsF x) := lens_yes fun y hy => (num_ls (h y (by simp [hy])).1 hx.1).2 ((h y (by simp [hy])).2.trans hx.2.symm)
    have hv := ls_num hx.1
    rw [hx.2] at hv
    rw [hl, hv]
    refine ⟨fun g => ?_, fun g => ?_⟩
    · split
      · rfl
      · exact ls2_no g
    · rw [if_neg (by omega)]; exact ls2_yes g

/-- What Say tells, where nothing is -1. -/
theorem else_neg {y : Sy} (k : Int) (h : (elseF y (-1)).1 < 0) : elseF y k = (k, 0, 0) ∧ (elseF y (-1)).2.2 = 0 := by
  by_cases e : y = (0, 0, 0)
  · exact ⟨else_no e, by rw [else_no e]⟩
  · rw [else_yes e] at h; exact absurd h (by simp only; omega)
theorem else_pos {y : Sy} (k : Int) (h : ¬ (elseF y (-1)).1 < 0) : elseF y k = elseF y (-1) := by
  by_cases e : y = (0, 0, 0)
  · rw [else_no e] at h; exact absurd (by decide) h
  · rw [else_yes e, else_yes e]

end Go.Proofs.Ytplanlhgcckioaa
