/- What is set in a row is there once, and all others stay: no condition beside each theorem's own. -/
import Derived.Test.YtojoidhjlbcijaaDoorWv
namespace Go.Proofs.YtojoidhjlbcijaaDoor
set_option linter.unusedVariables false
set_option linter.unusedSimpArgs false
open Go.RowKit

theorem nm_self (f : Fd) : nm f.1 f = true := by unfold nm sameB; simp
theorem nm_excl {n o : ByteArray} {x : Fd} (h : nm n x = true) (g : sameB o n = false) : nm o x = false := by
  unfold nm sameB at *
  rw [beq_iff_eq] at h
  rw [beq_eq_false_iff_ne] at g ⊢
  rw [h]
  exact fun e => g e.symm
theorem all_append (n : ByteArray) (P S : List Fd) : allF n (P ++ S) = allF n P ++ allF n S := by simp [allF]
theorem all_none {n : ByteArray} {P : List Fd} (h : ∀ x ∈ P, nm n x = false) : allF n P = [] := by
  unfold allF
  rw [List.filter_eq_nil_iff.2 (fun x hx => by rw [h x hx]; decide)]; rfl
theorem all_del (n : ByteArray) (L : List Fd) : allF n (delF n L) = [] := all_none fun x hx => by
  have := (List.mem_filter.1 hx).2
  simpa using this
theorem all_del_other {n o : ByteArray} (g : sameB o n = false) (L : List Fd) : allF o (delF n L) = allF o L := by
  unfold allF delF
  rw [List.filter_filter]
  congr 1
  apply List.filter_congr
  intro x _
  cases h : nm n x
  · simp
  · rw [nm_excl h g]; rfl
theorem del_del (n : ByteArray) (L : List Fd) : delF n (delF n L) = delF n L := by
  unfold delF; rw [List.filter_filter]; simp

/-- What is set is there once, and all others stay. -/
theorem set_facts (f : Fd) (L : List Fd) : allF f.1 (setL f L) = [f.2] ∧ delF f.1 (setL f L) = delF f.1 L ∧ ∀ o, sameB o f.1 = false → allF o (setL f L) = allF o L := by
  have hf := nm_self f
  have hone : allF f.1 [f] = [f.2] := by simp [allF, hf]
  have hdel : delF f.1 [f] = [] := by simp [delF, hf]
  have hoth : ∀ o, sameB o f.1 = false → allF o [f] = [] := fun o g => all_none fun x hx => by
    obtain rfl : x = f := by simpa using hx
    exact nm_excl hf g
  cases h : L.any (nm f.1)
  · have hse := (set_miss h).2
    have hp : ∀ x ∈ L, nm f.1 x = false := fun x hx => by
      have := (List.any_eq_false.1 h) x hx
      simpa using this
    rw [hse, del_none hp]
    refine ⟨by rw [all_append, all_none hp, hone]; rfl, by rw [del_append, del_none hp, hdel, List.append_nil], fun o g => by rw [all_append, hoth o g, List.append_nil]⟩
  · obtain ⟨P, x, S, rfl, hp, hx, hi⟩ := first_parts h
    have hA : setL f (P ++ x :: S) = P ++ ([f] ++ delF f.1 S) := by
      have h1 : setS f ([] ++ P, false) x = (P ++ [f], true) := by unfold setS; rw [if_pos hx]; simp
      unfold setL setP
      rw [List.foldl_append, fold_none hp, List.foldl_cons, h1, fold_done]
      simp
    have hd : delF f.1 (P ++ x :: S) = P ++ delF f.1 S := by
      rw [del_append, del_none hp]; simp [delF, hx]
    rw [hA, hd]
    refine ⟨by rw [all_append, all_append, all_none hp, hone, all_del]; rfl, by rw [del_append, del_append, del_none hp, hdel, del_del]; rfl, fun o g => ?_⟩
    have hox : nm o x = false := nm_excl hx g
    rw [all_append, all_append, hoth o g, all_del_other g, all_append]
    simp [allF, hox]
theorem set_short {f : Fd} {L : List Fd} (h : Sh L) (h1 : f.1.size ≤ 100000) (h2 : f.2.size ≤ 100000) : Sh (setL f L) := by
  have hf : ∀ x ∈ setL f L, x = f ∨ x ∈ L := by
    intro x hx
    cases ha : L.any (nm f.1)
    · rw [(set_miss ha).2] at hx
      rcases List.mem_append.1 hx with hx | hx
      · exact Or.inr (List.mem_filter.1 hx).1
      · exact Or.inl (by simpa using hx)
    · obtain ⟨i, -, -, hse⟩ := set_hit ha
      rw [hse, insF] at hx
      rcases List.mem_append.1 hx with hx | hx
      · exact Or.inr (List.mem_filter.1 (List.mem_of_mem_take hx)).1
      · rcases List.mem_cons.1 hx with hx | hx
        · exact Or.inl hx
        · exact Or.inr (List.mem_filter.1 (List.mem_of_mem_drop hx)).1
  intro x hx
  rcases hf x hx with rfl | hx
  · exact ⟨h1, h2⟩
  · exact h x hx
theorem setL_le (f : Fd) (L : List Fd) : (setL f L).length ≤ L.length + 1 := by
  have := setP_le f L
  unfold setL
  split
  · omega
  · simp; omega
theorem all_count (n : ByteArray) (L : List Fd) : (allF n L).length + (delF n L).length = L.length := by
  induction L with
  | nil => rfl
  | cons f L ih =>
    unfold allF delF at *
    cases h : nm n f
    · simp [h] at ih ⊢; omega
    · simp [h] at ih ⊢; omega
theorem right_le {N : List Fd} (h : rightF N = true) : N.length ≤ 40 := by
  unfold rightF at h
  simp only [Bool.and_eq_true, decide_eq_true_eq] at h
  exact h.1

end Go.Proofs.YtojoidhjlbcijaaDoor
