/- What is asked of an origin, by plain reckoning: no condition beside each theorem's own. -/
import Derived.Test.YtojoidhjlbcijaaDoorMw
namespace Go.Proofs.YtojoidhjlbcijaaDoor
set_option linter.unusedVariables false
set_option linter.unusedSimpArgs false
open Go.RowKit

/-- What a device says that it can, behind what others say. -/
def oneS (d : ByteArray) : ByteArray := d ++ ⟨#[61, 34, 69, 83, 73, 47, 49, 46, 48, 34]⟩
def canS (s d : ByteArray) : ByteArray := if (trimS s).toList.isEmpty then oneS d else trimS s ++ ⟨#[44, 32]⟩ ++ oneS d
def canV (L : List Fd) (d : ByteArray) : ByteArray := canS (joinS (allF capS L)) d
/-- With the host set. -/
def upM (L : List Fd) (h : ByteArray) : List Fd := setR (strF L) (hostS, h)
def upE (L : List Fd) (h d : ByteArray) : Nat :=
  if rightF L then (if setE (strF L) (hostS, h) = 0 then (if tokB d then setE (upM L h) (capS, canV (upM L h) d) else 11) else setE (strF L) (hostS, h)) else 1
def upR (L : List Fd) (h d : ByteArray) : List Fd :=
  if rightF L then (if setE (strF L) (hostS, h) = 0 then (if tokB d then setR (upM L h) (capS, canV (upM L h) d) else []) else []) else []

theorem set_three (L : List Fd) (f : Fd) : setE L f = 0 ∨ setE L f = 1 ∧ setR L f = [] ∨ setE L f = 4 ∧ setR L f = [] := by
  cases h : rightF L && mayF f
  · exact Or.inr (Or.inl (set_arg h))
  · by_cases g : (delF f.1 L).length = 40
    · exact Or.inr (Or.inr (set_many h g))
    · exact Or.inl (set_okay h g).1
theorem set_zero {L : List Fd} {f : Fd} (h : setE L f = 0) : rightF L = true ∧ mayF f = true ∧ (delF f.1 L).length ≠ 40 ∧ setR L f = setL f L := by
  cases h1 : rightF L && mayF f
  · rw [(set_arg h1).1] at h; simp at h
  · by_cases g : (delF f.1 L).length = 40
    · rw [(set_many h1 g).1] at h; simp at h
    · simp only [Bool.and_eq_true] at h1
      exact ⟨h1.1, h1.2, g, (set_okay (by simp [h1]) g).2⟩
theorem set_mem {f x : Fd} {L : List Fd} (hx : x ∈ setL f L) : x = f ∨ x ∈ delF f.1 L := by
  cases ha : L.any (nm f.1)
  · rw [(set_miss ha).2] at hx
    rcases List.mem_append.1 hx with hx | hx
    · exact Or.inr hx
    · exact Or.inl (by simpa using hx)
  · obtain ⟨i, -, -, hse⟩ := set_hit ha
    rw [hse, insF] at hx
    rcases List.mem_append.1 hx with hx | hx
    · exact Or.inr (List.mem_of_mem_take hx)
    · rcases List.mem_cons.1 hx with hx | hx
      · exact Or.inl hx
      · exact Or.inr (List.mem_of_mem_drop hx)
theorem del_mem {n : ByteArray} {L : List Fd} {x : Fd} (h : x ∈ delF n L) : x ∈ L ∧ nm n x = false := by
  have := List.mem_filter.1 h
  exact ⟨this.1, by simpa using this.2⟩
theorem set_length (f : Fd) (L : List Fd) : (setL f L).length = (delF f.1 L).length + 1 := by
  have h := all_count f.1 (setL f L)
  rw [(set_facts f L).1, (set_facts f L).2.1] at h
  simp at h; omega
theorem set_right {L : List Fd} {f : Fd} (h : rightF L = true) (g : mayF f = true) (hl : (delF f.1 L).length ≠ 40) : rightF (setL f L) = true := by
  have h1 := set_length f L
  have h2 := del_le f.1 L
  have h3 := right_le h
  unfold rightF at *
  simp only [Bool.and_eq_true, decide_eq_true_eq, List.all_eq_true] at *
  refine ⟨by omega, fun x hx => ?_⟩
  rcases set_mem hx with rfl | hx
  · exact g
  · exact h.2 x (del_mem hx).1

/-- What Up gives where it succeeds. -/
theorem up_zero {L : List Fd} {h d : ByteArray} (hz : upE L h d = 0) : rightF L = true ∧ tokB d = true ∧ mayF (hostS, h) = true ∧ (delF hostS (strF L)).length ≠ 40 ∧ upM L h = setL (hostS, h) (strF L) ∧
    rightF (upM L h) = true ∧ mayF (capS, canV (upM L h) d) = true ∧ (delF capS (upM L h)).length ≠ 40 ∧ upR L h d = setL (capS, canV (upM L h) d) (upM L h) := by
  unfold upE at hz
  cases h1 : rightF L
  · rw [h1] at hz; simp at hz
  · rw [h1, if_pos rfl] at hz
    by_cases h2 : setE (strF L) (hostS, h) = 0
    · rw [if_pos h2] at hz
      cases h3 : tokB d
      · rw [h3] at hz; simp at hz
      · rw [h3, if_pos rfl] at hz
        obtain ⟨a1, a2, a3, a4⟩ := set_zero h2
        obtain ⟨b1, b2, b3, b4⟩ := set_zero hz
        refine ⟨rfl, rfl, a2, a3, a4, b1, b2, b3, ?_⟩
        unfold upR
        rw [h1, if_pos rfl, if_pos h2, h3, if_pos rfl, b4]
    · rw [if_neg h2] at hz; exact absurd hz h2
theorem up_bad {L : List Fd} {h d : ByteArray} (hz : upE L h d ≠ 0) : upR L h d = [] := by
  unfold upE at hz
  unfold upR
  cases h1 : rightF L
  · rfl
  · rw [h1, if_pos rfl] at hz
    rw [if_pos rfl]
    by_cases h2 : setE (strF L) (hostS, h) = 0
    · rw [if_pos h2] at hz ⊢
      cases h3 : tokB d
      · rfl
      · rw [h3, if_pos rfl] at hz
        rw [if_pos rfl]
        rcases set_three (upM L h) (capS, canV (upM L h) d) with g | g | g
        · exact absurd g hz
        · exact g.2
        · exact g.2
    · rw [if_neg h2]
theorem up_no {L : List Fd} (h d : ByteArray) (hz : rightF L = false) : upE L h d = 1 ∧ upR L h d = [] := by
  unfold upE upR; rw [hz]; exact ⟨rfl, rfl⟩
theorem host_cap : sameB hostS capS = false ∧ sameB connS capS = false ∧ sameB connS hostS = false ∧ sameB capS hostS = false := by decide +kernel
theorem fix_two : lowL hostS.data.toList ∉ fixW ∧ lowL capS.data.toList ∉ fixW := by decide +kernel

theorem up_facts {L : List Fd} {h d : ByteArray} (hz : upE L h d = 0) : allF hostS (upR L h d) = [h] ∧ allF capS (upR L h d) = [canV (upM L h) d] ∧ rightF (upR L h d) = true ∧ strF (upR L h d) = upR L h d ∧
    (∀ x ∈ upR L h d, nm hostS x = true → x = (hostS, h)) := by
  obtain ⟨h1, h2, h3, h4, h5, h6, h7, h8, h9⟩ := up_zero hz
  have f1 := set_facts (hostS, h) (strF L)
  have f2 := set_facts (capS, canV (upM L h) d) (upM L h)
  rw [← h5] at f1
  rw [← h9] at f2
  have hR : rightF (upR L h d) = true := by rw [h9]; exact set_right h6 h7 h8
  have hmem : ∀ x ∈ upR L h d, x = (capS, canV (upM L h) d) ∨ x = (hostS, h) ∨ x ∈ strF L ∧ nm hostS x = false := by
    intro x hx
    rw [h9] at hx
    rcases set_mem hx with hx | hx
    · exact Or.inl hx
    · have hx := (del_mem hx).1
      rw [h5] at hx
      rcases set_mem hx with hx | hx
      · exact Or.inr (Or.inl hx)
      · exact Or.inr (Or.inr (del_mem hx))
  refine ⟨(f2.2.2 hostS host_cap.1).trans f1.1, f2.1, hR, ?_, ?_⟩
  · have hn : allF connS (upR L h d) = [] := by rw [f2.2.2 connS host_cap.2.1, f1.2.2 connS host_cap.2.2.1]; exact all_str L
    unfold strF
    rw [wds_none hn]
    refine oth_same hR fun f hf => ?_
    rcases hmem f hf with rfl | rfl | hf
    · exact fix_two.2
    · exact fix_two.1
    · exact oth_not hf.1
  · intro x hx hn
    rcases hmem x hx with rfl | rfl | hf
    · exfalso
      have : nm hostS (capS, canV (upM L h) d) = false := nm_excl (n := capS) (nm_self _) host_cap.1
      rw [this] at hn; simp at hn
    · rfl
    · rw [hf.2] at hn; simp at hn

/-- What is set as it was. -/
theorem setF_same {f : Fd} {L : List Fd} (h1 : (allF f.1 L).length = 1) (h2 : ∀ x ∈ L, nm f.1 x = true → x = f) : setL f L = L := by
  have ha : L.any (nm f.1) = true := by
    cases h : L.any (nm f.1)
    · exfalso
      rw [all_none (fun x hx => by have := (List.any_eq_false.1 h) x hx; simpa using this)] at h1
      simp at h1
    · rfl
  obtain ⟨P, x, S, rfl, hp, hx, hi⟩ := first_parts ha
  obtain rfl : x = f := h2 x (by simp) hx
  have hS : ∀ y ∈ S, nm x.1 y = false := by
    intro y hy
    cases hn : nm x.1 y
    · rfl
    · exfalso
      rw [all_append, all_none hp, List.nil_append] at h1
      unfold allF at h1
      rw [List.filter_cons, if_pos hx] at h1
      simp at h1
      exact absurd hn (by rw [h1 y.1 y.2 hy]; decide)
  have e1 : setS x ([] ++ P, false) x = (P ++ [x], true) := by unfold setS; rw [if_pos hx]; simp
  unfold setL setP
  rw [List.foldl_append, fold_none hp, List.foldl_cons, e1, fold_done, del_none hS]
  simp

theorem one_size (d : ByteArray) : (oneS d).size = d.size + 10 := by unfold oneS; rw [ByteArray.size_append]; rfl
theorem can_size (s d : ByteArray) : (canS s d).size ≤ s.size + d.size + 12 ∧ d.size + 10 ≤ (canS s d).size := by
  have h := trimS_size s
  have h1 := one_size d
  unfold canS
  split
  · omega
  · rw [ByteArray.size_append, ByteArray.size_append, h1]
    have : (⟨#[44, 32]⟩ : ByteArray).size = 2 := rfl
    omega
theorem can_end (s d : ByteArray) : ∃ p : List UInt8, (canS s d).data.toList = p ++ (oneS d).data.toList := by
  unfold canS
  split
  · exact ⟨[], rfl⟩
  · exact ⟨_, app_list _ _⟩
theorem bytes_of_toList {a b : ByteArray} (h : (a.toList == b.toList) = true) : a = b := by
  apply bytes_ext
  rw [← ByteArray.toList_eq, ← ByteArray.toList_eq]
  exact beq_iff_eq.1 h
theorem may_trim {f : Fd} (h : mayF f = true) : trimS f.2 = f.2 := by
  unfold mayF valB trimB at h
  simp only [Bool.and_eq_true, decide_eq_true_eq] at h
  exact bytes_of_toList h.2.1.2
theorem can_more {v d : ByteArray} (h : trimS v = v) (h0 : 0 < v.size) : canS v d = v ++ ⟨#[44, 32]⟩ ++ oneS d := by
  unfold canS
  rw [h, if_neg]
  rw [ByteArray.toList_eq]
  intro e
  have := List.isEmpty_iff.1 e
  rw [← size_list, this] at h0
  simp at h0

/-- What goes through two devices. -/
theorem up_twice {L : List Fd} {h d : ByteArray} (d2 : ByteArray) (hz : upE L h d = 0) (ht : tokB d2 = true) :
    (upE (upR L h d) h d2 = 0 ∨ upE (upR L h d) h d2 = 1) ∧
    (upE (upR L h d) h d2 = 0 → allF capS (upR (upR L h d) h d2) = [canV (upM L h) d ++ ⟨#[44, 32]⟩ ++ oneS d2] ∧ delF capS (upR (upR L h d) h d2) = delF capS (upR L h d)) := by
  obtain ⟨f1, f2, f3, f4, f5⟩ := up_facts hz
  obtain ⟨h1, h2, h3, h4, h5, h6, h7, h8, h9⟩ := up_zero hz
  generalize upR L h d = R at f1 f2 f3 f4 f5 ⊢
  have hR40 := right_le f3
  have hc1 := all_count hostS R
  rw [f1] at hc1
  have hc2 := all_count capS R
  rw [f2] at hc2
  simp only [List.length_cons, List.length_nil] at hc1 hc2
  have hs : setL (hostS, h) R = R := setF_same (f := (hostS, h)) (by rw [f1]; rfl) f5
  have hE := set_okay (L := R) (f := (hostS, h)) (by rw [f3, h3]; rfl) (by show (delF hostS R).length ≠ 40; omega)
  have hv : canV R d2 = canV (upM L h) d ++ ⟨#[44, 32]⟩ ++ oneS d2 := by
    conv => lhs; unfold canV
    rw [f2, joinS_one]
    refine can_more (may_trim h7) ?_
    have := (can_size (joinS (allF capS (upM L h))) d).2
    unfold canV
    omega
  have hM : upM R h = R := by unfold upM; rw [f4, hE.2, hs]
  have hU : upE R h d2 = setE R (capS, canV R d2) := by
    unfold upE
    rw [f3, if_pos rfl, f4, if_pos hE.1, ht, if_pos rfl, hM]
  have hUR : upR R h d2 = setR R (capS, canV R d2) := by
    unfold upR
    rw [f3, if_pos rfl, f4, if_pos hE.1, ht, if_pos rfl, hM]
  rw [hU, hUR]
  refine ⟨?_, fun g => ?_⟩
  · rcases set_three R (capS, canV R d2) with g | g | g
    · exact Or.inl g
    · exact Or.inr g.1
    · exfalso
      cases hq : rightF R && mayF (capS, canV R d2)
      · rw [(set_arg hq).1] at g; simp at g
      · rw [(set_okay hq (by show (delF capS R).length ≠ 40; omega)).1] at g; simp at g
  · obtain ⟨-, -, -, g4⟩ := set_zero g
    rw [g4]
    have hf := set_facts (capS, canV R d2) R
    exact ⟨by rw [hf.1, hv], hf.2.1⟩

end Go.Proofs.YtojoidhjlbcijaaDoor
