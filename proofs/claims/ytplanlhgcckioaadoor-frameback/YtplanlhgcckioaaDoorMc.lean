/- Paths that are cleaned, as lists of bytes, by plain reckoning: nothing of the program in it, and no condition beside each theorem's own. -/
import Derived.Test.YtplanlhgcckioaaDoorMa
namespace Go.Proofs.YtplanlhgcckioaaDoor
set_option linter.unusedVariables false
set_option linter.unusedSimpArgs false

def notS (c : UInt8) : Bool := c != 47

def pre (p l : List UInt8) : Bool := p.isPrefixOf l

/-- The output without its last step. -/
def backL (o : List UInt8) : List UInt8 := o.take (lastN notS o - 1)
/-- How long the first step is. -/
def segN (l : List UInt8) : Nat := 1 + ((l.drop 1).takeWhile notS).length

def cStep (o l : List UInt8) : List UInt8 × List UInt8 :=
  if l = [46] ∨ l = [46, 46] then (o, [])
  else if pre [46, 47] l = true ∨ pre [47, 46, 47] l = true then (o, l.drop 2)
  else if pre [46, 46, 47] l = true then (o, l.drop 3)
  else if l = [47, 46] then (o, [47])
  else if pre [47, 46, 46, 47] l = true then (backL o, l.drop 3)
  else if l = [47, 46, 46] then (backL o, [47])
  else (o ++ l.take (segN l), l.drop (segN l))

theorem segN_pos (l : List UInt8) : 1 ≤ segN l := by unfold segN; omega
theorem segN_le {l : List UInt8} (h : l ≠ []) : segN l ≤ l.length := by
  unfold segN
  have := takeWhile_le notS (l.drop 1)
  rw [List.length_drop] at this
  have := List.length_pos_iff.2 h
  omega

theorem cStep_lt {o l : List UInt8} (h : l ≠ []) : (cStep o l).2.length < l.length := by
  have h0 := List.length_pos_iff.2 h
  have h1 := segN_pos l
  unfold cStep
  repeat' split
  all_goals simp_all
  all_goals omega

def cleanF : Nat → List UInt8 → List UInt8 → List UInt8
  | 0, o, _ => o
  | k + 1, o, l => if l = [] then o else cleanF k (cStep o l).1 (cStep o l).2

theorem cleanF_same : ∀ (k m : Nat) (o l : List UInt8), l.length ≤ k → l.length ≤ m → cleanF k o l = cleanF m o l
  | 0, 0, o, l, _, _ => rfl
  | 0, m + 1, o, l, h, _ => by
    obtain rfl : l = [] := List.length_eq_zero_iff.1 (by omega)
    rw [cleanF, cleanF, if_pos rfl]
  | k + 1, 0, o, l, _, h => by
    obtain rfl : l = [] := List.length_eq_zero_iff.1 (by omega)
    rw [cleanF, cleanF, if_pos rfl]
  | k + 1, m + 1, o, l, h1, h2 => by
    rw [cleanF, cleanF]
    by_cases h : l = []
    · rw [if_pos h, if_pos h]
    · have := cStep_lt (o := o) h
      rw [if_neg h, if_neg h, cleanF_same k m _ _ (by omega) (by omega)]

/-- What cleaning comes to, behind an output. -/
def cln (o l : List UInt8) : List UInt8 := cleanF l.length o l
def cleanL (l : List UInt8) : List UInt8 := cln [] l

theorem cln_nil (o : List UInt8) : cln o [] = o := rfl
theorem cln_step {o l : List UInt8} (h : l ≠ []) : cln o l = cln (cStep o l).1 (cStep o l).2 := by
  have hl := cStep_lt (o := o) h
  unfold cln
  obtain ⟨k, hk⟩ : ∃ k, l.length = k + 1 := ⟨l.length - 1, by have := List.length_pos_iff.2 h; omega⟩
  rw [hk, cleanF, if_neg h]
  exact cleanF_same _ _ _ _ (by omega) (Nat.le_refl _)

/- The steps of a path that begins with a slash -/

theorem tw_seg {s r : List UInt8} (h : ∀ c ∈ s, notS c = true) (hr : r = [] ∨ r.head? = some 47) : (s ++ r).takeWhile notS = s := by
  induction s with
  | nil =>
    rcases hr with rfl | hr
    · rfl
    · cases r with
      | nil => rfl
      | cons x r => obtain rfl : x = 47 := by simpa using hr
                    rfl
  | cons x s ih =>
    rw [List.cons_append, List.takeWhile_cons, if_pos (h x (by simp)), ih (fun c hc => h c (by simp [hc]))]

theorem segN_seg {s r : List UInt8} (h : ∀ c ∈ s, notS c = true) (hr : r = [] ∨ r.head? = some 47) : segN (47 :: (s ++ r)) = s.length + 1 := by
  unfold segN
  rw [List.drop_one, List.tail_cons, tw_seg h hr]
  omega

theorem head_cases {r : List UInt8} (hr : r = [] ∨ r.head? = some 47) : r = [] ∨ ∃ t, r = 47 :: t := by
  rcases hr with h | h
  · exact Or.inl h
  · cases r with
    | nil => exact Or.inl rfl
    | cons x t => obtain rfl : x = 47 := by simpa using h
                  exact Or.inr ⟨t, rfl⟩

theorem notS_ne {c : UInt8} (h : notS c = true) : c ≠ 47 := by simpa [notS] using h

/-- What one step does where the path begins with a slash, a step s and the rest r. -/
theorem cStep_seg (o : List UInt8) {s r : List UInt8} (h : ∀ c ∈ s, notS c = true) (hr : r = [] ∨ r.head? = some 47) :
    cStep o (47 :: (s ++ r)) = if s = [46] then (o, if r = [] then [47] else r) else if s = [46, 46] then (backL o, if r = [] then [47] else r) else (o ++ 47 :: s, r) := by
  have hN := segN_seg h hr
  have hd : (47 :: (s ++ r)).drop (s.length + 1) = r := by simp
  have ht : (47 :: (s ++ r)).take (s.length + 1) = 47 :: s := by simp
  unfold cStep
  rw [hN, hd, ht]
  match s, h with
  | [], _ => rcases head_cases hr with rfl | ⟨t, rfl⟩ <;> simp [pre, List.isPrefixOf]
  | [a], h =>
    have ha := notS_ne (h a (by simp))
    by_cases e : a = 46
    · subst e
      rcases head_cases hr with rfl | ⟨t, rfl⟩ <;> simp [pre, List.isPrefixOf]
    · rcases head_cases hr with rfl | ⟨t, rfl⟩ <;> simp [pre, List.isPrefixOf, e, ha, Ne.symm e, Ne.symm ha]
  | [a, b], h =>
    have ha := notS_ne (h a (by simp))
    have hb := notS_ne (h b (by simp))
    by_cases e : a = 46
    · subst e
      by_cases f : b = 46
      · subst f
        rcases head_cases hr with rfl | ⟨t, rfl⟩ <;> simp [pre, List.isPrefixOf]
      · rcases head_cases hr with rfl | ⟨t, rfl⟩ <;> simp [pre, List.isPrefixOf, f, hb, Ne.symm f, Ne.symm hb]
    · rcases head_cases hr with rfl | ⟨t, rfl⟩ <;> simp [pre, List.isPrefixOf, e, ha, Ne.symm e, Ne.symm ha, hb, Ne.symm hb]
  | a :: b :: c :: s, h =>
    have ha := notS_ne (h a (by simp))
    have hb := notS_ne (h b (by simp))
    have hc := notS_ne (h c (by simp))
    simp [pre, List.isPrefixOf, ha, hb, hc, Ne.symm ha, Ne.symm hb, Ne.symm hc]

/-- A path that begins with a slash is its first step and the rest. -/
theorem seg_of (r : List UInt8) : ∃ s t, r = s ++ t ∧ (∀ c ∈ s, notS c = true) ∧ (t = [] ∨ t.head? = some 47) := by
  refine ⟨r.takeWhile notS, r.dropWhile notS, (List.takeWhile_append_dropWhile).symm, fun c hc => ?_, ?_⟩
  · exact List.all_eq_true.1 List.all_takeWhile c hc
  · cases h : r.dropWhile notS with
    | nil => exact Or.inl rfl
    | cons x t =>
      right
      have := dropWhile_head notS r x (by rw [h]; rfl)
      obtain rfl : x = 47 := by simpa [notS] using this
      rfl

/-- A row of steps as a path. -/
def pathOf (segs : List (List UInt8)) : List UInt8 := segs.flatMap fun s => 47 :: s
/-- A step that is neither here nor back. -/
def okSeg (s : List UInt8) : Prop := (∀ c ∈ s, notS c = true) ∧ s ≠ [46] ∧ s ≠ [46, 46]
def Good (l : List UInt8) : Prop := ∃ segs, l = pathOf segs ∧ ∀ s ∈ segs, okSeg s

theorem pathOf_head (segs : List (List UInt8)) : pathOf segs = [] ∨ (pathOf segs).head? = some 47 := by
  cases segs with
  | nil => exact Or.inl rfl
  | cons s r => right; simp [pathOf]
theorem pathOf_cons (s : List UInt8) (r : List (List UInt8)) : pathOf (s :: r) = 47 :: (s ++ pathOf r) := by simp [pathOf]
theorem pathOf_snoc (r : List (List UInt8)) (s : List UInt8) : pathOf (r ++ [s]) = pathOf r ++ 47 :: s := by simp [pathOf]

theorem lastN_slash (o s : List UInt8) (h : ∀ c ∈ s, notS c = true) : lastN notS (o ++ 47 :: s) = o.length + 1 := by
  refine lastN_at (k := o.length) (by simp) ?_ ?_
  · intro c hc
    apply h
    rw [List.drop_append, List.drop_of_length_le (by omega)] at hc
    simpa using hc
  · simp [notS]

theorem good_back {o : List UInt8} (h : Good o) : Good (backL o) := by
  obtain ⟨segs, rfl, hs⟩ := h
  rcases List.eq_nil_or_concat segs with rfl | ⟨r, s, rfl⟩
  · exact ⟨[], by simp [backL, pathOf], by simp⟩
  · refine ⟨r, ?_, fun x hx => hs x (by simp [hx])⟩
    rw [List.concat_eq_append, pathOf_snoc, backL, lastN_slash _ _ (hs s (by simp)).1]
    simp

theorem good_cln : ∀ (n : Nat) (o l : List UInt8), l.length ≤ n → (l = [] ∨ l.head? = some 47) → Good o → Good (cln o l)
  | 0, o, l, hn, _, ho => by
    obtain rfl : l = [] := List.length_eq_zero_iff.1 (by omega)
    exact ho
  | n + 1, o, l, hn, hl, ho => by
    rcases head_cases hl with rfl | ⟨r, rfl⟩
    · exact ho
    · obtain ⟨s, t, rfl, hs, ht⟩ := seg_of r
      have hlt := cStep_lt (o := o) (l := 47 :: (s ++ t)) (by simp)
      rw [cln_step (by simp)]
      rw [cStep_seg o hs ht] at hlt ⊢
      have hr : (if t = [] then [47] else t) = [] ∨ (if t = [] then [47] else t).head? = some 47 := by
        right
        rcases head_cases ht with rfl | ⟨x, rfl⟩ <;> simp
      by_cases e : s = [46]
      · rw [if_pos e] at hlt ⊢
        exact good_cln n _ _ (by simp only at hlt ⊢; omega) hr ho
      · rw [if_neg e] at hlt ⊢
        by_cases f : s = [46, 46]
        · rw [if_pos f] at hlt ⊢
          exact good_cln n _ _ (by simp only at hlt ⊢; omega) hr (good_back ho)
        · rw [if_neg f] at hlt ⊢
          refine good_cln n _ _ (by simp only at hlt ⊢; omega) ht ?_
          obtain ⟨segs, rfl, hg⟩ := ho
          refine ⟨segs ++ [s], (pathOf_snoc _ _).symm, fun x hx => ?_⟩
          rcases List.mem_append.1 hx with hx | hx
          · exact hg x hx
          · obtain rfl : x = s := by simpa using hx
            exact ⟨hs, e, f⟩

theorem cln_ne : ∀ (n : Nat) (o l : List UInt8), l.length ≤ n → l.head? = some 47 → cln o l ≠ []
  | 0, o, l, hn, h => by
    obtain rfl : l = [] := List.length_eq_zero_iff.1 (by omega)
    simp at h
  | n + 1, o, l, hn, h => by
    rcases head_cases (Or.inr h) with rfl | ⟨r, rfl⟩
    · simp at h
    · obtain ⟨s, t, rfl, hs, ht⟩ := seg_of r
      have hlt := cStep_lt (o := o) (l := 47 :: (s ++ t)) (by simp)
      rw [cln_step (by simp)]
      rw [cStep_seg o hs ht] at hlt ⊢
      have hr : (if t = [] then [47] else t).head? = some 47 := by
        rcases head_cases ht with rfl | ⟨x, rfl⟩ <;> simp
      by_cases e : s = [46]
      · rw [if_pos e] at hlt ⊢
        exact cln_ne n _ _ (by simp only at hlt ⊢; omega) hr
      · rw [if_neg e] at hlt ⊢
        by_cases f : s = [46, 46]
        · rw [if_pos f] at hlt ⊢
          exact cln_ne n _ _ (by simp only at hlt ⊢; omega) hr
        · rw [if_neg f] at hlt ⊢
          rcases ht with rfl | ht
          · rw [cln_nil]; simp
          · exact cln_ne n _ _ (by simp only at hlt ⊢; omega) ht

theorem cln_good : ∀ (segs : List (List UInt8)) (o : List UInt8), (∀ s ∈ segs, okSeg s) → cln o (pathOf segs) = o ++ pathOf segs
  | [], o, _ => by simp [pathOf, cln_nil]
  | s :: r, o, h => by
    obtain ⟨hs, e, f⟩ := h s (by simp)
    rw [pathOf_cons, cln_step (by simp), cStep_seg o hs (pathOf_head r), if_neg e, if_neg f]
    simp only
    rw [cln_good r _ (fun x hx => h x (by simp [hx]))]
    simp

theorem clean_good {l : List UInt8} (h : l.head? = some 47) : Good (cleanL l) := good_cln l.length [] l (Nat.le_refl _) (Or.inr h) ⟨[], rfl, by simp⟩
theorem clean_twice {l : List UInt8} (h : l.head? = some 47) : cleanL (cleanL l) = cleanL l := by
  obtain ⟨segs, e, hs⟩ := clean_good h
  rw [e]
  exact (cln_good segs [] hs).trans (by simp)
theorem clean_head {l : List UInt8} (h : l.head? = some 47) : (cleanL l).head? = some 47 := by
  obtain ⟨segs, e, hs⟩ := clean_good h
  have hn := cln_ne l.length [] l (Nat.le_refl _) h
  rw [show cln [] l = cleanL l from rfl, e] at hn
  rw [e]
  rcases pathOf_head segs with h | h
  · exact absurd h hn
  · exact h

/- Lengths and bytes -/

theorem cStep_len (o l : List UInt8) : (cStep o l).1.length + (cStep o l).2.length ≤ o.length + l.length := by
  have hb : (backL o).length ≤ o.length := by unfold backL; rw [List.length_take]; omega
  unfold cStep
  repeat' split
  all_goals simp_all
  all_goals omega

theorem cln_len : ∀ (n : Nat) (o l : List UInt8), l.length ≤ n → (cln o l).length ≤ o.length + l.length
  | 0, o, l, hn => by
    obtain rfl : l = [] := List.length_eq_zero_iff.1 (by omega)
    simp [cln_nil]
  | n + 1, o, l, hn => by
    by_cases h : l = []
    · subst h; simp [cln_nil]
    · have h1 := cStep_lt (o := o) h
      have h2 := cStep_len o l
      rw [cln_step h]
      have := cln_len n (cStep o l).1 (cStep o l).2 (by omega)
      omega
theorem clean_len (l : List UInt8) : (cleanL l).length ≤ l.length := by
  have := cln_len l.length [] l (Nat.le_refl _)
  simpa [cleanL] using this

theorem cStep_all {p : UInt8 → Prop} (h47 : p 47) {o l : List UInt8} (ho : ∀ c ∈ o, p c) (hl : ∀ c ∈ l, p c) : (∀ c ∈ (cStep o l).1, p c) ∧ ∀ c ∈ (cStep o l).2, p c := by
  have hb : ∀ c ∈ backL o, p c := fun c hc => ho c (List.mem_of_mem_take hc)
  have hd : ∀ k, ∀ c ∈ l.drop k, p c := fun k c hc => hl c (List.mem_of_mem_drop hc)
  have ht : ∀ k, ∀ c ∈ l.take k, p c := fun k c hc => hl c (List.mem_of_mem_take hc)
  have h1 : ∀ c ∈ [(47 : UInt8)], p c := by
    intro c hc
    rw [List.mem_singleton] at hc
    rw [hc]; exact h47
  unfold cStep
  repeat' split
  · exact ⟨ho, by simp⟩
  · exact ⟨ho, hd 2⟩
  · exact ⟨ho, hd 3⟩
  · exact ⟨ho, h1⟩
  · exact ⟨hb, hd 3⟩
  · exact ⟨hb, h1⟩
  · refine ⟨fun c hc => ?_, hd _⟩
    rcases List.mem_append.1 hc with hc | hc
    · exact ho c hc
    · exact ht _ c hc

theorem cln_all {p : UInt8 → Prop} (h47 : p 47) : ∀ (n : Nat) (o l : List UInt8), l.length ≤ n → (∀ c ∈ o, p c) → (∀ c ∈ l, p c) → ∀ c ∈ cln o l, p c
  | 0, o, l, hn, ho, _ => by
    obtain rfl : l = [] := List.length_eq_zero_iff.1 (by omega)
    exact ho
  | n + 1, o, l, hn, ho, hl => by
    by_cases h : l = []
    · subst h; exact ho
    · have h1 := cStep_lt (o := o) h
      obtain ⟨h2, h3⟩ := cStep_all h47 ho hl
      rw [cln_step h]
      exact cln_all h47 n _ _ (by omega) h2 h3
theorem clean_all {p : UInt8 → Prop} (h47 : p 47) {l : List UInt8} (hl : ∀ c ∈ l, p c) : ∀ c ∈ cleanL l, p c :=
  cln_all h47 l.length [] l (Nat.le_refl _) (by simp) hl

end Go.Proofs.YtplanlhgcckioaaDoor
