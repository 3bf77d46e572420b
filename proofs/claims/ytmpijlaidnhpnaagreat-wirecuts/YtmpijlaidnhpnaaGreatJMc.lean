/- Paths that are cleaned, as lists of bytes, by plain reckoning: nothing of the program in it, and no condition beside each theorem's own. Where a byte stands first and last, and what a text begins with: the document's own answers and the library's. -/
import Derived.Test.YtmpijlaidnhpnaaGreatJMa
import Derived.Test.YtmpijlaidnhpnaaGreatJWd
import Derived.Test.YtmpijlaidnhpnaaGreatJShelf
namespace Go.Proofs.YtmpijlaidnhpnaaGreat
set_option linter.unusedVariables false
set_option linter.unusedSimpArgs false

def notS (c : UInt8) : Bool := c != 47

def pre (p l : List UInt8) : Bool := p.isPrefixOf l

/-- The output without its last step. -/
def backL (o : List UInt8) : List UInt8 := o.take (lastN notS o - 1)
/-- How long the first step is. -/
def segN (l : List UInt8) : Nat := 1 + ((l.drop 1).takeWhile notS).length

def cStep (o l : List UInt8) : List UInt8 × List UInt8 :=
  if l = [46] ∨ l = [46, 46] then (o, [])
  else if pre [46, 47] l = true ∨ pre [47, 46, 47] l = true then (o, l.drop 2)
  else if pre [46, 46, 47] l = true then (o, l.drop 3)
  else if l = [47, 46] then (o, [47])
  else if pre [47, 46, 46, 47] l = true then (backL o, l.drop 3)
  else if l = [47, 46, 46] then (backL o, [47])
  else (o ++ l.take (segN l), l.drop (segN l))

theorem segN_pos (l : List UInt8) : 1 ≤ segN l := by unfold segN; omega
theorem segN_le {l : List UInt8} (h : l ≠ []) : segN l ≤ l.length := by
  unfold segN
  have := takeWhile_le notS (l.drop 1)
  rw [List.length_drop] at this
  have := List.length_pos_iff.2 h
  omega

theorem cStep_lt {o l : List UInt8} (h : l ≠ []) : (cStep o l).2.length < l.length := by
  have h0 := List.length_pos_iff.2 h
  have h1 := segN_pos l
  unfold cStep
  repeat' split
  all_goals simp_all
  all_goals omega

def cleanF : Nat → List UInt8 → List UInt8 → List UInt8
  | 0, o, _ => o
  | k + 1, o, l => if l = [] then o else cleanF k (cStep o l).1 (cStep o l).2

theorem cleanF_same : ∀ (k m : Nat) (o l : List UInt8), l.length ≤ k → l.length ≤ m → cleanF k o l = cleanF m o l
  | 0, 0, o, l, _, _ => rfl
  | 0, m + 1, o, l, h, _ => by
    obtain rfl : l = [] := List.length_eq_zero_iff.1 (by omega)
    rw [cleanF, cleanF, if_pos rfl]
  | k + 1, 0, o, l, _, h => by
    obtain rfl : l = [] := List.length_eq_zero_iff.1 (by omega)
    rw [cleanF, cleanF, if_pos rfl]
  | k + 1, m + 1, o, l, h1, h2 => by
    rw [cleanF, cleanF]
    by_cases h : l = []
    · rw [if_pos h, if_pos h]
    · have := cStep_lt (o := o) h
      rw [if_neg h, if_neg h, cleanF_same k m _ _ (by omega) (by omega)]

/-- What cleaning comes to, behind an output. -/
def cln (o l : List UInt8) : List UInt8 := cleanF l.length o l
def cleanL (l : List UInt8) : List UInt8 := cln [] l

theorem cln_nil (o : List UInt8) : cln o [] = o := rfl
theorem cln_step {o l : List UInt8} (h : l ≠ []) : cln o l = cln (cStep o l).1 (cStep o l).2 := by
  have hl := cStep_lt (o := o) h
  unfold cln
  obtain ⟨k, hk⟩ : ∃ k, l.length = k + 1 := ⟨l.length - 1, by have := List.length_pos_iff.2 h; omega⟩
  rw [hk, cleanF, if_neg h]
  exact cleanF_same _ _ _ _ (by omega) (Nat.le_refl _)

/- The steps of a path that begins with a slash -/

theorem tw_seg {s r : List UInt8} (h : ∀ c ∈ s, notS c = true) (hr : r = [] ∨ r.head? = some 47) : (s ++ r).takeWhile notS = s := by
  induction s with
  | nil =>
    rcases hr with rfl | hr
    · rfl
    · cases r with
      | nil => rfl
      | cons x r => obtain rfl : x = 47 := by simpa using hr
                    rfl
  | cons x s ih =>
    rw [List.cons_append, List.takeWhile_cons, if_pos (h x (by simp)), ih (fun c hc => h c (by simp [hc]))]

theorem segN_seg {s r : List UInt8} (h : ∀ c ∈ s, notS c = true) (hr : r = [] ∨ r.head? = some 47) : segN (47 :: (s ++ r)) = s.length + 1 := by
  unfold segN
  rw [List.drop_one, List.tail_cons, tw_seg h hr]
  omega

theorem head_cases {r : List UInt8} (hr : r = [] ∨ r.head? = some 47) : r = [] ∨ ∃ t, r = 47 :: t := by
  rcases hr with h | h
  · exact Or.inl h
  · cases r with
    | nil => exact Or.inl rfl
    | cons x t => obtain rfl : x = 47 := by simpa using h
                  exact Or.inr ⟨t, rfl⟩

theorem notS_ne {c : UInt8} (h : notS c = true) : c ≠ 47 := by simpa [notS] using h

/-- What one step does where the path begins with a slash, a step s and the rest r. -/
theorem cStep_seg (o : List UInt8) {s r : List UInt8} (h : ∀ c ∈ s, notS c = true) (hr : r = [] ∨ r.head? = some 47) :
    cStep o (47 :: (s ++ r)) = if s = [46] then (o, if r = [] then [47] else r) else if s = [46, 46] then (backL o, if r = [] then [47] else r) else (o ++ 47 :: s, r) := by
  have hN := segN_seg h hr
  have hd : (47 :: (s ++ r)).drop (s.length + 1) = r := by simp
  have ht : (47 :: (s ++ r)).take (s.length + 1) = 47 :: s := by simp
  unfold cStep
  rw [hN, hd, ht]
  match s, h with
  | [], _ => rcases head_cases hr with rfl | ⟨t, rfl⟩ <;> simp [pre, List.isPrefixOf]
  | [a], h =>
    have ha := notS_ne (h a (by simp))
    by_cases e : a = 46
    · subst e
      rcases head_cases hr with rfl | ⟨t, rfl⟩ <;> simp [pre, List.isPrefixOf]
    · rcases head_cases hr with rfl | ⟨t, rfl⟩ <;> simp [pre, List.isPrefixOf, e, ha, Ne.symm e, Ne.symm ha]
  | [a, b], h =>
    have ha := notS_ne (h a (by simp))
    have hb := notS_ne (h b (by simp))
    by_cases e : a = 46
    · subst e
      by_cases f : b = 46
      · subst f
        rcases head_cases hr with rfl | ⟨t, rfl⟩ <;> simp [pre, List.isPrefixOf]
      · rcases head_cases hr with rfl | ⟨t, rfl⟩ <;> simp [pre, List.isPrefixOf, f, hb, Ne.symm f, Ne.symm hb]
    · rcases head_cases hr with rfl | ⟨t, rfl⟩ <;> simp [pre, List.isPrefixOf, e, ha, Ne.symm e, Ne.symm ha, hb, Ne.symm hb]
  | a :: b :: c :: s, h =>
    have ha := notS_ne (h a (by simp))
    have hb := notS_ne (h b (by simp))
    have hc := notS_ne (h c (by simp))
    simp [pre, List.isPrefixOf, ha, hb, hc, Ne.symm ha, Ne.symm hb, Ne.symm hc]

/-- A path that begins with a slash is its first step and the rest. -/
theorem seg_of (r : List UInt8) : ∃ s t, r = s ++ t ∧ (∀ c ∈ s, notS c = true) ∧ (t = [] ∨ t.head? = some 47) := by
  refine ⟨r.takeWhile notS, r.dropWhile notS, (List.takeWhile_append_dropWhile).symm, fun c hc => ?_, ?_⟩
  · exact List.all_eq_true.1 List.all_takeWhile c hc
  · cases h : r.dropWhile notS with
    | nil => exact Or.inl rfl
    | cons x t =>
      right
      have := dropWhile_head notS r x (by rw [h]; rfl)
      obtain rfl : x = 47 := by simpa [notS] using this
      rfl

/-- A row of steps as a path. -/
def pathOf (segs : List (List UInt8)) : List UInt8 := segs.flatMap fun s => 47 :: s
/-- A step that is neither here nor back. -/
def okSeg (s : List UInt8) : Prop := (∀ c ∈ s, notS c = true) ∧ s ≠ [46] ∧ s ≠ [46, 46]
def Good (l : List UInt8) : Prop := ∃ segs, l = pathOf segs ∧ ∀ s ∈ segs, okSeg s

theorem pathOf_head (segs : List (List UInt8)) : pathOf segs = [] ∨ (pathOf segs).head? = some 47 := by
  cases segs with
  | nil => exact Or.inl rfl
  | cons s r => right; simp [pathOf]
theorem pathOf_cons (s : List UInt8) (r : List (List UInt8)) : pathOf (s :: r) = 47 :: (s ++ pathOf r) := by simp [pathOf]
theorem pathOf_snoc (r : List (List UInt8)) (s : List UInt8) : pathOf (r ++ [s]) = pathOf r ++ 47 :: s := by simp [pathOf]

theorem lastN_slash (o s : List UInt8) (h : ∀ c ∈ s, notS c = true) : lastN notS (o ++ 47 :: s) = o.length + 1 := by
  refine lastN_at (k := o.length) (by simp) ?_ ?_
  · intro c hc
    apply h
    rw [List.drop_append, List.drop_of_length_le (by omega)] at hc
    simpa using hc
  · simp [notS]

theorem good_back {o : List UInt8} (h : Good o) : Good (backL o) := by
  obtain ⟨segs, rfl, hs⟩ := h
  rcases List.eq_nil_or_concat segs with rfl | ⟨r, s, rfl⟩
  · exact ⟨[], by simp [backL, pathOf], by simp⟩
  · refine ⟨r, ?_, fun x hx => hs x (by simp [hx])⟩
    rw [List.concat_eq_append, pathOf_snoc, backL, lastN_slash _ _ (hs s (by simp)).1]
    simp

theorem good_cln : ∀ (n : Nat) (o l : List UInt8), l.length ≤ n → (l = [] ∨ l.head? = some 47) → Good o → Good (cln o l)
  | 0, o, l, hn, _, ho => by
    obtain rfl : l = [] := List.length_eq_zero_iff.1 (by omega)
    exact ho
  | n + 1, o, l, hn, hl, ho => by
    rcases head_cases hl with rfl | ⟨r, rfl⟩
    · exact ho
    · obtain ⟨s, t, rfl, hs, ht⟩ := seg_of r
      have hlt := cStep_lt (o := o) (l := 47 :: (s ++ t)) (by simp)
      rw [cln_step (by simp)]
      rw [cStep_seg o hs ht] at hlt ⊢
      have hr : (if t = [] then [47] else t) = [] ∨ (if t = [] then [47] else t).head? = some 47 := by
        right
        rcases head_cases ht with rfl | ⟨x, rfl⟩ <;> simp
      by_cases e : s = [46]
      · rw [if_pos e] at hlt ⊢
        exact good_cln n _ _ (by simp only at hlt ⊢; omega) hr ho
      · rw [if_neg e] at hlt ⊢
        by_cases f : s = [46, 46]
        · rw [if_pos f] at hlt ⊢
          exact good_cln n _ _ (by simp only at hlt ⊢; omega) hr (good_back ho)
        · rw [if_neg f] at hlt ⊢
          refine good_cln n _ _ (by simp only at hlt ⊢; omega) ht ?_
          obtain ⟨segs, rfl, hg⟩ := ho
          refine ⟨segs ++ [s], (pathOf_snoc _ _).symm, fun x hx => ?_⟩
          rcases List.mem_append.1 hx with hx | hx
          · exact hg x hx
          · obtain rfl : x = s := by simpa using hx
            exact ⟨hs, e, f⟩

theorem cln_ne : ∀ (n : Nat) (o l : List UInt8), l.length ≤ n → l.head? = some 47 → cln o l ≠ []
  | 0, o, l, hn, h => by
    obtain rfl : l = [] := List.length_eq_zero_iff.1 (by omega)
    simp at h
  | n + 1, o, l, hn, h => by
    rcases head_cases (Or.inr h) with rfl | ⟨r, rfl⟩
    · simp at h
    · obtain ⟨s, t, rfl, hs, ht⟩ := seg_of r
      have hlt := cStep_lt (o := o) (l := 47 :: (s ++ t)) (by simp)
      rw [cln_step (by simp)]
      rw [cStep_seg o hs ht] at hlt ⊢
      have hr : (if t = [] then [47] else t).head? = some 47 := by
        rcases head_cases ht with rfl | ⟨x, rfl⟩ <;> simp
      by_cases e : s = [46]
      · rw [if_pos e] at hlt ⊢
        exact cln_ne n _ _ (by simp only at hlt ⊢; omega) hr
      · rw [if_neg e] at hlt ⊢
        by_cases f : s = [46, 46]
        · rw [if_pos f] at hlt ⊢
          exact cln_ne n _ _ (by simp only at hlt ⊢; omega) hr
        · rw [if_neg f] at hlt ⊢
          rcases ht with rfl | ht
          · rw [cln_nil]; simp
          · exact cln_ne n _ _ (by simp only at hlt ⊢; omega) ht

theorem cln_good : ∀ (segs : List (List UInt8)) (o : List UInt8), (∀ s ∈ segs, okSeg s) → cln o (pathOf segs) = o ++ pathOf segs
  | [], o, _ => by simp [pathOf, cln_nil]
  | s :: r, o, h => by
    obtain ⟨hs, e, f⟩ := h s (by simp)
    rw [pathOf_cons, cln_step (by simp), cStep_seg o hs (pathOf_head r), if_neg e, if_neg f]
    simp only
    rw [cln_good r _ (fun x hx => h x (by simp [hx]))]
    simp

theorem clean_good {l : List UInt8} (h : l.head? = some 47) : Good (cleanL l) := good_cln l.length [] l (Nat.le_refl _) (Or.inr h) ⟨[], rfl, by simp⟩
theorem clean_twice {l : List UInt8} (h : l.head? = some 47) : cleanL (cleanL l) = cleanL l := by
  obtain ⟨segs, e, hs⟩ := clean_good h
  rw [e]
  exact (cln_good segs [] hs).trans (by simp)
theorem clean_head {l : List UInt8} (h : l.head? = some 47) : (cleanL l).head? = some 47 := by
  obtain ⟨segs, e, hs⟩ := clean_good h
  have hn := cln_ne l.length [] l (Nat.le_refl _) h
  rw [show cln [] l = cleanL l from rfl, e] at hn
  rw [e]
  rcases pathOf_head segs with h | h
  · exact absurd h hn
  · exact h

/- Lengths and bytes -/

theorem cStep_len (o l : List UInt8) : (cStep o l).1.length + (cStep o l).2.length ≤ o.length + l.length := by
  have hb : (backL o).length ≤ o.length := by unfold backL; rw [List.length_take]; omega
  unfold cStep
  repeat' split
  all_goals simp_all
  all_goals omega

theorem cln_len : ∀ (n : Nat) (o l : List UInt8), l.length ≤ n → (cln o l).length ≤ o.length + l.length
  | 0, o, l, hn => by
    obtain rfl : l = [] := List.length_eq_zero_iff.1 (by omega)
    simp [cln_nil]
  | n + 1, o, l, hn => by
    by_cases h : l = []
    · subst h; simp [cln_nil]
    · have h1 := cStep_lt (o := o) h
      have h2 := cStep_len o l
      rw [cln_step h]
      have := cln_len n (cStep o l).1 (cStep o l).2 (by omega)
      omega
theorem clean_len (l : List UInt8) : (cleanL l).length ≤ l.length := by
  have := cln_len l.length [] l (Nat.le_refl _)
  simpa [cleanL] using this

theorem cStep_all {p : UInt8 → Prop} (h47 : p 47) {o l : List UInt8} (ho : ∀ c ∈ o, p c) (hl : ∀ c ∈ l, p c) : (∀ c ∈ (cStep o l).1, p c) ∧ ∀ c ∈ (cStep o l).2, p c := by
  have hb : ∀ c ∈ backL o, p c := fun c hc => ho c (List.mem_of_mem_take hc)
  have hd : ∀ k, ∀ c ∈ l.drop k, p c := fun k c hc => hl c (List.mem_of_mem_drop hc)
  have ht : ∀ k, ∀ c ∈ l.take k, p c := fun k c hc => hl c (List.mem_of_mem_take hc)
  have h1 : ∀ c ∈ [(47 : UInt8)], p c := by
    intro c hc
    rw [List.mem_singleton] at hc
    rw [hc]; exact h47
  unfold cStep
  repeat' split
  · exact ⟨ho, by simp⟩
  · exact ⟨ho, hd 2⟩
  · exact ⟨ho, hd 3⟩
  · exact ⟨ho, h1⟩
  · exact ⟨hb, hd 3⟩
  · exact ⟨hb, h1⟩
  · refine ⟨fun c hc => ?_, hd _⟩
    rcases List.mem_append.1 hc with hc | hc
    · exact ho c hc
    · exact ht _ c hc

theorem cln_all {p : UInt8 → Prop} (h47 : p 47) : ∀ (n : Nat) (o l : List UInt8), l.length ≤ n → (∀ c ∈ o, p c) → (∀ c ∈ l, p c) → ∀ c ∈ cln o l, p c
  | 0, o, l, hn, ho, _ => by
    obtain rfl : l = [] := List.length_eq_zero_iff.1 (by omega)
    exact ho
  | n + 1, o, l, hn, ho, hl => by
    by_cases h : l = []
    · subst h; exact ho
    · have h1 := cStep_lt (o := o) h
      obtain ⟨h2, h3⟩ := cStep_all h47 ho hl
      rw [cln_step h]
      exact cln_all h47 n _ _ (by omega) h2 h3
theorem clean_all {p : UInt8 → Prop} (h47 : p 47) {l : List UInt8} (hl : ∀ c ∈ l, p c) : ∀ c ∈ cleanL l, p c :=
  cln_all h47 l.length [] l (Nat.le_refl _) (by simp) hl

end Go.Proofs.YtmpijlaidnhpnaaGreat

namespace Go.Proofs.YtmpijlaidnhpnaaGreat
set_option linter.unusedVariables false
set_option linter.unusedSimpArgs false
set_option maxRecDepth 100000
open Go.RowKit

def neB (c x : UInt8) : Bool := x != c
theorem notS_ne47 : notS = neB 47 := rfl
/-- How many bytes stand ahead of the first c. -/
def atN (c : UInt8) (l : List UInt8) : Nat := (l.takeWhile (neB c)).length
/-- Where c stands first; -1: nowhere. -/
def ixI (c : UInt8) (l : List UInt8) : Int := if atN c l < l.length then (atN c l : Int) else -1
/-- Where c stands last; -1: nowhere. -/
def laI (c : UInt8) (l : List UInt8) : Int := (lastN (neB c) l : Int) - 1

theorem atN_le (c : UInt8) (l : List UInt8) : atN c l ≤ l.length := takeWhile_le _ _
theorem indexByte_ix (c : UInt8) : ∀ l : List UInt8, Lib.indexByte l c = ixI c l
  | [] => by simp [Lib.indexByte, ixI, atN]
  | b :: l => by
    have ih := indexByte_ix c l
    rw [Lib.indexByte, ih]
    unfold ixI atN
    rw [List.takeWhile_cons]
    by_cases h : b = c
    · subst h; simp [neB]
    · have h1 : (b == c) = false := by simpa using h
      have h2 : neB c b = true := by simpa [neB] using h
      rw [h1, h2]
      simp only [Bool.false_eq_true, if_false, if_true, List.length_cons]
      by_cases g : (l.takeWhile (neB c)).length < l.length
      · have e : (((l.takeWhile (neB c)).length : Int) == -1) = false := by rw [beq_eq_false_iff_ne]; omega
        have g' : (l.takeWhile (neB c)).length + 1 < l.length + 1 := by omega
        simp only [g, g', e, if_true, Bool.false_eq_true, if_false]
        omega
      · have g' : ¬ (l.takeWhile (neB c)).length + 1 < l.length + 1 := by omega
        simp [g, g']

theorem lastN_snoc (p : UInt8 → Bool) (l : List UInt8) (x : UInt8) : lastN p (l ++ [x]) = if p x then lastN p l else l.length + 1 := by
  unfold lastN
  rw [List.reverse_append, List.reverse_singleton, List.singleton_append, List.takeWhile_cons, List.length_append, List.length_singleton]
  cases p x <;> simp

theorem ix_at {s : ByteArray} {c : UInt8} {k : Nat} (hk : k < s.size) (h : ∀ x ∈ s.data.toList.take k, neB c x = true) (g : s[k] = c) : ixI c s.data.toList = k := by
  have hl : k < s.data.toList.length := by rw [size_list]; exact hk
  have : atN c s.data.toList = k := takeWhile_at hl h (by rw [get_at s k hk, g]; simp [neB])
  unfold ixI
  rw [this, if_pos hl]
theorem ix_none {c : UInt8} {l : List UInt8} (h : ∀ x ∈ l, neB c x = true) : ixI c l = -1 := by
  unfold ixI
  rw [atN, takeWhile_all h, if_neg (by omega)]

set_option maxRecDepth 100000 in
set_option maxHeartbeats 1000000 in
theorem find_any (s : ByteArray) (c : UInt8) (w : World) (hs : s.size ≤ 1000000) :
    Calls Tryz.prog 43 #[.string s, .int .u8 (c.toNat : Int)] w fun e w' => e = .returned (.int .i64 (ixI c s.data.toList)) ∧ w' = w := by
  have HZ : Hid (s.data.toList.length = s.size) := by unfold Hid; simp
  go_enter Tryz.func43, Tryz.ntmps43
  go_wp2_with fail
  go_loop [5] (fun i => ∃ k : Nat, k ≤ s.size ∧ i = .int .i64 k ∧ Hid (∀ x ∈ s.data.toList.take k, neB c x = true)) (fun i => s.size - (intOf i).toNat)
  case atStart => exact ⟨0, Nat.zero_le _, rfl, by simp [Hid]⟩
  case round =>
    obtain ⟨k, hk, rfl, hall⟩ := hrel
    by_cases hlt : k < s.size
    · have hltz : (k : Int) < s.size := by omega
      have HT : Hid (s.data.toList.take (k + 1) = s.data.toList.take k ++ [s[k]]) := by
        unfold Hid; rw [take_snoc _ k (by rw [HZ.out]; exact hlt), get_at s k hlt]
      by_cases hb : s[k] = c
      · have HN := hide (ix_at hlt hall.out hb)
        have hbd : (((s[k]).toNat : Int) == (c.toNat : Int)) = true := by rw [hb]; simp
        go_wp2_with fail
        go_ret
        exact ⟨ret_int HN.out.symm, rfl⟩
      · have hbd : (((s[k]).toNat : Int) == (c.toNat : Int)) = false := by
          rw [beq_eq_false_iff_ne]
          intro e
          exact hb (UInt8.toNat_inj.1 (by omega))
        have HB := hide hb
        clear hb
        go_wp2_with fail
        refine ⟨⟨k + 1, by omega, by go_num, ?_⟩, by simp [intOf]; omega⟩
        unfold Hid
        rw [HT.out]
        intro x hx
        rcases List.mem_append.1 hx with hx | hx
        · exact hall.out x hx
        · obtain rfl : x = s[k] := by simpa using hx
          simpa [neB] using HB.out
    · have hd : decide ((k : Int) < s.size) = false := decide_eq_false (by omega)
      rw [List.take_of_length_le (by rw [HZ.out]; omega)] at hall
      have HN := hide (ix_none hall.out)
      go_wp2_with fail
      go_ret
      exact ⟨ret_int HN.out.symm, rfl⟩


theorem laI_nil (c : UInt8) : laI c [] = -1 := by simp [laI, lastN]
theorem laI_snoc (c : UInt8) (l : List UInt8) (x : UInt8) : laI c (l ++ [x]) = if x = c then (l.length : Int) else laI c l := by
  unfold laI
  rw [lastN_snoc]
  by_cases h : x = c
  · subst h; simp [neB]
  · rw [if_neg h, if_pos (by simpa [neB] using h)]

theorem laI_ge (c : UInt8) (l : List UInt8) : -1 ≤ laI c l := by unfold laI; omega
theorem laI_lt (c : UInt8) (l : List UInt8) : laI c l < l.length ∨ l = [] := by
  by_cases h : l = []
  · exact Or.inr h
  · left
    have := lastN_le (neB c) l
    have := List.length_pos_iff.2 h
    unfold laI
    omega

theorem beg_eq {s t : ByteArray} (h : t.size ≤ s.size) : ((s.extract 0 t.size).toList == t.toList) = pre t.data.toList s.data.toList := by
  rw [ByteArray.toList_eq, ByteArray.toList_eq]
  have e : (s.extract 0 t.size).data.toList = s.data.toList.take t.data.toList.length := by
    rw [size_list]; simp [ByteArray.data_extract]
  rw [e]
  unfold pre
  rw [Bool.eq_iff_iff, beq_iff_eq, List.isPrefixOf_iff_prefix, List.prefix_iff_eq_take, eq_comm]
theorem beg_no {s t : ByteArray} (h : ¬ t.size ≤ s.size) : pre t.data.toList s.data.toList = false := by
  cases e : pre t.data.toList s.data.toList with
  | false => rfl
  | true =>
    unfold pre at e
    have := (List.isPrefixOf_iff_prefix.1 e).length_le
    rw [size_list, size_list] at this
    exact absurd this h

end Go.Proofs.YtmpijlaidnhpnaaGreat
