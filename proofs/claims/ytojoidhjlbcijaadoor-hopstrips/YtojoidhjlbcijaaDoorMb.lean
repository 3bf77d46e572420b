/- Parts between bytes, by plain reckoning: no condition beside each theorem's own. -/
import Derived.Test.YtojoidhjlbcijaaDoorMa
import Derived.Lib.IndexMore
namespace Go.Proofs.YtojoidhjlbcijaaDoor
set_option linter.unusedVariables false
set_option linter.unusedSimpArgs false

def neB (c x : UInt8) : Bool := x != c
/-- How many bytes stand ahead of the first c. -/
def atN (c : UInt8) (l : List UInt8) : Nat := (l.takeWhile (neB c)).length
theorem atN_le (c : UInt8) (l : List UInt8) : atN c l ≤ l.length := takeWhile_le _ _
theorem tw_all {p : UInt8 → Bool} : ∀ {x : List UInt8}, (∀ c ∈ x, p c = true) → ∀ r, (x ++ r).takeWhile p = x ++ r.takeWhile p
  | [], _, r => rfl
  | c :: x, h, r => by
    rw [List.cons_append, List.takeWhile_cons, if_pos (h c (by simp)), tw_all (fun d hd => h d (by simp [hd])), List.cons_append]
theorem dw_all {p : UInt8 → Bool} : ∀ {x : List UInt8}, (∀ c ∈ x, p c = true) → ∀ r, (x ++ r).dropWhile p = r.dropWhile p
  | [], _, r => rfl
  | c :: x, h, r => by
    rw [List.cons_append, List.dropWhile_cons, if_pos (h c (by simp)), dw_all (fun d hd => h d (by simp [hd]))]
theorem tw_mem {p : UInt8 → Bool} : ∀ {l : List UInt8} {c : UInt8}, c ∈ l.takeWhile p → p c = true
  | [], c, h => by simp at h
  | d :: l, c, h => by
    rw [List.takeWhile_cons] at h
    split at h
    · rename_i hd
      rcases List.mem_cons.1 h with rfl | h
      · exact hd
      · exact tw_mem h
    · simp at h
theorem atN_line {c : UInt8} {x r : List UInt8} (h : ∀ d ∈ x, neB c d = true) : atN c (x ++ c :: r) = x.length := by
  unfold atN; rw [tw_all h, List.takeWhile_cons, if_neg (by simp [neB])]; simp
theorem atN_none {c : UInt8} {x : List UInt8} (h : ∀ d ∈ x, neB c d = true) : atN c x = x.length := by
  unfold atN; rw [takeWhile_all h]
theorem take_atN (c : UInt8) (l : List UInt8) : l.take (atN c l) = l.takeWhile (neB c) := (List.prefix_iff_eq_take.1 (List.takeWhile_prefix (neB c))).symm
theorem get_atN {c : UInt8} {l : List UInt8} (h : atN c l < l.length) : l[atN c l] = c := by
  have h1 : l.drop (atN c l) = l.dropWhile (neB c) := drop_takeWhile _ _
  have h2 : (l.dropWhile (neB c)).head? = some l[atN c l] := by
    rw [← h1, List.head?_drop, List.getElem?_eq_getElem h]
  have := dropWhile_head _ _ _ h2
  simpa [neB] using this
theorem parted {c : UInt8} {l : List UInt8} (h : atN c l < l.length) : l = l.take (atN c l) ++ c :: l.drop (atN c l + 1) := by
  conv => lhs; rw [← List.take_append_drop (atN c l) l, List.drop_eq_getElem_cons h, get_atN h]
theorem take_no {c : UInt8} (l : List UInt8) : ∀ d ∈ l.take (atN c l), neB c d = true := by
  rw [take_atN]; intro d hd; exact tw_mem hd
theorem none_no {c : UInt8} {l : List UInt8} (h : ¬ atN c l < l.length) : ∀ d ∈ l, neB c d = true := by
  have := atN_le c l
  have e : l.take (atN c l) = l := List.take_of_length_le (by omega)
  rw [← e]; exact take_no l

/-- What stands ahead of the first c, and behind it. -/
def bfL (c : UInt8) (l : List UInt8) : List UInt8 := l.takeWhile (neB c)
def afL (c : UInt8) (l : List UInt8) : List UInt8 := (l.dropWhile (neB c)).drop 1
def hvL (c : UInt8) (l : List UInt8) : Bool := decide (atN c l < l.length)
theorem bf_line {c : UInt8} {x r : List UInt8} (h : ∀ d ∈ x, neB c d = true) : bfL c (x ++ c :: r) = x := by
  unfold bfL; rw [tw_all h, List.takeWhile_cons, if_neg (by simp [neB])]; simp
theorem af_line {c : UInt8} {x r : List UInt8} (h : ∀ d ∈ x, neB c d = true) : afL c (x ++ c :: r) = r := by
  unfold afL; rw [dw_all h, List.dropWhile_cons, if_neg (by simp [neB])]; simp
theorem hv_line {c : UInt8} {x r : List UInt8} (h : ∀ d ∈ x, neB c d = true) : hvL c (x ++ c :: r) = true := by
  unfold hvL; rw [atN_line h]; simp
theorem hv_none {c : UInt8} {x : List UInt8} (h : ∀ d ∈ x, neB c d = true) : hvL c x = false := by
  unfold hvL; rw [atN_none h]; simp
theorem bf_le (c : UInt8) (l : List UInt8) : (bfL c l).length ≤ l.length := takeWhile_le _ _
theorem af_le (c : UInt8) (l : List UInt8) : (afL c l).length ≤ l.length := by
  unfold afL
  have := dropWhile_le (neB c) l
  rw [List.length_drop]; omega

/-- The parts between the bytes c. -/
def splB (c : UInt8) : List UInt8 → List (List UInt8)
  | [] => [[]]
  | x :: r => if x = c then [] :: splB c r else match splB c r with | [] => [[x]] | p :: ps => (x :: p) :: ps
theorem splB_ne (c : UInt8) (l : List UInt8) : splB c l ≠ [] := by
  cases l with
  | nil => simp [splB]
  | cons x r => unfold splB; split; · simp
                split <;> simp
theorem splB_free {c : UInt8} : ∀ {l : List UInt8}, (∀ d ∈ l, neB c d = true) → splB c l = [l]
  | [], _ => rfl
  | x :: r, h => by
    have hx : x ≠ c := by simpa [neB] using h x (by simp)
    rw [splB, if_neg hx, splB_free (fun d hd => h d (by simp [hd]))]
theorem splB_app (c : UInt8) : ∀ (a b : List UInt8), splB c (a ++ c :: b) = splB c a ++ splB c b
  | [], b => by
    show splB c (c :: b) = [] :: splB c b
    rw [splB, if_pos rfl]
  | x :: a, b => by
    rw [List.cons_append, splB, splB, splB_app c a b]
    split
    · rfl
    · cases h : splB c a with
      | nil => exact absurd h (splB_ne c a)
      | cons p ps => rfl
theorem splB_yes {c : UInt8} {l : List UInt8} (h : atN c l < l.length) : splB c l = l.take (atN c l) :: splB c (l.drop (atN c l + 1)) := by
  conv => lhs; rw [parted h]
  rw [splB_app, splB_free (take_no l)]; rfl
theorem splB_no {c : UInt8} {l : List UInt8} (h : ¬ atN c l < l.length) : splB c l = [l] := splB_free (none_no h)
theorem splB_len (c : UInt8) : ∀ l : List UInt8, (splB c l).length ≤ l.length + 1
  | [] => by simp [splB]
  | x :: r => by
    have ih := splB_len c r
    unfold splB; split
    · simp; omega
    · split
      · simp
      · rename_i h; rw [h] at ih; simp at ih ⊢; omega
theorem splB_part (c : UInt8) : ∀ (l : List UInt8), ∀ p ∈ splB c l, p.length ≤ l.length
  | [], p, hp => by simp [splB] at hp; simp [hp]
  | x :: r, p, hp => by
    unfold splB at hp; split at hp
    · rcases List.mem_cons.1 hp with rfl | hp
      · simp
      · have := splB_part c r p hp; simp; omega
    · split at hp
      · obtain rfl : p = [x] := by simpa using hp
        simp
      · rename_i q qs h
        rcases List.mem_cons.1 hp with rfl | hp
        · have := splB_part c r q (by rw [h]; simp); simp; omega
        · have := splB_part c r p (by rw [h]; simp [hp]); simp; omega

end Go.Proofs.YtojoidhjlbcijaaDoor
