/- Names and values as lists of bytes, by plain reckoning: parts between bytes, queries, cookies, languages: no condition beside each theorem's own. -/
import Derived.Test.YtgnpeggffeoenaaDoorMa
import Derived.Lib.IndexMore
namespace Go.Proofs.YtgnpeggffeoenaaDoor
set_option linter.unusedVariables false
set_option linter.unusedSimpArgs false

def neB (c x : UInt8) : Bool := x != c
/-- How many bytes stand ahead of the first c. -/
def atN (c : UInt8) (l : List UInt8) : Nat := (l.takeWhile (neB c)).length
theorem atN_le (c : UInt8) (l : List UInt8) : atN c l ≤ l.length := takeWhile_le _ _
theorem tw_all {p : UInt8 → Bool} : ∀ {x : List UInt8}, (∀ c ∈ x, p c = true) → ∀ r, (x ++ r).takeWhile p = x ++ r.takeWhile p
  | [], _, r => rfl
  | c :: x, h, r => by
    rw [List.cons_append, List.takeWhile_cons, if_pos (h c (by simp)), tw_all (fun d hd => h d (by simp [hd])), List.cons_append]
theorem dw_all {p : UInt8 → Bool} : ∀ {x : List UInt8}, (∀ c ∈ x, p c = true) → ∀ r, (x ++ r).dropWhile p = r.dropWhile p
  | [], _, r => rfl
  | c :: x, h, r => by
    rw [List.cons_append, List.dropWhile_cons, if_pos (h c (by simp)), dw_all (fun d hd => h d (by simp [hd]))]
theorem tw_mem {p : UInt8 → Bool} : ∀ {l : List UInt8} {c : UInt8}, c ∈ l.takeWhile p → p c = true
  | [], c, h => by simp at h
  | d :: l, c, h => by
    rw [List.takeWhile_cons] at h
    split at h
    · rename_i hd
      rcases List.mem_cons.1 h with rfl | h
      · exact hd
      · exact tw_mem h
    · simp at h
theorem atN_line {c : UInt8} {x r : List UInt8} (h : ∀ d ∈ x, neB c d = true) : atN c (x ++ c :: r) = x.length := by
  unfold atN; rw [tw_all h, List.takeWhile_cons, if_neg (by simp [neB])]; simp
theorem atN_none {c : UInt8} {x : List UInt8} (h : ∀ d ∈ x, neB c d = true) : atN c x = x.length := by
  unfold atN; rw [takeWhile_all h]
theorem take_atN (c : UInt8) (l : List UInt8) : l.take (atN c l) = l.takeWhile (neB c) := (List.prefix_iff_eq_take.1 (List.takeWhile_prefix (neB c))).symm
theorem get_atN {c : UInt8} {l : List UInt8} (h : atN c l < l.length) : l[atN c l] = c := by
  have h1 : l.drop (atN c l) = l.dropWhile (neB c) := drop_takeWhile _ _
  have h2 : (l.dropWhile (neB c)).head? = some l[atN c l] := by
    rw [← h1, List.head?_drop, List.getElem?_eq_getElem h]
  have := dropWhile_head _ _ _ h2
  simpa [neB] using this
theorem parted {c : UInt8} {l : List UInt8} (h : atN c l < l.length) : l = l.take (atN c l) ++ c :: l.drop (atN c l + 1) := by
  conv => lhs; rw [← List.take_append_drop (atN c l) l, List.drop_eq_getElem_cons h, get_atN h]
theorem take_no {c : UInt8} (l : List UInt8) : ∀ d ∈ l.take (atN c l), neB c d = true := by
  rw [take_atN]; intro d hd; exact tw_mem hd
theorem none_no {c : UInt8} {l : List UInt8} (h : ¬ atN c l < l.length) : ∀ d ∈ l, neB c d = true := by
  have := atN_le c l
  have e : l.take (atN c l) = l := List.take_of_length_le (by omega)
  rw [← e]; exact take_no l

/-- What stands ahead of the first c, and behind it. -/
def bfL (c : UInt8) (l : List UInt8) : List UInt8 := l.takeWhile (neB c)
def afL (c : UInt8) (l : List UInt8) : List UInt8 := (l.dropWhile (neB c)).drop 1
def hvL (c : UInt8) (l : List UInt8) : Bool := decide (atN c l < l.length)
theorem bf_line {c : UInt8} {x r : List UInt8} (h : ∀ d ∈ x, neB c d = true) : bfL c (x ++ c :: r) = x := by
  unfold bfL; rw [tw_all h, List.takeWhile_cons, if_neg (by simp [neB])]; simp
theorem af_line {c : UInt8} {x r : List UInt8} (h : ∀ d ∈ x, neB c d = true) : afL c (x ++ c :: r) = r := by
  unfold afL; rw [dw_all h, List.dropWhile_cons, if_neg (by simp [neB])]; simp
theorem hv_line {c : UInt8} {x r : List UInt8} (h : ∀ d ∈ x, neB c d = true) : hvL c (x ++ c :: r) = true := by
  unfold hvL; rw [atN_line h]; simp
theorem hv_none {c : UInt8} {x : List UInt8} (h : ∀ d ∈ x, neB c d = true) : hvL c x = false := by
  unfold hvL; rw [atN_none h]; simp
theorem bf_le (c : UInt8) (l : List UInt8) : (bfL c l).length ≤ l.length := takeWhile_le _ _
theorem af_le (c : UInt8) (l : List UInt8) : (afL c l).length ≤ l.length := by
  unfold afL
  have := dropWhile_le (neB c) l
  rw [List.length_drop]; omega

/-- The parts between the bytes c. -/
def splB (c : UInt8) : List UInt8 → List (List UInt8)
  | [] => [[]]
  | x :: r => if x = c then [] :: splB c r else match splB c r with | [] => [[x]] | p :: ps => (x :: p) :: ps
theorem splB_ne (c : UInt8) (l : List UInt8) : splB c l ≠ [] := by
  cases l with
  | nil => simp [splB]
  | cons x r => unfold splB; split; · simp
                split <;> simp
theorem splB_free {c : UInt8} : ∀ {l : List UInt8}, (∀ d ∈ l, neB c d = true) → splB c l = [l]
  | [], _ => rfl
  | x :: r, h => by
    have hx : x ≠ c := by simpa [neB] using h x (by simp)
    rw [splB, if_neg hx, splB_free (fun d hd => h d (by simp [hd]))]
theorem splB_app (c : UInt8) : ∀ (a b : List UInt8), splB c (a ++ c :: b) = splB c a ++ splB c b
  | [], b => by
    show splB c (c :: b) = [] :: splB c b
    rw [splB, if_pos rfl]
  | x :: a, b => by
    rw [List.cons_append, splB, splB, splB_app c a b]
    split
    · rfl
    · cases h : splB c a with
      | nil => exact absurd h (splB_ne c a)
      | cons p ps => rfl
theorem splB_yes {c : UInt8} {l : List UInt8} (h : atN c l < l.length) : splB c l = l.take (atN c l) :: splB c (l.drop (atN c l + 1)) := by
  conv => lhs; rw [parted h]
  rw [splB_app, splB_free (take_no l)]; rfl
theorem splB_no {c : UInt8} {l : List UInt8} (h : ¬ atN c l < l.length) : splB c l = [l] := splB_free (none_no h)
theorem splB_len (c : UInt8) : ∀ l : List UInt8, (splB c l).length ≤ l.length + 1
  | [] => by simp [splB]
  | x :: r => by
    have ih := splB_len c r
    unfold splB; split
    · simp; omega
    · split
      · simp
      · rename_i h; rw [h] at ih; simp at ih ⊢; omega
theorem splB_part (c : UInt8) : ∀ (l : List UInt8), ∀ p ∈ splB c l, p.length ≤ l.length
  | [], p, hp => by simp [splB] at hp; simp [hp]
  | x :: r, p, hp => by
    unfold splB at hp; split at hp
    · rcases List.mem_cons.1 hp with rfl | hp
      · simp
      · have := splB_part c r p hp; simp; omega
    · split at hp
      · obtain rfl : p = [x] := by simpa using hp
        simp
      · rename_i q qs h
        rcases List.mem_cons.1 hp with rfl | hp
        · have := splB_part c r q (by rw [h]; simp); simp; omega
        · have := splB_part c r p (by rw [h]; simp [hp]); simp; omega

/- Bytes by their numbers -/

def hxN (c : UInt8) : Nat := if 48 ≤ c.toNat ∧ c.toNat ≤ 57 then c.toNat - 48 else if 97 ≤ c.toNat ∧ c.toNat ≤ 102 then c.toNat - 87 else if 65 ≤ c.toNat ∧ c.toNat ≤ 70 then c.toNat - 55 else 99
/-- The byte whose number the two digits say that a text begins with. -/
def pct : List UInt8 → Option UInt8
  | a :: b :: _ => if hxN a < 16 ∧ hxN b < 16 then some (UInt8.ofNat (16 * hxN a + hxN b)) else none
  | _ => none
def decL : List UInt8 → List UInt8
  | [] => []
  | c :: r => if c = 43 then 32 :: decL r else if c = 37 then (match r with
      | a :: b :: t => if hxN a < 16 ∧ hxN b < 16 then UInt8.ofNat (16 * hxN a + hxN b) :: decL t else 37 :: decL (a :: b :: t)
      | r' => 37 :: decL r') else c :: decL r
theorem dec_nil : decL [] = [] := by rw [decL]
theorem dec_plus (r : List UInt8) : decL (43 :: r) = 32 :: decL r := by rw [decL.eq_def]; simp
theorem dec_else {c : UInt8} (r : List UInt8) (h : c ≠ 43) (g : c ≠ 37) : decL (c :: r) = c :: decL r := by rw [decL.eq_def]; simp [h, g]
theorem dec_yes {r : List UInt8} {v : UInt8} (h : pct r = some v) : decL (37 :: r) = v :: decL (r.drop 2) := by
  match r with
  | [] => simp [pct] at h
  | [a] => simp [pct] at h
  | a :: b :: t =>
    rw [pct] at h
    split at h
    · rename_i hh
      rw [decL.eq_def]
      simp only [show ¬ ((37 : UInt8) = 43) by decide, if_false, if_true, if_pos hh]
      rw [Option.some.inj h]; rfl
    · simp at h
theorem dec_no {r : List UInt8} (h : pct r = none) : decL (37 :: r) = 37 :: decL r := by
  match r with
  | [] => rw [decL.eq_def]; simp
  | [a] => rw [decL.eq_def]; simp
  | a :: b :: t =>
    rw [pct] at h
    split at h
    · simp at h
    · rename_i hh
      rw [decL.eq_def]
      simp only [show ¬ ((37 : UInt8) = 43) by decide, if_false, if_true, if_neg hh]
theorem pct_some {r : List UInt8} {v : UInt8} (h : pct r = some v) : 2 ≤ r.length := by
  match r with
  | [] => simp [pct] at h
  | [a] => simp [pct] at h
  | a :: b :: t => simp
theorem dec_le : ∀ (k : Nat) (l : List UInt8), l.length ≤ k → (decL l).length ≤ l.length
  | _, [], _ => by simp [dec_nil]
  | 0, c :: r, h => by simp at h
  | k + 1, c :: r, h => by
    simp at h
    by_cases h1 : c = 43
    · subst h1; rw [dec_plus]; have := dec_le k r h; simp; omega
    · by_cases h2 : c = 37
      · subst h2
        cases hp : pct r with
        | none => rw [dec_no hp]; have := dec_le k r h; simp; omega
        | some v => rw [dec_yes hp]; have := dec_le k (r.drop 2) (by simp; omega); rw [List.length_drop] at this; simp; omega
      · rw [dec_else r h1 h2]; have := dec_le k r h; simp; omega
theorem dec_len (l : List UInt8) : (decL l).length ≤ l.length := dec_le l.length l (Nat.le_refl _)
theorem dec_free : ∀ {l : List UInt8}, (∀ d ∈ l, d ≠ 43 ∧ d ≠ 37) → decL l = l
  | [], _ => dec_nil
  | c :: r, h => by
    have := h c (by simp)
    rw [dec_else r this.1 this.2, dec_free (fun d hd => h d (by simp [hd]))]

/-- Digits in great letters and in small ones, by their values. -/
def upH (n : Nat) : UInt8 := if n < 10 then UInt8.ofNat (48 + n) else UInt8.ofNat (55 + n)
def loH (n : Nat) : UInt8 := if n < 10 then UInt8.ofNat (48 + n) else UInt8.ofNat (87 + n)
def pcL (c : UInt8) : List UInt8 := [37, upH (c.toNat / 16), loH (c.toNat % 16)]
theorem pct_pc (c : UInt8) (r : List UInt8) : pct (upH (c.toNat / 16) :: loH (c.toNat % 16) :: r) = some c := by
  have h := u8_all (fun c => decide (hxN (upH (c.toNat / 16)) < 16) && decide (hxN (loH (c.toNat % 16)) < 16) && (UInt8.ofNat (16 * hxN (upH (c.toNat / 16)) + hxN (loH (c.toNat % 16))) == c)) (by decide +kernel) c
  simp only [Bool.and_eq_true, decide_eq_true_eq, beq_iff_eq] at h
  rw [pct, if_pos h.1, h.2]
theorem dec_pc : ∀ (l : List UInt8), decL (l.flatMap pcL) = l
  | [] => dec_nil
  | c :: l => by
    rw [List.flatMap_cons]
    show decL (37 :: (upH (c.toNat / 16) :: loH (c.toNat % 16) :: l.flatMap pcL)) = _
    rw [dec_yes (pct_pc c _), List.drop_succ_cons, List.drop_succ_cons, List.drop_zero, dec_pc l]
theorem pc_no {c d : UInt8} (h : d ∈ pcL c) : d ≠ 38 ∧ d ≠ 61 := by
  have := u8_all (fun c => (pcL c).all (fun d => d != 38 && d != 61)) (by decide +kernel) c
  have := List.all_eq_true.1 this d h
  simpa using this

/- Queries, cookies, languages -/

def qP (p : List UInt8) : Option (List UInt8 × List UInt8) := if p = [] then none else some (decL (bfL 61 p), decL (afL 61 p))
def qL (l : List UInt8) : List (List UInt8 × List UInt8) := (splB 38 l).filterMap qP
def unqV (v : List UInt8) : List UInt8 := (unqL v).getD v
def cP (p : List UInt8) : Option (List UInt8 × List UInt8) := if hvL 61 p = true ∧ trimL (bfL 61 p) ≠ [] then some (trimL (bfL 61 p), unqV (trimL (afL 61 p))) else none
def cL (l : List UInt8) : List (List UInt8 × List UInt8) := (splB 59 l).filterMap cP
def lP (p : List UInt8) : List UInt8 := lowL (trimL (bfL 59 p))
def addL (acc : List (List UInt8)) (p : List UInt8) : List (List UInt8) := if lP p = [] ∨ lP p ∈ acc then acc else acc ++ [lP p]
def lgL (l : List UInt8) : List (List UInt8) := (splB 44 l).foldl addL []
def fdP (n : List UInt8) : List (List UInt8 × List UInt8) → Option (List UInt8)
  | [] => none
  | p :: r => if p.1 = n then some p.2 else fdP n r

theorem qL_app (a b : List UInt8) : qL (a ++ 38 :: b) = qL a ++ qL b := by unfold qL; rw [splB_app, List.filterMap_append]
theorem cL_app (a b : List UInt8) : cL (a ++ 59 :: b) = cL a ++ cL b := by unfold cL; rw [splB_app, List.filterMap_append]

theorem add_mem {x : List UInt8} (hx : x ≠ []) : ∀ (ps : List (List UInt8)), (x ∈ ps.foldl addL [] ↔ x ∈ ps.map lP) := by
  have H : ∀ (ps : List (List UInt8)) (acc : List (List UInt8)), (x ∈ ps.foldl addL acc ↔ x ∈ acc ∨ x ∈ ps.map lP) := by
    intro ps
    induction ps with
    | nil => intro acc; simp
    | cons p ps ih =>
      intro acc
      rw [List.foldl_cons, ih, List.map_cons, List.mem_cons]
      unfold addL
      split
      · rename_i h
        constructor
        · rintro (h1 | h1)
          · exact .inl h1
          · exact .inr (.inr h1)
        · rintro (h1 | h1 | h1)
          · exact .inl h1
          · subst h1
            rcases h with h | h
            · exact absurd h hx
            · exact .inl h
          · exact .inr h1
      · rw [List.mem_append, List.mem_singleton]
        constructor
        · rintro ((h1 | h1) | h1)
          · exact .inl h1
          · exact .inr (.inl h1)
          · exact .inr (.inr h1)
        · rintro (h1 | h1 | h1)
          · exact .inl (.inl h1)
          · exact .inl (.inr h1)
          · exact .inr h1
  intro ps
  rw [H]; simp

theorem unq_head {v : List UInt8} (h : v.head? ≠ some 34) : unqV v = v := by
  unfold unqV unqL quotedL
  simp [h]
theorem fm_len {α β : Type} (f : α → Option β) (l : List α) : (l.filterMap f).length ≤ l.length := List.length_filterMap_le f l
theorem qL_len (l : List UInt8) : (qL l).length ≤ l.length + 1 := Nat.le_trans (fm_len _ _) (splB_len _ _)
theorem cL_len (l : List UInt8) : (cL l).length ≤ l.length + 1 := Nat.le_trans (fm_len _ _) (splB_len _ _)

/- What letters and digits are read as -/

def alnB (c : UInt8) : Bool := (decide (97 ≤ c.toNat) && decide (c.toNat ≤ 122)) || (decide (65 ≤ c.toNat) && decide (c.toNat ≤ 90)) || (decide (48 ≤ c.toNat) && decide (c.toNat ≤ 57))
theorem aln_no {c : UInt8} (h : alnB c = true) : c ≠ 38 ∧ c ≠ 61 ∧ c ≠ 43 ∧ c ≠ 37 ∧ c ≠ 59 ∧ c ≠ 34 ∧ blankB c = false := by
  have := u8_all (fun c => !alnB c || (c != 38 && c != 61 && c != 43 && c != 37 && c != 59 && c != 34 && !blankB c)) (by decide +kernel) c
  rw [h] at this
  simpa [and_assoc] using this
theorem neB_of {c d : UInt8} (h : d ≠ c) : neB c d = true := by simpa [neB] using h

/-- A text's letters and digits, of its first thirty bytes. -/
def clnL (l : List UInt8) : List UInt8 := (l.take 30).filter alnB
theorem cln_aln {l : List UInt8} : ∀ d ∈ clnL l, alnB d = true := fun d hd => (List.mem_filter.1 hd).2
theorem cln_len (l : List UInt8) : (clnL l).length ≤ 30 := by
  unfold clnL
  have := List.length_filter_le alnB (l.take 30)
  rw [List.length_take] at this; omega
abbrev PB := List UInt8 × List UInt8
def nmP (p : PB) : List UInt8 := clnL p.1 ++ [110]
def vlP (p : PB) : List UInt8 := clnL p.2
def wtP (p : PB) : PB := (nmP p, vlP p)
theorem nm_aln (p : PB) : ∀ d ∈ nmP p, alnB d = true := by
  intro d hd
  rcases List.mem_append.1 hd with hd | hd
  · exact cln_aln d hd
  · obtain rfl : d = 110 := by simpa using hd
    decide
theorem nm_ne (p : PB) : nmP p ≠ [] := by simp [nmP]
/-- A query's part, a cookie's part. -/
def qeP (p : PB) : List UInt8 := nmP p ++ 61 :: vlP p
def quP (p : PB) : List UInt8 := 38 :: qeP p
def ceP (p : PB) : List UInt8 := nmP p ++ ([32, 61, 32] ++ vlP p)
def cuP (p : PB) : List UInt8 := ceP p ++ [59, 32]
theorem qe_no (p : PB) : ∀ d ∈ qeP p, neB 38 d = true := by
  intro d hd
  rcases List.mem_append.1 hd with hd | hd
  · exact neB_of (aln_no (nm_aln p d hd)).1
  · rcases List.mem_cons.1 hd with rfl | hd
    · decide
    · exact neB_of (aln_no (cln_aln d hd)).1
theorem qe_is (p : PB) : qP (qeP p) = some (wtP p) := by
  have h1 : ∀ d ∈ nmP p, neB 61 d = true := fun d hd => neB_of (aln_no (nm_aln p d hd)).2.1
  have h0 : qeP p ≠ [] := by simp [qeP]
  unfold qP
  rw [if_neg h0]
  unfold qeP
  rw [bf_line h1, af_line h1, dec_free (fun d hd => ⟨(aln_no (nm_aln p d hd)).2.2.1, (aln_no (nm_aln p d hd)).2.2.2.1⟩), dec_free (l := vlP p) (fun d hd => ⟨(aln_no (cln_aln d hd)).2.2.1, (aln_no (cln_aln d hd)).2.2.2.1⟩)]
  rfl
theorem qL_free {l : List UInt8} (h : ∀ d ∈ l, neB 38 d = true) : qL l = (qP l).toList := by
  unfold qL; rw [splB_free h]
  cases hq : qP l <;> simp [hq]
theorem q_more : ∀ (ps : List PB) (x : List UInt8), (∀ d ∈ x, neB 38 d = true) → qL (x ++ ps.flatMap quP) = (qP x).toList ++ ps.map wtP
  | [], x, h => by simp [qL_free h]
  | p :: ps, x, h => by
    rw [List.flatMap_cons]
    show qL (x ++ 38 :: (qeP p ++ ps.flatMap quP)) = _
    rw [qL_app, qL_free h, q_more ps (qeP p) (qe_no p), qe_is]
    simp
theorem q_all (ps : List PB) : qL (ps.flatMap quP) = ps.map wtP := by
  have := q_more ps [] (by simp)
  simpa [qP] using this
theorem ce_no {sp : List UInt8} (hs : ∀ d ∈ sp, d = 32) (p : PB) : ∀ d ∈ sp ++ ceP p, neB 59 d = true := by
  intro d hd
  rcases List.mem_append.1 hd with hd | hd
  · rw [hs d hd]; decide
  · rcases List.mem_append.1 hd with hd | hd
    · exact neB_of (aln_no (nm_aln p d hd)).2.2.2.2.1
    · rcases List.mem_append.1 hd with hd | hd
      · have : ∀ d ∈ ([32, 61, 32] : List UInt8), neB 59 d = true := by decide
        exact this d hd
      · exact neB_of (aln_no (cln_aln d hd)).2.2.2.2.1
theorem trim_left {l : List UInt8} : ∀ {sp : List UInt8}, (∀ d ∈ sp, blankB d = true) → trimL (sp ++ l) = trimL l
  | [], _ => rfl
  | c :: sp, h => by
    have hc := h c (by simp)
    have ih := trim_left (l := l) (sp := sp) (fun d hd => h d (by simp [hd]))
    unfold trimL at ih ⊢
    rw [List.cons_append, List.dropWhile_cons, if_pos hc]; exact ih
theorem trim_end (l : List UInt8) {d : UInt8} (hd : blankB d = true) : trimL (l ++ [d]) = trimL l := by
  unfold trimL
  rw [dropWhile_append_one l d hd]
  split
  · rename_i h; rw [h]
  · rw [List.reverse_append, List.reverse_singleton, List.singleton_append, List.dropWhile_cons, if_pos hd]
theorem trim_aln {l : List UInt8} (h : ∀ d ∈ l, alnB d = true) : trimL l = l :=
  trimL_same (fun c hc => (aln_no (h c (List.mem_of_head? hc))).2.2.2.2.2.2) (fun c hc => (aln_no (h c (List.mem_of_getLast? hc))).2.2.2.2.2.2)
theorem ce_is {sp : List UInt8} (hs : ∀ d ∈ sp, d = 32) (p : PB) : cP (sp ++ ceP p) = some (wtP p) := by
  have hf : sp ++ ceP p = (sp ++ (nmP p ++ [32])) ++ 61 :: (32 :: vlP p) := by simp [ceP]
  have h1 : ∀ d ∈ sp ++ (nmP p ++ [32]), neB 61 d = true := by
    intro d hd
    rcases List.mem_append.1 hd with hd | hd
    · rw [hs d hd]; decide
    · rcases List.mem_append.1 hd with hd | hd
      · exact neB_of (aln_no (nm_aln p d hd)).2.1
      · obtain rfl : d = 32 := by simpa using hd
        decide
  have hb : ∀ d ∈ sp, blankB d = true := fun d hd => by rw [hs d hd]; decide
  have hn : trimL (sp ++ (nmP p ++ [32])) = nmP p := by rw [trim_left hb, trim_end _ (by decide), trim_aln (nm_aln p)]
  have hv : trimL (32 :: vlP p) = vlP p := by
    have := trim_left (l := vlP p) (sp := [32]) (by decide)
    rw [List.singleton_append] at this
    rw [this]; exact trim_aln cln_aln
  unfold cP
  rw [hf, hv_line h1, bf_line h1, af_line h1, hn, hv, if_pos ⟨rfl, nm_ne p⟩, unq_head]
  · rfl
  · intro e
    exact (aln_no (cln_aln 34 (List.mem_of_head? e))).2.2.2.2.2.1 rfl
theorem cL_free {l : List UInt8} (h : ∀ d ∈ l, neB 59 d = true) : cL l = (cP l).toList := by
  unfold cL; rw [splB_free h]
  cases hq : cP l <;> simp [hq]
theorem c_more : ∀ (ps : List PB) (sp : List UInt8), (∀ d ∈ sp, d = 32) → cL (sp ++ ps.flatMap cuP) = ps.map wtP
  | [], sp, h => by
    have h1 : ∀ d ∈ sp, neB 59 d = true := fun d hd => by rw [h d hd]; decide
    have h2 : ∀ d ∈ sp, neB 61 d = true := fun d hd => by rw [h d hd]; decide
    have : cP sp = none := by unfold cP; rw [hv_none h2]; simp
    simp [cL_free h1, this]
  | p :: ps, sp, h => by
    rw [List.flatMap_cons]
    have : sp ++ (cuP p ++ ps.flatMap cuP) = (sp ++ ceP p) ++ 59 :: ([32] ++ ps.flatMap cuP) := by simp [cuP]
    rw [this, cL_app, cL_free (ce_no h p), ce_is h p, c_more ps [32] (by simp)]
    simp
theorem c_all (ps : List PB) : cL (ps.flatMap cuP) = ps.map wtP := by
  have := c_more ps [] (by simp)
  simpa using this

/- Bytes by their numbers, a quoted value -/

theorem q_codes (l : List UInt8) : qL (107 :: 61 :: l.flatMap pcL) = [([107], l)] := by
  have h : ∀ d ∈ (107 :: 61 :: l.flatMap pcL), neB 38 d = true := by
    intro d hd
    rcases List.mem_cons.1 hd with rfl | hd
    · decide
    · rcases List.mem_cons.1 hd with rfl | hd
      · decide
      · obtain ⟨c, _, hc⟩ := List.mem_flatMap.1 hd
        exact neB_of (pc_no hc).1
  have h1 : ∀ d ∈ ([107] : List UInt8), neB 61 d = true := by decide
  have hb : bfL 61 (107 :: 61 :: l.flatMap pcL) = [107] := bf_line (x := [107]) h1
  have ha : afL 61 (107 :: 61 :: l.flatMap pcL) = l.flatMap pcL := af_line (x := [107]) h1
  rw [qL_free h]
  unfold qP
  rw [if_neg (by simp), hb, ha, dec_pc, dec_free (by decide)]
  rfl
theorem esc_mem {l : List UInt8} {d : UInt8} (h : d ∈ escL l) : d ∈ l ∨ d = 92 := by
  unfold escL at h
  obtain ⟨c, hc, hd⟩ := List.mem_flatMap.1 h
  unfold esc1 at hd
  split at hd
  · rcases List.mem_cons.1 hd with rfl | hd
    · exact .inr rfl
    · obtain rfl : d = c := by simpa using hd
      exact .inl hc
  · obtain rfl : d = c := by simpa using hd
    exact .inl hc
theorem unq_quote {l : List UInt8} (h : l.any ctrlB = false) : unqV (quoteL l) = l := by
  unfold unqV unqL
  rw [quote_quoted h, if_pos rfl, quote_mid, unesc_esc]; rfl
theorem trim_quote (l : List UInt8) : trimL (quoteL l ++ [32]) = quoteL l := by
  rw [trim_end _ (by decide)]; exact quote_trim l
theorem c_quote {l : List UInt8} (h : l.any ctrlB = false) (h1 : ∀ d ∈ l, d ≠ 59) : cL ([32, 107, 61] ++ quoteL l ++ [32, 59]) = [([107], l)] := by
  have hf : [32, 107, 61] ++ quoteL l ++ [32, 59] = ([32, 107] ++ 61 :: (quoteL l ++ [32])) ++ 59 :: [] := by simp
  have hn : ∀ d ∈ [32, 107] ++ 61 :: (quoteL l ++ [32]), neB 59 d = true := by
    intro d hd
    rcases List.mem_append.1 hd with hd | hd
    · have : ∀ d ∈ ([32, 107] : List UInt8), neB 59 d = true := by decide
      exact this d hd
    · rcases List.mem_cons.1 hd with rfl | hd
      · decide
      · rcases List.mem_append.1 hd with hd | hd
        · unfold quoteL at hd
          rcases List.mem_cons.1 hd with rfl | hd
          · decide
          · rcases List.mem_append.1 hd with hd | hd
            · rcases esc_mem hd with hd | rfl
              · exact neB_of (h1 d hd)
              · decide
            · obtain rfl : d = 34 := by simpa using hd
              decide
        · obtain rfl : d = 32 := by simpa using hd
          decide
  have h61 : ∀ d ∈ ([32, 107] : List UInt8), neB 61 d = true := by decide
  have ht : trimL [32, 107] = [107] := by decide
  rw [hf, cL_app, cL_free hn, show cL [] = [] by decide, List.append_nil]
  unfold cP
  rw [hv_line h61, bf_line h61, af_line h61, trim_quote, ht, if_pos ⟨rfl, by simp⟩, unq_quote h]
  rfl

end Go.Proofs.YtgnpeggffeoenaaDoor
