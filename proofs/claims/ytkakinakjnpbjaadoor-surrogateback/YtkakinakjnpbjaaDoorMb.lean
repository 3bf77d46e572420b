/- What origins ask of those between, as lists of bytes, by plain reckoning: parts, words, which one counts: no condition beside each theorem's own. -/
import Derived.Test.YtkakinakjnpbjaaDoorMa
namespace Go.Proofs.YtkakinakjnpbjaaDoor
set_option linter.unusedVariables false
set_option linter.unusedSimpArgs false

def neB (c x : UInt8) : Bool := x != c
/-- How many bytes stand ahead of the first c. -/
def atN (c : UInt8) (l : List UInt8) : Nat := (l.takeWhile (neB c)).length
theorem atN_le (c : UInt8) (l : List UInt8) : atN c l ≤ l.length := takeWhile_le _ _
theorem tw_all {p : UInt8 → Bool} : ∀ {x : List UInt8}, (∀ c ∈ x, p c = true) → ∀ r, (x ++ r).takeWhile p = x ++ r.takeWhile p
  | [], _, r => rfl
  | c :: x, h, r => by
    rw [List.cons_append, List.takeWhile_cons, if_pos (h c (by simp)), tw_all (fun d hd => h d (by simp [hd])), List.cons_append]
theorem dw_all {p : UInt8 → Bool} : ∀ {x : List UInt8}, (∀ c ∈ x, p c = true) → ∀ r, (x ++ r).dropWhile p = r.dropWhile p
  | [], _, r => rfl
  | c :: x, h, r => by
    rw [List.cons_append, List.dropWhile_cons, if_pos (h c (by simp)), dw_all (fun d hd => h d (by simp [hd]))]
theorem tw_mem {p : UInt8 → Bool} : ∀ {l : List UInt8} {c : UInt8}, c ∈ l.takeWhile p → p c = true
  | [], c, h => by simp at h
  | d :: l, c, h => by
    rw [List.takeWhile_cons] at h
    split at h
    · rename_i hd
      rcases List.mem_cons.1 h with rfl | h
      · exact hd
      · exact tw_mem h
    · simp at h
theorem atN_line {c : UInt8} {x r : List UInt8} (h : ∀ d ∈ x, neB c d = true) : atN c (x ++ c :: r) = x.length := by
  unfold atN; rw [tw_all h, List.takeWhile_cons, if_neg (by simp [neB])]; simp
theorem atN_none {c : UInt8} {x : List UInt8} (h : ∀ d ∈ x, neB c d = true) : atN c x = x.length := by
  unfold atN; rw [takeWhile_all h]
theorem take_atN (c : UInt8) (l : List UInt8) : l.take (atN c l) = l.takeWhile (neB c) := (List.prefix_iff_eq_take.1 (List.takeWhile_prefix (neB c))).symm
theorem get_atN {c : UInt8} {l : List UInt8} (h : atN c l < l.length) : l[atN c l] = c := by
  have h1 : l.drop (atN c l) = l.dropWhile (neB c) := drop_takeWhile _ _
  have h2 : (l.dropWhile (neB c)).head? = some l[atN c l] := by
    rw [← h1, List.head?_drop, List.getElem?_eq_getElem h]
  have := dropWhile_head _ _ _ h2
  simpa [neB] using this
theorem parted {c : UInt8} {l : List UInt8} (h : atN c l < l.length) : l = l.take (atN c l) ++ c :: l.drop (atN c l + 1) := by
  conv => lhs; rw [← List.take_append_drop (atN c l) l, List.drop_eq_getElem_cons h, get_atN h]
theorem take_no {c : UInt8} (l : List UInt8) : ∀ d ∈ l.take (atN c l), neB c d = true := by
  rw [take_atN]; intro d hd; exact tw_mem hd
theorem none_no {c : UInt8} {l : List UInt8} (h : ¬ atN c l < l.length) : ∀ d ∈ l, neB c d = true := by
  have := atN_le c l
  have e : l.take (atN c l) = l := List.take_of_length_le (by omega)
  rw [← e]; exact take_no l

/-- What stands ahead of the first c, and behind it. -/
def bfL (c : UInt8) (l : List UInt8) : List UInt8 := l.takeWhile (neB c)
def afL (c : UInt8) (l : List UInt8) : List UInt8 := (l.dropWhile (neB c)).drop 1
def hvL (c : UInt8) (l : List UInt8) : Bool := decide (atN c l < l.length)
theorem bf_line {c : UInt8} {x r : List UInt8} (h : ∀ d ∈ x, neB c d = true) : bfL c (x ++ c :: r) = x := by
  unfold bfL; rw [tw_all h, List.takeWhile_cons, if_neg (by simp [neB])]; simp
theorem af_line {c : UInt8} {x r : List UInt8} (h : ∀ d ∈ x, neB c d = true) : afL c (x ++ c :: r) = r := by
  unfold afL; rw [dw_all h, List.dropWhile_cons, if_neg (by simp [neB])]; simp
theorem hv_line {c : UInt8} {x r : List UInt8} (h : ∀ d ∈ x, neB c d = true) : hvL c (x ++ c :: r) = true := by
  unfold hvL; rw [atN_line h]; simp
theorem hv_none {c : UInt8} {x : List UInt8} (h : ∀ d ∈ x, neB c d = true) : hvL c x = false := by
  unfold hvL; rw [atN_none h]; simp
theorem bf_le (c : UInt8) (l : List UInt8) : (bfL c l).length ≤ l.length := takeWhile_le _ _
theorem af_le (c : UInt8) (l : List UInt8) : (afL c l).length ≤ l.length := by
  unfold afL
  have := dropWhile_le (neB c) l
  rw [List.length_drop]; omega

/-- The parts between the bytes c. -/
def splB (c : UInt8) : List UInt8 → List (List UInt8)
  | [] => [[]]
  | x :: r => if x = c then [] :: splB c r else match splB c r with | [] => [[x]] | p :: ps => (x :: p) :: ps
theorem splB_ne (c : UInt8) (l : List UInt8) : splB c l ≠ [] := by
  cases l with
  | nil => simp [splB]
  | cons x r => unfold splB; split; · simp
                split <;> simp
theorem splB_free {c : UInt8} : ∀ {l : List UInt8}, (∀ d ∈ l, neB c d = true) → splB c l = [l]
  | [], _ => rfl
  | x :: r, h => by
    have hx : x ≠ c := by simpa [neB] using h x (by simp)
    rw [splB, if_neg hx, splB_free (fun d hd => h d (by simp [hd]))]
theorem splB_app (c : UInt8) : ∀ (a b : List UInt8), splB c (a ++ c :: b) = splB c a ++ splB c b
  | [], b => by
    show splB c (c :: b) = [] :: splB c b
    rw [splB, if_pos rfl]
  | x :: a, b => by
    rw [List.cons_append, splB, splB, splB_app c a b]
    split
    · rfl
    · cases h : splB c a with
      | nil => exact absurd h (splB_ne c a)
      | cons p ps => rfl
theorem splB_yes {c : UInt8} {l : List UInt8} (h : atN c l < l.length) : splB c l = l.take (atN c l) :: splB c (l.drop (atN c l + 1)) := by
  conv => lhs; rw [parted h]
  rw [splB_app, splB_free (take_no l)]; rfl
theorem splB_no {c : UInt8} {l : List UInt8} (h : ¬ atN c l < l.length) : splB c l = [l] := splB_free (none_no h)
theorem splB_len (c : UInt8) : ∀ l : List UInt8, (splB c l).length ≤ l.length + 1
  | [] => by simp [splB]
  | x :: r => by
    have ih := splB_len c r
    unfold splB; split
    · simp; omega
    · split
      · simp
      · rename_i h; rw [h] at ih; simp at ih ⊢; omega
theorem splB_part (c : UInt8) : ∀ (l : List UInt8), ∀ p ∈ splB c l, p.length ≤ l.length
  | [], p, hp => by simp [splB] at hp; simp [hp]
  | x :: r, p, hp => by
    unfold splB at hp; split at hp
    · rcases List.mem_cons.1 hp with rfl | hp
      · simp
      · have := splB_part c r p hp; simp; omega
    · split at hp
      · obtain rfl : p = [x] := by simpa using hp
        simp
      · rename_i q qs h
        rcases List.mem_cons.1 hp with rfl | hp
        · have := splB_part c r q (by rw [h]; simp); simp; omega
        · have := splB_part c r p (by rw [h]; simp [hp]); simp; omega
/- Words -/

abbrev W3 := List UInt8 × List UInt8 × List UInt8
def contL : List UInt8 := [99, 111, 110, 116, 101, 110, 116]
def esiL : List UInt8 := [69, 83, 73, 47, 49, 46, 48]
def tokO (c : List UInt8) : Option (List UInt8) := if tokL c then some c else none
def valO (c : List UInt8) : Option (List UInt8) := if tokL c then some c else unqL c
/-- What stands ahead of the one byte b, and what is read of what stands behind it. -/
def takP (rd : List UInt8 → Option (List UInt8)) : List (List UInt8) → Option (List UInt8 × List UInt8)
  | [a] => some (a, [])
  | [a, c] => (rd c).map fun v => (a, v)
  | _ => none
def takL (b : UInt8) (rd : List UInt8 → Option (List UInt8)) (s : List UInt8) : Option (List UInt8 × List UInt8) := (splitL b s).bind (takP rd)
def nameP (d : List UInt8) (q : List UInt8 × List UInt8) : Option W3 := if tokL q.1 then some (lowL q.1, q.2, d) else none
def wordP (p : List UInt8) : Option W3 := (takL 59 tokO p).bind fun q => (takL 61 valO q.1).bind (nameP q.2)
def allP : List (List UInt8) → Option (List W3)
  | [] => some []
  | p :: ps => if p = [] then allP ps else (wordP p).bind fun x => (allP ps).map (x :: ·)
def rdL (s : List UInt8) : Option (List W3) := (splitL 44 s).bind allP

theorem allP_app : ∀ (a b : List (List UInt8)), allP (a ++ b) = (allP a).bind fun x => (allP b).map (x ++ ·)
  | [], b => by simp [allP]
  | p :: a, b => by
    rw [List.cons_append, allP, allP, allP_app a b]
    split
    · rfl
    · cases wordP p with
      | none => rfl
      | some x =>
        cases allP a with
        | none => rfl
        | some y => cases allP b <;> rfl
theorem allP_skip {P : List (List UInt8)} {k : Nat} {L : List W3} (hk : k < P.length) (h : allP (P.take k) = some L) (he : P[k] = []) : allP (P.take (k + 1)) = some L := by
  rw [List.take_succ_eq_append_getElem hk, allP_app, h, he]
  simp [allP]
theorem allP_more {P : List (List UInt8)} {k : Nat} {L : List W3} {x : W3} (hk : k < P.length) (h : allP (P.take k) = some L) (he : P[k] ≠ []) (hw : wordP P[k] = some x) : allP (P.take (k + 1)) = some (L ++ [x]) := by
  rw [List.take_succ_eq_append_getElem hk, allP_app, h]
  simp [allP, he, hw]
theorem allP_bad {P : List (List UInt8)} {k : Nat} {L : List W3} (hk : k < P.length) (h : allP (P.take k) = some L) (he : P[k] ≠ []) (hw : wordP P[k] = none) : allP P = none := by
  have e : P = P.take k ++ P[k] :: P.drop (k + 1) := by rw [← List.drop_eq_getElem_cons hk, List.take_append_drop]
  rw [e, allP_app, h]
  simp [allP, he, hw]
theorem allP_len : ∀ {P : List (List UInt8)} {L : List W3}, allP P = some L → L.length ≤ P.length
  | [], L, h => by simp [allP] at h; subst h; simp
  | p :: ps, L, h => by
    rw [allP] at h
    split at h
    · have := allP_len h; simp; omega
    · cases hw : wordP p with
      | none => rw [hw] at h; cases h
      | some x =>
        rw [hw] at h
        cases ha : allP ps with
        | none => rw [ha] at h; cases h
        | some M =>
          rw [ha] at h
          have h1 := allP_len ha
          obtain rfl : x :: M = L := by simpa using h
          simp; omega

/- What counts -/

def forB (d : List UInt8) (x : W3) : Bool := x.1 == contL && x.2.2 == d
def hasW (v : List UInt8) : Bool := (splB 32 v).contains esiL
/-- Whether what counts asks, word by word. -/
def stepA (d : List UInt8) (q : Bool × Bool) (x : W3) : Bool × Bool :=
  if forB d x then (true, hasW x.2.1) else if forB [] x && !q.1 then (q.1, hasW x.2.1) else q
def foldA (d : List UInt8) (L : List W3) : Bool × Bool := L.foldl (stepA d) (false, false)
def cntL (L : List W3) (d : List UInt8) : Option W3 := (L.reverse.find? (forB d)).or (L.reverse.find? (forB []))
def askL (s d : List UInt8) : Bool := match rdL s with | none => false | some L => (foldA d L).2
theorem foldA_snoc (d : List UInt8) (L : List W3) (x : W3) : foldA d (L ++ [x]) = stepA d (foldA d L) x := by unfold foldA; rw [List.foldl_append]; rfl
theorem foldA_is (d : List UInt8) (L : List W3) : foldA d L = ((L.reverse.find? (forB d)).isSome, match cntL L d with | some x => hasW x.2.1 | none => false) := by
  induction h : L.length generalizing L with
  | zero => obtain rfl : L = [] := List.length_eq_zero_iff.1 h; rfl
  | succ n ih =>
    obtain ⟨M, x, rfl⟩ : ∃ M x, L = M ++ [x] := ⟨L.dropLast, L.getLast (by intro e; simp [e] at h), (List.dropLast_concat_getLast _).symm⟩
    rw [foldA_snoc, ih M (by simpa using h)]
    unfold stepA cntL
    rw [List.reverse_append, List.reverse_cons, List.reverse_nil, List.nil_append, List.singleton_append, List.find?_cons, List.find?_cons]
    cases h1 : forB d x with
    | true => simp
    | false =>
      cases h2 : forB [] x with
      | false => simp
      | true => cases h3 : M.reverse.find? (forB d) <;> simp
theorem askL_is (s d : List UInt8) : askL s d = match rdL s with | none => false | some L => (match cntL L d with | some x => hasW x.2.1 | none => false) := by
  unfold askL; cases rdL s with
  | none => rfl
  | some L => simp only [foldA_is]
theorem ask_other {s t d : List UInt8} {L : List W3} {x : W3} (h : rdL s = some L) (g : rdL t = some (L ++ [x])) (h1 : x.2.2 ≠ d) (h2 : x.2.2 ≠ []) : askL t d = askL s d := by
  unfold askL
  rw [h, g]
  simp only [foldA_snoc]
  unfold stepA forB
  have e1 : (x.2.2 == d) = false := by simpa using h1
  have e2 : (x.2.2 == []) = false := by simpa using h2
  rw [e1, e2]
  simp

/- Parts, one behind the other -/

theorem sp_go (b : UInt8) : ∀ (l : List UInt8) (st : Nat) (acc : List UInt8) (P : List (List UInt8)), sp b st acc l = some P → ∀ r, sp b st acc (l ++ b :: r) = (sp b 0 [] r).map (P ++ ·)
  | [], st, acc, P, h, r => by
    rw [sp] at h
    split at h
    · rename_i hst; subst hst
      obtain rfl := Option.some.inj h
      rw [List.nil_append, sp_by]; rfl
    · cases h
  | c :: l, 0, acc, P, h, r => by
    rw [List.cons_append, sp]
    rw [sp] at h
    split
    · rename_i hc
      rw [if_pos hc] at h
      cases hl : sp b 0 [] l with
      | none => rw [hl] at h; cases h
      | some Q =>
        rw [hl] at h
        obtain rfl := Option.some.inj h
        rw [sp_go b l 0 [] Q hl r]
        cases sp b 0 [] r <;> rfl
    · rename_i hc
      rw [if_neg hc] at h
      split
      · rename_i hq; rw [if_pos hq] at h; exact sp_go b l 1 _ P h r
      · rename_i hq; rw [if_neg hq] at h; exact sp_go b l 0 _ P h r
  | c :: l, 1, acc, P, h, r => by
    rw [List.cons_append, sp]
    rw [sp] at h
    split
    · rename_i hc; rw [if_pos hc] at h; exact sp_go b l 0 _ P h r
    · rename_i hc
      rw [if_neg hc] at h
      split
      · rename_i hq; rw [if_pos hq] at h; exact sp_go b l 2 _ P h r
      · rename_i hq; rw [if_neg hq] at h; exact sp_go b l 1 _ P h r
  | c :: l, n + 2, acc, P, h, r => by
    rw [List.cons_append, sp]
    · rw [sp] at h
      · exact sp_go b l 1 _ P h r
      · omega
      · omega
    · omega
    · omega
theorem trimL_snoc (l : List UInt8) {c : UInt8} (hc : blankB c = true) : trimL (l ++ [c]) = trimL l := by
  unfold trimL
  rw [dropWhile_append_one l c hc]
  split
  · rename_i h; rw [h]
  · rw [List.reverse_append]
    show (List.dropWhile blankB (c :: (l.dropWhile blankB).reverse)).reverse = _
    rw [List.dropWhile_cons, if_pos hc]
theorem trimL_cons (l : List UInt8) {c : UInt8} (hc : blankB c = true) : trimL (c :: l) = trimL l := by
  unfold trimL; rw [List.dropWhile_cons, if_pos hc]
theorem sp_lead (b : UInt8) : ∀ (l : List UInt8) (st : Nat) (acc : List UInt8), sp b st (32 :: acc) l = sp b st acc l
  | [], st, acc => by rw [sp, sp, trimL_cons acc (by decide)]
  | c :: l, 0, acc => by rw [sp, sp, trimL_cons acc (by decide), List.cons_append, sp_lead b l 1, sp_lead b l 0]
  | c :: l, 1, acc => by rw [sp, sp, List.cons_append, sp_lead b l 1, sp_lead b l 0, sp_lead b l 2]
  | c :: l, n + 2, acc => by
    rw [sp, sp, List.cons_append, sp_lead b l 1]
    · omega
    · omega
    · omega
    · omega
theorem sp_bl {b : UInt8} (hb : b ≠ 32) (r : List UInt8) : sp b 0 [] (32 :: r) = sp b 0 [] r := by
  rw [sp_else _ _ (fun e => hb e.symm) (by decide)]; exact sp_lead b r 0 []
/-- A blank at the end is trimmed. -/
theorem sp_tail (b : UInt8) (hb : b ≠ 32) : ∀ (l : List UInt8) (st : Nat) (acc : List UInt8) (P : List (List UInt8)), sp b st acc l = some P → sp b st acc (l ++ [32]) = some P
  | [], st, acc, P, h => by
    rw [sp] at h
    split at h
    · rename_i hst; subst hst
      obtain rfl := Option.some.inj h
      rw [List.nil_append, sp_else _ _ (fun e => hb e.symm) (by decide), sp_nil, trimL_snoc _ (by decide)]
    · cases h
  | c :: l, 0, acc, P, h => by
    rw [List.cons_append, sp]
    rw [sp] at h
    split
    · rename_i hc
      rw [if_pos hc] at h
      cases hl : sp b 0 [] l with
      | none => rw [hl] at h; cases h
      | some Q =>
        rw [hl] at h
        obtain rfl := Option.some.inj h
        rw [sp_tail b hb l 0 [] Q hl]; rfl
    · rename_i hc
      rw [if_neg hc] at h
      split
      · rename_i hq; rw [if_pos hq] at h; exact sp_tail b hb l 1 _ P h
      · rename_i hq; rw [if_neg hq] at h; exact sp_tail b hb l 0 _ P h
  | c :: l, 1, acc, P, h => by
    rw [List.cons_append, sp]
    rw [sp] at h
    split
    · rename_i hc; rw [if_pos hc] at h; exact sp_tail b hb l 0 _ P h
    · rename_i hc
      rw [if_neg hc] at h
      split
      · rename_i hq; rw [if_pos hq] at h; exact sp_tail b hb l 2 _ P h
      · rename_i hq; rw [if_neg hq] at h; exact sp_tail b hb l 1 _ P h
  | c :: l, n + 2, acc, P, h => by
    rw [List.cons_append, sp]
    · rw [sp] at h
      · exact sp_tail b hb l 1 _ P h
      · omega
      · omega
    · omega
    · omega

theorem split44 (l : List UInt8) : splitL 44 l = sp 44 0 [] l := by rw [splitL, if_neg (by decide)]
theorem split59 (l : List UInt8) : splitL 59 l = sp 59 0 [] l := by rw [splitL, if_neg (by decide)]
theorem split61 (l : List UInt8) : splitL 61 l = sp 61 0 [] l := by rw [splitL, if_neg (by decide)]
theorem rdL_nil : rdL [] = some [] := by decide
theorem rdL_of {s : List UInt8} {L : List W3} (h : rdL s = some L) : ∃ P, sp 44 0 [] s = some P ∧ allP P = some L := by
  unfold rdL at h
  rw [split44] at h
  cases hs : sp 44 0 [] s with
  | none => rw [hs] at h; cases h
  | some P => rw [hs] at h; exact ⟨P, rfl, h⟩
theorem rd_comma {a b : List UInt8} {A B : List W3} (ha : rdL a = some A) (hb : rdL b = some B) : rdL (a ++ 44 :: b) = some (A ++ B) := by
  obtain ⟨P, h1, h2⟩ := rdL_of ha
  obtain ⟨Q, h3, h4⟩ := rdL_of hb
  unfold rdL
  rw [split44, sp_go 44 a 0 [] P h1 b, h3]
  show allP (P ++ Q) = _
  rw [allP_app, h2, h4]; rfl
theorem rd_ahead {b : List UInt8} {B : List W3} (hb : rdL b = some B) : rdL (32 :: b) = some B := by
  unfold rdL at *
  rw [split44, sp_bl (by decide), ← split44]; exact hb
theorem rd_behind {a : List UInt8} {A : List W3} (ha : rdL a = some A) : rdL (a ++ [32]) = some A := by
  obtain ⟨P, h1, h2⟩ := rdL_of ha
  unfold rdL
  rw [split44, sp_tail 44 (by decide) a 0 [] P h1]; exact h2
theorem rd_join {a b : List UInt8} {A B : List W3} (ha : rdL a = some A) (hb : rdL b = some B) : rdL (a ++ [32, 44, 32] ++ b) = some (A ++ B) := by
  have := rd_comma (rd_behind ha) (rd_ahead hb)
  simpa using this
theorem rd_next {a b : List UInt8} {A B : List W3} (ha : rdL a = some A) (hb : rdL b = some B) : rdL (a ++ [32, 44, 44, 32] ++ b) = some (A ++ B) := by
  have := rd_comma (rd_behind ha) (rd_comma rdL_nil (rd_ahead hb))
  simpa using this
theorem rd_more {a b : List UInt8} {A B : List W3} (ha : rdL a = some A) (hb : rdL b = some B) : rdL (a ++ [44, 32] ++ b) = some (A ++ B) := by
  have := rd_comma ha (rd_ahead hb)
  simpa using this

/- Words that are written -/

def nvL (n v : List UInt8) : List UInt8 := n ++ (if v = [] then [] else 61 :: quoteL v)
def wrL (x : W3) : List UInt8 := nvL x.1 x.2.1 ++ (if x.2.2 = [] then [] else [32, 59, 32] ++ x.2.2)
def okW (x : W3) : Bool := tokL x.1 && (x.2.2 == [] || tokL x.2.2) && !x.2.1.any ctrlB
def loW (x : W3) : W3 := (lowL x.1, x.2.1, x.2.2)
theorem tok_mem {l : List UInt8} (h : tokL l = true) : l ≠ [] ∧ ∀ c ∈ l, wordB c = true := by
  unfold tokL at h
  rw [Bool.and_eq_true, Bool.not_eq_true', List.isEmpty_eq_false_iff, List.all_eq_true] at h
  exact h
theorem word_not {c : UInt8} (h : wordB c = true) : c ≠ 44 ∧ c ≠ 34 ∧ c ≠ 59 ∧ c ≠ 61 ∧ blankB c = false := by
  have := u8_all (fun c => !wordB c || (c != 44 && c != 34 && c != 59 && c != 61 && !blankB c)) (by decide +kernel) c
  rw [h] at this
  simp at this
  obtain ⟨⟨⟨⟨h1, h2⟩, h3⟩, h4⟩, h5⟩ := this
  exact ⟨h1, h2, h3, h4, h5⟩
theorem tok_trim {l : List UInt8} (h : tokL l = true) : trimL l = l := by
  have hm := (tok_mem h).2
  apply trimL_same
  · intro c hc; exact (word_not (hm c (List.mem_of_mem_head? hc))).2.2.2.2
  · intro c hc; exact (word_not (hm c (List.mem_of_mem_getLast? hc))).2.2.2.2
theorem qlen_esc2 (l r : List UInt8) : qlen (escL l ++ 34 :: r) = some (escL l).length := by
  induction l with
  | nil => simp [escL, qlen_quote]
  | cons c l ih =>
    rw [escL_cons, List.append_assoc]
    cases h : escB c with
    | true =>
      rw [esc1_yes h]
      show qlen (92 :: (c :: (escL l ++ 34 :: r))) = _
      rw [qlen_back, List.drop_one, List.tail_cons, ih]
      simp
    | false =>
      rw [esc1_no h]
      show qlen (c :: (escL l ++ 34 :: r)) = _
      rw [qlen_else _ (esc_ne h).1 (esc_ne h).2, ih]
      simp
theorem sp_quoted {b : UInt8} (hb : (34 : UInt8) ≠ b) (v acc r : List UInt8) : sp b 0 acc (quoteL v ++ r) = sp b 0 (acc ++ quoteL v) r := by
  have e : quoteL v ++ r = 34 :: (escL v ++ 34 :: r) := by simp [quoteL]
  rw [e, sp_open _ _ hb, sp_in b _ _ _ (Nat.le_refl _), qlen_esc2]
  simp only
  congr 1
  · unfold quoteL
    rw [show escL v ++ 34 :: r = (escL v ++ [34]) ++ r by simp, List.take_append_of_le_length (by simp), List.take_of_length_le (by simp)]
    simp
  · rw [show escL v ++ 34 :: r = (escL v ++ [34]) ++ r by simp, List.drop_append_of_le_length (by simp), List.drop_eq_nil_of_le (by simp)]
    simp
theorem sp_nv {b : UInt8} (h1 : b ≠ 34) (h2 : b ≠ 61) {n : List UInt8} (hn : ∀ c ∈ n, c ≠ b ∧ c ≠ 34) (v acc r : List UInt8) : sp b 0 acc (nvL n v ++ r) = sp b 0 (acc ++ nvL n v) r := by
  unfold nvL
  split
  · rw [List.append_nil, sp_plain n acc r hn]
  · rw [List.append_assoc, sp_plain n acc _ hn, List.cons_append, sp_else _ _ (fun e => h2 e.symm) (by decide), sp_quoted (fun e => h1 e.symm)]
    simp
theorem nv_trim {n : List UInt8} (h : tokL n = true) (v : List UInt8) : trimL (nvL n v) = nvL n v := by
  obtain ⟨h0, hm⟩ := tok_mem h
  unfold nvL
  split
  · rw [List.append_nil, tok_trim h]
  · apply trimL_same
    · intro c hc
      cases n with
      | nil => exact absurd rfl h0
      | cons d n => simp at hc; subst hc; exact (word_not (hm d (by simp))).2.2.2.2
    · intro c hc
      have : c = 34 := by
        rw [show n ++ 61 :: quoteL v = (n ++ 61 :: 34 :: escL v) ++ [34] by simp [quoteL], List.getLast?_append] at hc
        simpa using hc.symm
      subst this; decide
theorem wr_trim {x : W3} (h : okW x = true) : trimL (wrL x) = wrL x := by
  obtain ⟨n, v, d⟩ := x
  unfold okW at h
  simp only [Bool.and_eq_true, Bool.or_eq_true] at h
  obtain ⟨⟨hn, hd⟩, hv⟩ := h
  unfold wrL
  simp only
  split
  · rw [List.append_nil, nv_trim hn]
  · rename_i hd0
    rcases hd with hd | hd
    · exact absurd (by simpa using hd) hd0
    obtain ⟨h0, hm⟩ := tok_mem hn
    obtain ⟨g0, gm⟩ := tok_mem hd
    apply trimL_same
    · intro c hc
      cases n with
      | nil => exact absurd rfl h0
      | cons e n => simp [nvL] at hc; subst hc; exact (word_not (hm e (by simp))).2.2.2.2
    · intro c hc
      rw [← List.append_assoc, List.getLast?_append] at hc
      cases hl : d.getLast? with
      | none => exact absurd (List.getLast?_eq_none_iff.1 hl) g0
      | some e =>
        rw [hl] at hc
        obtain rfl : e = c := by simpa using hc
        exact (word_not (gm e (List.mem_of_mem_getLast? hl))).2.2.2.2
theorem wr_parts {x : W3} (h : okW x = true) : sp 44 0 [] (wrL x) = some [wrL x] := by
  have ht := wr_trim h
  obtain ⟨n, v, d⟩ := x
  unfold okW at h
  simp only [Bool.and_eq_true, Bool.or_eq_true] at h
  obtain ⟨⟨hn, hd⟩, hv⟩ := h
  have hm := (tok_mem hn).2
  have e : sp 44 0 [] (wrL (n, v, d)) = sp 44 0 (wrL (n, v, d)) [] := by
    unfold wrL
    simp only
    rw [sp_nv (by decide) (by decide) (fun c hc => ⟨(word_not (hm c hc)).1, (word_not (hm c hc)).2.1⟩)]
    split
    · simp
    · rename_i hd0
      rcases hd with hd | hd
      · exact absurd (by simpa using hd) hd0
      have gm := (tok_mem hd).2
      have := sp_plain (b := 44) ([32, 59, 32] ++ d) ([] ++ nvL n v) [] (by
        intro c hc
        rcases List.mem_append.1 hc with hc | hc
        · simp at hc; rcases hc with rfl | rfl | rfl <;> decide
        · exact ⟨(word_not (gm c hc)).1, (word_not (gm c hc)).2.1⟩)
      rw [List.append_nil] at this
      rw [this]
      simp
  rw [e, sp_nil, ht]
theorem tok_quote (v : List UInt8) : tokL (quoteL v) = false := by
  unfold tokL quoteL; rw [List.all_cons, show wordB 34 = false by decide]; simp
theorem nv_word {n v : List UInt8} (hn : tokL n = true) (hv : v.any ctrlB = false) : takL 61 valO (nvL n v) = some (n, v) := by
  have hm := (tok_mem hn).2
  unfold takL nvL
  rw [split61]
  split
  · rename_i h0; subst h0
    rw [List.append_nil, sp_whole (fun c hc => ⟨(word_not (hm c hc)).2.2.2.1, (word_not (hm c hc)).2.1⟩), tok_trim hn]; rfl
  · rw [sp_plain n [] _ (fun c hc => ⟨(word_not (hm c hc)).2.2.2.1, (word_not (hm c hc)).2.1⟩), sp_by, List.nil_append, quote_one (by decide), tok_trim hn]
    show (valO (quoteL v)).map _ = _
    unfold valO
    rw [if_neg (by rw [tok_quote]; decide), back hv]; rfl
theorem wr_word {x : W3} (h : okW x = true) : wordP (wrL x) = some (loW x) := by
  obtain ⟨n, v, d⟩ := x
  unfold okW at h
  simp only [Bool.and_eq_true, Bool.or_eq_true, Bool.not_eq_true'] at h
  obtain ⟨⟨hn, hd⟩, hv⟩ := h
  have hm := (tok_mem hn).2
  have h1 : takL 59 tokO (wrL (n, v, d)) = some (nvL n v, d) := by
    unfold takL wrL
    simp only
    rw [split59, sp_nv (by decide) (by decide) (fun c hc => ⟨(word_not (hm c hc)).2.2.1, (word_not (hm c hc)).2.1⟩), List.nil_append]
    split
    · rename_i h0; subst h0
      rw [sp_nil, nv_trim hn]; rfl
    · rename_i hd0
      rcases hd with hd | hd
      · exact absurd (by simpa using hd) hd0
      have gm := (tok_mem hd).2
      rw [show [32, 59, 32] ++ d = 32 :: 59 :: 32 :: d from rfl, sp_else _ _ (by decide) (by decide), sp_by, sp_bl (by decide), sp_whole (fun c hc => ⟨(word_not (gm c hc)).2.2.1, (word_not (gm c hc)).2.1⟩), tok_trim hd, trimL_snoc _ (by decide), nv_trim hn]
      show (tokO d).map _ = _
      unfold tokO
      rw [if_pos hd]; rfl
  unfold wordP
  rw [h1]
  show (takL 61 valO (nvL n v)).bind (nameP d) = _
  rw [nv_word hn hv]
  show nameP d (n, v) = _
  unfold nameP
  rw [if_pos hn]; rfl
theorem wr_ne {x : W3} (h : okW x = true) : wrL x ≠ [] := by
  obtain ⟨n, v, d⟩ := x
  unfold okW at h
  simp only [Bool.and_eq_true] at h
  have := (tok_mem h.1.1).1
  unfold wrL nvL
  simp [this]
theorem rd_written {x : W3} (h : okW x = true) : rdL (wrL x) = some [loW x] := by
  unfold rdL
  rw [split44, wr_parts h]
  show allP [wrL x] = _
  rw [allP, if_neg (wr_ne h), wr_word h]; rfl

/-- Words that are written, one behind the other. -/
def allL : List W3 → List UInt8
  | [] => []
  | x :: L => L.foldl (fun a y => a ++ [32, 44, 44, 32] ++ wrL y) (wrL x)
def nextL (a : List UInt8) (x : W3) : List UInt8 := (if a = [] then [] else a ++ [32, 44, 44, 32]) ++ wrL x
theorem rd_nextL {a : List UInt8} {L : List W3} {x : W3} (h : rdL a = some L) (ho : okW x = true) (h0 : a = [] → L = []) : rdL (nextL a x) = some (L ++ [loW x]) ∧ (nextL a x = [] → L ++ [loW x] = []) := by
  refine ⟨?_, fun e => ?_⟩
  · unfold nextL
    split
    · rename_i ha; rw [h0 ha, List.nil_append, List.nil_append]; exact rd_written ho
    · exact rd_next h (rd_written ho)
  · unfold nextL at e
    exact absurd (List.append_eq_nil_iff.1 e).2 (wr_ne ho)

/- Words of a text, parted by blanks, byte by byte -/

def hasA (now l : List UInt8) : Bool := match splB 32 l with | [] => false | p :: ps => (now ++ p) == esiL || ps.contains esiL
theorem hasA_all (l : List UInt8) : hasA [] l = hasW l := by
  unfold hasA hasW
  cases splB 32 l with
  | nil => rfl
  | cons p ps =>
    simp only [List.nil_append, List.contains_cons]
    rw [Bool.beq_comm]
theorem hasA_nil (now : List UInt8) : hasA now [] = (now == esiL) := by
  unfold hasA splB; simp
theorem hasA_blank (now r : List UInt8) : hasA now (32 :: r) = (now == esiL || hasA [] r) := by
  unfold hasA
  rw [splB, if_pos rfl]
  simp only [List.append_nil]
  cases h : splB 32 r with
  | nil => exact absurd h (splB_ne _ _)
  | cons p ps =>
    simp only [List.nil_append, List.contains_cons]
    congr 1
    rw [show (p == esiL) = (esiL == p) from Bool.beq_comm]
theorem hasA_more {c : UInt8} (h : c ≠ 32) (now r : List UInt8) : hasA now (c :: r) = hasA (now ++ [c]) r := by
  unfold hasA
  rw [splB, if_neg h]
  cases hs : splB 32 r with
  | nil => exact absurd hs (splB_ne _ _)
  | cons p ps => simp

/- Lengths -/

theorem nv_len (n v : List UInt8) : (nvL n v).length ≤ n.length + 2 * v.length + 3 := by
  unfold nvL
  have := escL_le v
  split
  · simp; omega
  · simp [quoteL]; omega
theorem wr_len (x : W3) : (wrL x).length ≤ x.1.length + 2 * x.2.1.length + x.2.2.length + 6 := by
  unfold wrL
  have := nv_len x.1 x.2.1
  split
  · simp; omega
  · simp; omega
theorem next_len (a : List UInt8) (x : W3) : (nextL a x).length ≤ a.length + 4 + (wrL x).length := by
  unfold nextL
  split
  · simp
  · simp; omega

end Go.Proofs.YtkakinakjnpbjaaDoor
