/- Heads as lists of bytes, by plain reckoning: their lines, their fields, their end: no condition beside each theorem's own. -/
import Derived.Test.YteeipaijdoneeaaWk
namespace Go.Proofs.Yteeipaijdoneeaa
set_option linter.unusedVariables false
set_option linter.unusedSimpArgs false

def neB (c x : UInt8) : Bool := x != c
/-- How many bytes stand ahead of the first c. -/
def atN (c : UInt8) (l : List UInt8) : Nat := (l.takeWhile (neB c)).length
theorem atN_le (c : UInt8) (l : List UInt8) : atN c l ≤ l.length := takeWhile_le _ _
theorem tw_all {p : UInt8 → Bool} : ∀ {x : List UInt8}, (∀ c ∈ x, p c = true) → ∀ r, (x ++ r).takeWhile p = x ++ r.takeWhile p
  | [], _, r => rfl
  | c :: x, h, r => by
    rw [List.cons_append, List.takeWhile_cons, if_pos (h c (by simp)), tw_all (fun d hd => h d (by simp [hd])), List.cons_append]
theorem dw_all {p : UInt8 → Bool} : ∀ {x : List UInt8}, (∀ c ∈ x, p c = true) → ∀ r, (x ++ r).dropWhile p = r.dropWhile p
  | [], _, r => rfl
  | c :: x, h, r => by
    rw [List.cons_append, List.dropWhile_cons, if_pos (h c (by simp)), dw_all (fun d hd => h d (by simp [hd]))]
theorem atN_line {c : UInt8} {x r : List UInt8} (h : ∀ d ∈ x, neB c d = true) : atN c (x ++ c :: r) = x.length := by
  unfold atN; rw [tw_all h, List.takeWhile_cons, if_neg (by simp [neB])]; simp
theorem atN_none {c : UInt8} {x : List UInt8} (h : ∀ d ∈ x, neB c d = true) : atN c x = x.length := by
  unfold atN; rw [takeWhile_all h]
theorem tw_mem {p : UInt8 → Bool} : ∀ {l : List UInt8} {c : UInt8}, c ∈ l.takeWhile p → p c = true
  | [], c, h => by simp at h
  | d :: l, c, h => by
    rw [List.takeWhile_cons] at h
    split at h
    · rename_i hd
      rcases List.mem_cons.1 h with rfl | h
      · exact hd
      · exact tw_mem h
    · simp at h
theorem take_atN (c : UInt8) (l : List UInt8) : l.take (atN c l) = l.takeWhile (neB c) := (List.prefix_iff_eq_take.1 (List.takeWhile_prefix (neB c))).symm
theorem get_atN {c : UInt8} {l : List UInt8} (h : atN c l < l.length) : l[atN c l] = c := by
  have h1 : l.drop (atN c l) = l.dropWhile (neB c) := drop_takeWhile _ _
  have h2 : (l.dropWhile (neB c)).head? = some l[atN c l] := by
    rw [← h1, List.head?_drop, List.getElem?_eq_getElem h]
  have := dropWhile_head _ _ _ h2
  simpa [neB] using this
theorem parted {c : UInt8} {l : List UInt8} (h : atN c l < l.length) : l = l.take (atN c l) ++ c :: l.drop (atN c l + 1) := by
  conv => lhs; rw [← List.take_append_drop (atN c l) l, List.drop_eq_getElem_cons h, get_atN h]
theorem take_no {c : UInt8} (l : List UInt8) : ∀ d ∈ l.take (atN c l), neB c d = true := by
  rw [take_atN]; intro d hd; exact tw_mem hd
theorem none_no {c : UInt8} {l : List UInt8} (h : ¬ atN c l < l.length) : ∀ d ∈ l, neB c d = true := by
  have := atN_le c l
  have e : l.take (atN c l) = l := List.take_of_length_le (by omega)
  rw [← e]; exact take_no l

/-- A line without a byte 13 at its end. -/
def bareL (l : List UInt8) : List UInt8 := if l.getLast? = some 13 then l.dropLast else l
theorem bareL_le (l : List UInt8) : (bareL l).length ≤ l.length := by
  unfold bareL; split
  · rw [List.length_dropLast]; omega
  · exact Nat.le_refl _
theorem bareL_snoc (x : List UInt8) : bareL (x ++ [13]) = x := by unfold bareL; simp
theorem bareL_no {x : List UInt8} (h : ∀ c ∈ x, neB 13 c = true) : bareL x = x := by
  unfold bareL
  rw [if_neg]
  intro e
  have := h 13 (List.mem_of_getLast? e)
  simp [neB] at this

/-- The lines of a text, and behind how many bytes each ends. -/
def lnF : Nat → Nat → List UInt8 → List (List UInt8 × Nat)
  | 0, _, _ => []
  | n + 1, a, l => if atN 10 l < l.length then (bareL (l.take (atN 10 l)), a + atN 10 l + 1) :: lnF n (a + atN 10 l + 1) (l.drop (atN 10 l + 1)) else []
theorem lnF_same : ∀ (n m a : Nat) (l : List UInt8), l.length ≤ n → l.length ≤ m → lnF n a l = lnF m a l
  | 0, 0, _, _, _, _ => rfl
  | 0, m + 1, a, l, h, _ => by
    have : l = [] := List.eq_nil_of_length_eq_zero (by omega)
    subst this; simp [lnF]
  | n + 1, 0, a, l, _, h => by
    have : l = [] := List.eq_nil_of_length_eq_zero (by omega)
    subst this; simp [lnF]
  | n + 1, m + 1, a, l, h, g => by
    rw [lnF, lnF]
    split
    · rw [lnF_same n m _ _ (by rw [List.length_drop]; omega) (by rw [List.length_drop]; omega)]
    · rfl
def lns (a : Nat) (l : List UInt8) : List (List UInt8 × Nat) := lnF l.length a l
theorem lns_yes {a : Nat} {l : List UInt8} (h : atN 10 l < l.length) : lns a l = (bareL (l.take (atN 10 l)), a + atN 10 l + 1) :: lns (a + atN 10 l + 1) (l.drop (atN 10 l + 1)) := by
  obtain ⟨n, hn⟩ : ∃ n, l.length = n + 1 := ⟨l.length - 1, by omega⟩
  unfold lns
  rw [hn, lnF, if_pos (by omega), lnF_same n _ _ _ (by rw [List.length_drop]; omega) (Nat.le_refl _)]
theorem lns_no {a : Nat} {l : List UInt8} (h : ¬ atN 10 l < l.length) : lns a l = [] := by
  unfold lns
  cases hn : l.length with
  | zero => rfl
  | succ n => rw [lnF, if_neg (by omega)]
theorem lns_nil (a : Nat) : lns a [] = [] := rfl
theorem lns_line {a : Nat} {x r : List UInt8} (h : ∀ d ∈ x, neB 10 d = true) : lns a (x ++ 10 :: r) = (bareL x, a + x.length + 1) :: lns (a + x.length + 1) r := by
  have e : atN 10 (x ++ 10 :: r) = x.length := atN_line h
  rw [lns_yes (by rw [e]; simp), e]
  congr 2
  · simp
  · rw [List.drop_append, List.drop_of_length_le (by omega)]; simp

/-- What holds of texts without a line and of a line ahead of any text holds of all. -/
theorem by_lines {p : List UInt8 → Prop} (h0 : ∀ l, (∀ d ∈ l, neB 10 d = true) → p l) (h1 : ∀ x r, (∀ d ∈ x, neB 10 d = true) → p r → p (x ++ 10 :: r)) : ∀ (n : Nat) (l : List UInt8), l.length ≤ n → p l
  | 0, l, h => by
    have : l = [] := List.eq_nil_of_length_eq_zero (by omega)
    subst this; exact h0 [] (by simp)
  | n + 1, l, h => by
    by_cases g : atN 10 l < l.length
    · rw [parted g]
      exact h1 _ _ (take_no l) (by_lines h0 h1 n _ (by rw [List.length_drop]; omega))
    · exact h0 l (none_no g)
theorem lines_ind {p : List UInt8 → Prop} (h0 : ∀ l, (∀ d ∈ l, neB 10 d = true) → p l) (h1 : ∀ x r, (∀ d ∈ x, neB 10 d = true) → p r → p (x ++ 10 :: r)) (l : List UInt8) : p l := by_lines h0 h1 l.length l (Nat.le_refl _)
theorem lns_none {a : Nat} {l : List UInt8} (h : ∀ d ∈ l, neB 10 d = true) : lns a l = [] := lns_no (by rw [atN_none h]; omega)

theorem lns_fst (l : List UInt8) : ∀ a b : Nat, (lns a l).map Prod.fst = (lns b l).map Prod.fst := by
  induction l using lines_ind with
  | h0 l h => intro a b; rw [lns_none h, lns_none h]
  | h1 x r h ih => intro a b; rw [lns_line h, lns_line h, List.map_cons, List.map_cons, ih _ (b + x.length + 1)]
theorem lns_pos (l : List UInt8) : ∀ a : Nat, ∀ x ∈ lns a l, x.1.length ≤ l.length ∧ x.2 ≤ a + l.length := by
  induction l using lines_ind with
  | h0 l h => intro a x hx; rw [lns_none h] at hx; simp at hx
  | h1 y r h ih =>
    intro a x hx
    rw [lns_line h] at hx
    rcases List.mem_cons.1 hx with rfl | hx
    · have := bareL_le y
      simp; omega
    · have := ih _ x hx
      simp; omega
theorem lns_take (l : List UInt8) : ∀ a m : Nat, lns a (l.take m) = (lns a l).takeWhile fun x => decide (x.2 ≤ a + m) := by
  induction l using lines_ind with
  | h0 l h => intro a m; rw [lns_none h, lns_none (fun d hd => h d (List.mem_of_mem_take hd))]; rfl
  | h1 x r h ih =>
    intro a m
    rw [lns_line h]
    by_cases hm : m ≤ x.length
    · rw [List.take_append_of_le_length hm, lns_none (fun d hd => h d (List.mem_of_mem_take hd)), List.takeWhile_cons, if_neg (by simp; omega)]
    · obtain ⟨k, rfl⟩ : ∃ k, m = x.length + 1 + k := ⟨m - x.length - 1, by omega⟩
      have e : (x ++ 10 :: r).take (x.length + 1 + k) = x ++ 10 :: r.take k := by
        rw [List.take_append, List.take_of_length_le (by omega), show x.length + 1 + k - x.length = k + 1 by omega, List.take_succ_cons]
      rw [e, lns_line h, List.takeWhile_cons, if_pos (by simp; omega), ih]
      congr 2
      funext y
      congr 1
      rw [show a + x.length + 1 + k = a + (x.length + 1 + k) by omega]

/-- The field of a line, and whether it is one that may be. -/
def fdL (l : List UInt8) : Fd := (⟨(l.takeWhile (neB 58)).toArray⟩, ⟨(trimL ((l.dropWhile (neB 58)).drop 1)).toArray⟩)
def okL (l : List UInt8) : Bool := decide (atN 58 l < l.length) && mayF (fdL l)
theorem fdL_size (l : List UInt8) : (fdL l).1.size ≤ l.length ∧ (fdL l).2.size ≤ l.length := by
  have h1 := takeWhile_le (neB 58) l
  have h2 := trimL_le ((l.dropWhile (neB 58)).drop 1)
  have h3 := dropWhile_le (neB 58) l
  rw [List.length_drop] at h2
  refine ⟨?_, ?_⟩
  · show (l.takeWhile (neB 58)).toArray.size ≤ _; rw [List.size_toArray]; exact h1
  · show (trimL _).toArray.size ≤ _; rw [List.size_toArray]; omega

/-- What lines are read as. -/
def psA (acc : List Fd) : List (List UInt8) → List Fd × Int
  | [] => (acc, 0)
  | x :: r => if okL x then (if acc.length = 40 then ([], 4) else psA (acc ++ [fdL x]) r) else ([], 31)
def endsB (l : List UInt8) : Bool := l.isEmpty || decide (l.getLast? = some 10)
def psU (l : List UInt8) : List Fd × Int := if 4000 < l.length then ([], 2) else if endsB l then psA [] ((lns 0 l).map Prod.fst) else ([], 31)

theorem psA_all : ∀ (ls : List (List UInt8)) (acc : List Fd), (∀ f ∈ acc, mayF f = true) → acc.length ≤ 40 →
    (∀ f ∈ (psA acc ls).1, mayF f = true) ∧ (psA acc ls).1.length ≤ 40 ∧ ((psA acc ls).2 ≠ 0 → (psA acc ls).1 = [])
  | [], acc, h, g => ⟨h, g, fun e => absurd rfl e⟩
  | x :: r, acc, h, g => by
    rw [psA]
    by_cases ho : okL x = true
    · rw [if_pos ho]
      by_cases h40 : acc.length = 40
      · rw [if_pos h40]; exact ⟨by simp, by simp, fun _ => rfl⟩
      · rw [if_neg h40]
        refine psA_all r _ ?_ (by simp; omega)
        intro f hf
        rcases List.mem_append.1 hf with hf | hf
        · exact h f hf
        · obtain rfl : f = fdL x := by simpa using hf
          unfold okL at ho
          exact (Bool.and_eq_true_iff.1 ho).2
    · rw [if_neg ho]; exact ⟨by simp, by simp, fun _ => rfl⟩
theorem psA_short {k : Nat} : ∀ (ls : List (List UInt8)) (acc : List Fd), (∀ f ∈ acc, f.1.size ≤ k ∧ f.2.size ≤ k) → (∀ x ∈ ls, x.length ≤ k) → ∀ f ∈ (psA acc ls).1, f.1.size ≤ k ∧ f.2.size ≤ k
  | [], acc, h, g => h
  | x :: r, acc, h, g => by
    rw [psA]
    by_cases ho : okL x = true
    · rw [if_pos ho]
      by_cases h40 : acc.length = 40
      · rw [if_pos h40]; simp
      · rw [if_neg h40]
        refine psA_short r _ ?_ (fun y hy => g y (by simp [hy]))
        intro f hf
        rcases List.mem_append.1 hf with hf | hf
        · exact h f hf
        · obtain rfl : f = fdL x := by simpa using hf
          have := fdL_size x
          have := g x (by simp)
          omega
    · rw [if_neg ho]; simp
theorem ps_all (l : List UInt8) : (∀ f ∈ (psU l).1, mayF f = true) ∧ (psU l).1.length ≤ 40 ∧ ((psU l).2 ≠ 0 → (psU l).1 = []) ∧ ∀ f ∈ (psU l).1, f.1.size ≤ 4000 ∧ f.2.size ≤ 4000 := by
  unfold psU
  by_cases h : 4000 < l.length
  · rw [if_pos h]; exact ⟨by simp, by simp, fun _ => rfl, by simp⟩
  · rw [if_neg h]
    by_cases g : endsB l = true
    · rw [if_pos g]
      have := psA_all ((lns 0 l).map Prod.fst) [] (by simp) (by simp)
      refine ⟨this.1, this.2.1, this.2.2, psA_short _ [] (by simp) ?_⟩
      intro x hx
      obtain ⟨y, hy, rfl⟩ := List.mem_map.1 hx
      have := lns_pos l 0 y hy
      omega
    · rw [if_neg g]; exact ⟨by simp, by simp, fun _ => rfl, by simp⟩
theorem ps_right (l : List UInt8) : rightF (psU l).1 = true := by
  have := ps_all l
  unfold rightF
  rw [decide_eq_true this.2.1, List.all_eq_true.2 this.1]; rfl

/-- How a row is written. -/
def lineL (f : Fd) : List UInt8 := f.1.data.toList ++ 58 :: 32 :: f.2.data.toList
def wr1 (f : Fd) : List UInt8 := f.1.data.toList ++ 58 :: 32 :: (f.2.data.toList ++ [13, 10])
def wrL (L : List Fd) : List UInt8 := L.flatMap wr1
theorem wrL_cons (f : Fd) (L : List Fd) : wrL (f :: L) = wr1 f ++ wrL L := by simp [wrL]
theorem wrL_append (L M : List Fd) : wrL (L ++ M) = wrL L ++ wrL M := by simp [wrL]
theorem wr1_eq (f : Fd) : wr1 f = (lineL f ++ [13]) ++ [10] := by simp [wr1, lineL]

theorem word_no (c : UInt8) : wordB c = true → neB 10 c = true ∧ neB 13 c = true ∧ neB 58 c = true := by
  have := u8_all (fun c => !wordB c || (neB 10 c && neB 13 c && neB 58 c)) (by decide +kernel) c
  intro h
  simp only [h, Bool.not_true, Bool.false_or, Bool.and_eq_true] at this
  exact ⟨this.1.1, this.1.2, this.2⟩
theorem ctrl_no (c : UInt8) : ctrlB c = false → neB 10 c = true ∧ neB 13 c = true := by
  have := u8_all (fun c => ctrlB c || (neB 10 c && neB 13 c)) (by decide +kernel) c
  intro h
  simp only [h, Bool.false_or, Bool.and_eq_true] at this
  exact this

theorem may_parts {f : Fd} (h : mayF f = true) : (∀ c ∈ f.1.data.toList, wordB c = true) ∧ trimL f.2.data.toList = f.2.data.toList ∧ (∀ c ∈ f.2.data.toList, ctrlB c = false) ∧ f.1.data.toList ≠ [] := by
  unfold mayF valB trimB tokB tokL ctlB at h
  simp only [Bool.and_eq_true, Bool.not_eq_true', decide_eq_true_eq, beq_iff_eq, List.all_eq_true, List.any_eq_false] at h
  obtain ⟨⟨h1, h2⟩, ⟨h3, h4⟩, h5⟩ := h
  refine ⟨h2, ?_, fun c hc => by simpa using h5 c hc, fun e => by rw [e] at h1; simp at h1⟩
  rw [ByteArray.toList_eq, ByteArray.toList_eq] at h4
  unfold trimS at h4
  simpa using h4

theorem line_no {f : Fd} (h : mayF f = true) : (∀ c ∈ lineL f, neB 10 c = true) ∧ ∀ c ∈ lineL f, neB 13 c = true := by
  obtain ⟨h1, -, h3, -⟩ := may_parts h
  refine ⟨fun c hc => ?_, fun c hc => ?_⟩
  all_goals
    unfold lineL at hc
    simp only [List.mem_append, List.mem_cons] at hc
    rcases hc with hc | rfl | rfl | hc
    · have := word_no c (h1 c hc); simp_all
    · decide
    · decide
    · have := ctrl_no c (h3 c hc); simp_all
theorem line_fd {f : Fd} (h : mayF f = true) : fdL (lineL f) = f ∧ okL (lineL f) = true := by
  obtain ⟨h1, h2, -, -⟩ := may_parts h
  have hn : ∀ c ∈ f.1.data.toList, neB 58 c = true := fun c hc => (word_no c (h1 c hc)).2.2
  have e : fdL (lineL f) = f := by
    obtain ⟨n, v⟩ := f
    unfold fdL lineL
    rw [tw_all hn, dw_all hn, List.takeWhile_cons, if_neg (by simp [neB]), List.dropWhile_cons, if_neg (by simp [neB])]
    have t : trimL (32 :: v.data.toList) = v.data.toList := by
      have t1 : trimL (32 :: v.data.toList) = trimL v.data.toList := by
        unfold trimL
        rw [List.dropWhile_cons, if_pos (by decide)]
      rw [t1]; exact h2
    simp only [List.drop_succ_cons, List.drop_zero, List.append_nil, t]
  refine ⟨e, ?_⟩
  unfold okL
  rw [e, h, Bool.and_true]
  have : atN 58 (lineL f) = f.1.data.toList.length := atN_line hn
  rw [this]
  simp [lineL]

/-- The lines of what is written. -/
theorem wr_fst {a : Nat} {L : List Fd} (h : ∀ f ∈ L, mayF f = true) (r : List UInt8) : (lns a (wrL L ++ r)).map Prod.fst = L.map lineL ++ (lns 0 r).map Prod.fst := by
  induction L generalizing a with
  | nil => rw [wrL, List.flatMap_nil, List.nil_append]; exact lns_fst r a 0
  | cons f L ih =>
    have hf := line_no (h f (by simp))
    rw [wrL_cons, wr1_eq, List.append_assoc, List.append_assoc, List.singleton_append, lns_line, List.map_cons, ih (fun g hg => h g (by simp [hg])), bareL_snoc]
    · rfl
    · intro d hd
      rcases List.mem_append.1 hd with hd | hd
      · exact hf.1 d hd
      · obtain rfl : d = 13 := by simpa using hd
        decide
theorem psA_lines : ∀ (L : List Fd) (acc : List Fd) (r : List (List UInt8)), (∀ f ∈ L, mayF f = true) → acc.length + L.length ≤ 40 → psA acc (L.map lineL ++ r) = psA (acc ++ L) r
  | [], acc, r, _, _ => by simp
  | f :: L, acc, r, h, g => by
    have hf := line_fd (h f (by simp))
    rw [List.map_cons, List.cons_append, psA, if_pos hf.2, if_neg (by simp at g; omega), hf.1, psA_lines L _ r (fun x hx => h x (by simp [hx])) (by simp at g ⊢; omega)]
    simp
theorem right_parts {L : List Fd} (h : rightF L = true) : L.length ≤ 40 ∧ ∀ f ∈ L, mayF f = true := by
  unfold rightF at h
  simpa [List.all_eq_true] using h
theorem wr_last {L : List Fd} : endsB (wrL L) = true := by
  unfold endsB
  induction L with
  | nil => rfl
  | cons f L ih =>
    rw [wrL_cons, wr1_eq]
    cases L with
    | nil => simp [wrL]
    | cons g L =>
      have hne : wrL (g :: L) ≠ [] := by rw [wrL_cons, wr1]; simp
      have e : (wrL (g :: L)).isEmpty = false := by simpa using hne
      rw [e, Bool.false_or] at ih
      rw [List.getLast?_append, of_decide_eq_true ih]; simp
theorem ends_append {s t : List UInt8} (h : endsB s = true) (g : endsB t = true) : endsB (s ++ t) = true := by
  unfold endsB at *
  cases t with
  | nil => simpa using h
  | cons c t =>
    rw [show (c :: t).isEmpty = false from rfl, Bool.false_or, decide_eq_true_eq] at g
    rw [List.getLast?_append, g]; simp
theorem ps_of {l : List UInt8} (h : l.length ≤ 4000) (g : endsB l = true) : psU l = psA [] ((lns 0 l).map Prod.fst) := by
  unfold psU; rw [if_neg (by omega), if_pos g]

/-- WHAT IS WRITTEN IS READ AGAIN. -/
theorem ps_wr {L : List Fd} (h : rightF L = true) (hl : (wrL L).length ≤ 4000) : psU (wrL L) = (L, 0) := by
  obtain ⟨h1, h2⟩ := right_parts h
  rw [ps_of hl wr_last]
  have := wr_fst (a := 0) h2 []
  rw [List.append_nil] at this
  rw [this, psA_lines L [] _ h2 (by simpa using h1)]
  rfl
theorem ps_two {L M : List Fd} (h : rightF L = true) (g : rightF M = true) (hn : L.length + M.length ≤ 40) (hl : (wrL L).length + (wrL M).length ≤ 4000) : psU (wrL L ++ wrL M) = (L ++ M, 0) := by
  rw [← wrL_append]
  refine ps_wr ?_ (by rw [wrL_append, List.length_append]; exact hl)
  obtain ⟨h1, h2⟩ := right_parts h
  obtain ⟨g1, g2⟩ := right_parts g
  unfold rightF
  rw [List.all_append, List.all_eq_true.2 h2, List.all_eq_true.2 g2, List.length_append, decide_eq_true hn]; rfl

/-- The same lines, ended by 10 alone. -/
def bar1 (f : Fd) : List UInt8 := lineL f ++ [10]
def barL (L : List Fd) : List UInt8 := L.flatMap bar1
theorem bar_filter {L : List Fd} (h : ∀ f ∈ L, mayF f = true) : (wrL L).filter (neB 13) = barL L := by
  induction L with
  | nil => rfl
  | cons f L ih =>
    rw [wrL_cons, List.filter_append, ih (fun g hg => h g (by simp [hg])), wr1_eq, List.filter_append, List.filter_append, List.filter_eq_self.2 (line_no (h f (by simp))).2]
    have e1 : List.filter (neB 13) [13] = [] := by decide
    have e2 : List.filter (neB 13) [10] = [10] := by decide
    rw [e1, e2]; simp [barL, bar1]
theorem bar_fst {a : Nat} {L : List Fd} (h : ∀ f ∈ L, mayF f = true) (r : List UInt8) : (lns a (barL L ++ r)).map Prod.fst = L.map lineL ++ (lns 0 r).map Prod.fst := by
  induction L generalizing a with
  | nil => rw [barL, List.flatMap_nil, List.nil_append]; exact lns_fst r a 0
  | cons f L ih =>
    have hf := line_no (h f (by simp))
    rw [barL, List.flatMap_cons, ← barL, bar1, List.append_assoc, List.append_assoc, List.singleton_append, lns_line hf.1, List.map_cons, ih (fun g hg => h g (by simp [hg])), bareL_no hf.2]
    rfl
theorem bar_ends {L : List Fd} : endsB (barL L) = true := by
  unfold endsB
  induction L with
  | nil => rfl
  | cons f L ih =>
    rw [barL, List.flatMap_cons, ← barL, bar1]
    cases L with
    | nil => simp [barL]
    | cons g L =>
      have hne : barL (g :: L) ≠ [] := by rw [barL, List.flatMap_cons, bar1]; simp
      have e : (barL (g :: L)).isEmpty = false := by simpa using hne
      rw [e, Bool.false_or] at ih
      rw [List.getLast?_append, of_decide_eq_true ih]; simp
theorem ps_bar {L M : List Fd} (h : rightF L = true) (g : rightF M = true) (hn : L.length + M.length ≤ 40) (hl : (wrL L).length + (wrL M).length ≤ 4000) : psU (barL L ++ wrL M) = (L ++ M, 0) := by
  obtain ⟨h1, h2⟩ := right_parts h
  obtain ⟨g1, g2⟩ := right_parts g
  have hb : (barL L).length ≤ (wrL L).length := by rw [← bar_filter h2]; exact List.length_filter_le _ _
  rw [ps_of (by rw [List.length_append]; omega) (ends_append bar_ends wr_last), bar_fst h2]
  have := wr_fst (a := 0) g2 []
  rw [List.append_nil] at this
  rw [this, psA_lines L [] _ h2 (by simpa using h1), psA_lines M _ _ g2 (by simpa using hn)]
  simp [psA, lns_nil]

/-- A line that is no field behind what is written makes all of it no head. -/
theorem ps_bad {L : List Fd} {x : List UInt8} (h : rightF L = true) (hx : ∀ d ∈ x, neB 10 d = true) (hb : okL (bareL x) = false) (hl : (wrL L ++ (x ++ [10])).length ≤ 4000) : psU (wrL L ++ (x ++ [10])) = ([], 31) := by
  obtain ⟨h1, h2⟩ := right_parts h
  rw [ps_of hl (ends_append wr_last (by simp [endsB])), wr_fst h2, lns_line hx, psA_lines L [] _ h2 (by simpa using h1), List.map_cons, psA, if_neg (by rw [hb]; decide)]
theorem ps_long {l : List UInt8} (h : 4000 < l.length) : psU l = ([], 2) := by unfold psU; rw [if_pos h]

/-- Where a head ends: the first empty line. -/
def enA : List (List UInt8 × Nat) → Option Nat
  | [] => none
  | x :: r => if x.1.isEmpty then some x.2 else enA r
def enV (n : Nat) : Option Nat → Int × Int
  | some a => (a, 0)
  | none => if 4000 < n then (0, 2) else (0, 3)
def enU (l : List UInt8) : Int × Int := enV l.length (enA (lns 0 (l.take 4000)))
/-- .. as the document goes. -/
def erA (n : Nat) : List (List UInt8 × Nat) → Int × Int
  | [] => if 4000 < n then (0, 2) else (0, 3)
  | x :: r => if 4000 < x.2 then (0, 2) else if x.1.isEmpty then (x.2, 0) else erA n r
theorem en_go (n : Nat) : ∀ ls : List (List UInt8 × Nat), (∀ x ∈ ls, x.2 ≤ n) → enV n (enA (ls.takeWhile fun x => decide (x.2 ≤ 4000))) = erA n ls
  | [], _ => rfl
  | x :: r, h => by
    rw [List.takeWhile_cons, erA]
    by_cases hx : 4000 < x.2
    · rw [if_pos hx, if_neg (by simp; omega)]
      have := h x (by simp)
      show enV n none = _
      rw [enV, if_pos (by omega)]
    · rw [if_neg hx, if_pos (by simp; omega), enA]
      by_cases he : x.1.isEmpty = true
      · rw [if_pos he, if_pos he]; rfl
      · rw [if_neg he, if_neg he]; exact en_go n r (fun y hy => h y (by simp [hy]))
theorem en_er (l : List UInt8) : enU l = erA l.length (lns 0 l) := by
  unfold enU
  rw [lns_take]
  simp only [Nat.zero_add]
  refine en_go _ _ fun x hx => ?_
  have := lns_pos l 0 x hx
  omega

theorem er_wr (n : Nat) {L : List Fd} (h : ∀ f ∈ L, mayF f = true) (r : List UInt8) : ∀ a : Nat, a + (wrL L).length ≤ 4000 → erA n (lns a (wrL L ++ r)) = erA n (lns (a + (wrL L).length) r) := by
  induction L with
  | nil => intro a _; rw [wrL, List.flatMap_nil, List.nil_append]; rfl
  | cons f L ih =>
    intro a ha
    have hf := line_no (h f (by simp))
    have hlen : (wrL (f :: L)).length = (lineL f).length + 2 + (wrL L).length := by rw [wrL_cons, wr1_eq]; simp; omega
    rw [hlen] at ha ⊢
    rw [wrL_cons, wr1_eq, List.append_assoc, List.append_assoc, List.singleton_append, lns_line, erA, bareL_snoc, if_neg (by simp; omega), if_neg (by simp [lineL]), ih (fun g hg => h g (by simp [hg])) _ (by simp; omega)]
    · congr 2; simp; omega
    · intro d hd
      rcases List.mem_append.1 hd with hd | hd
      · exact hf.1 d hd
      · obtain rfl : d = 13 := by simpa using hd
        decide
/-- BEHIND IT AND AN EMPTY LINE THE HEAD ENDS. -/
theorem en_two {L : List Fd} (h : rightF L = true) (hl : (wrL L).length ≤ 3900) (more : List UInt8) : enU (wrL L ++ (13 :: 10 :: more)) = (((wrL L).length : Int) + 2, 0) := by
  rw [en_er, er_wr _ (right_parts h).2 _ 0 (by omega), show (13 :: 10 :: more : List UInt8) = [13] ++ 10 :: more from rfl, lns_line (by decide), erA, if_neg (by simp; omega), if_pos (show (bareL [13]).isEmpty = true by decide)]
  simp; omega
theorem en_one {L : List Fd} (h : rightF L = true) (hl : (wrL L).length ≤ 3900) (more : List UInt8) : enU (wrL L ++ (10 :: more)) = (((wrL L).length : Int) + 1, 0) := by
  rw [en_er, er_wr _ (right_parts h).2 _ 0 (by omega), show (10 :: more : List UInt8) = [] ++ 10 :: more from rfl, lns_line (by simp), erA, if_neg (by simp; omega), if_pos (show (bareL []).isEmpty = true by decide)]
  simp
theorem en_none {L : List Fd} (h : rightF L = true) (hl : (wrL L).length ≤ 3900) : enU (wrL L) = (0, 3) := by
  have := er_wr (wrL L).length (right_parts h).2 [] 0 (by omega)
  rw [List.append_nil] at this
  rw [en_er, this, lns_nil, erA, if_neg (by omega)]

end Go.Proofs.Yteeipaijdoneeaa
