/- Heads as lists of bytes, by plain reckoning: their lines, their fields, their end: no condition beside each theorem's own. Numbers as digits, by plain arithmetic: nothing of the program in it, and no condition beside each theorem's own. Bodies in chunks as lists of bytes, by plain reckoning: what one byte does, what a line does, what many bytes do: no condition beside each theorem's own. -/
import Derived.Test.YtmpijlaidnhpnaaGreatJWi
import Derived.Test.YtmpijlaidnhpnaaGreatJMa
import Derived.Lib.ItoaNum
namespace Go.Proofs.YtmpijlaidnhpnaaGreat.Hd
set_option linter.unusedVariables false
set_option linter.unusedSimpArgs false
set_option maxRecDepth 100000

def neB (c x : UInt8) : Bool := x != c
/-- How many bytes stand ahead of the first c. -/
def atN (c : UInt8) (l : List UInt8) : Nat := (l.takeWhile (neB c)).length
theorem atN_le (c : UInt8) (l : List UInt8) : atN c l ≤ l.length := takeWhile_le _ _
theorem tw_all {p : UInt8 → Bool} : ∀ {x : List UInt8}, (∀ c ∈ x, p c = true) → ∀ r, (x ++ r).takeWhile p = x ++ r.takeWhile p
  | [], _, r => rfl
  | c :: x, h, r => by
    rw [List.cons_append, List.takeWhile_cons, if_pos (h c (by simp)), tw_all (fun d hd => h d (by simp [hd])), List.cons_append]
theorem dw_all {p : UInt8 → Bool} : ∀ {x : List UInt8}, (∀ c ∈ x, p c = true) → ∀ r, (x ++ r).dropWhile p = r.dropWhile p
  | [], _, r => rfl
  | c :: x, h, r => by
    rw [List.cons_append, List.dropWhile_cons, if_pos (h c (by simp)), dw_all (fun d hd => h d (by simp [hd]))]
theorem atN_line {c : UInt8} {x r : List UInt8} (h : ∀ d ∈ x, neB c d = true) : atN c (x ++ c :: r) = x.length := by
  unfold atN; rw [tw_all h, List.takeWhile_cons, if_neg (by simp [neB])]; simp
theorem atN_none {c : UInt8} {x : List UInt8} (h : ∀ d ∈ x, neB c d = true) : atN c x = x.length := by
  unfold atN; rw [takeWhile_all h]
theorem tw_mem {p : UInt8 → Bool} : ∀ {l : List UInt8} {c : UInt8}, c ∈ l.takeWhile p → p c = true
  | [], c, h => by simp at h
  | d :: l, c, h => by
    rw [List.takeWhile_cons] at h
    split at h
    · rename_i hd
      rcases List.mem_cons.1 h with rfl | h
      · exact hd
      · exact tw_mem h
    · simp at h
theorem take_atN (c : UInt8) (l : List UInt8) : l.take (atN c l) = l.takeWhile (neB c) := (List.prefix_iff_eq_take.1 (List.takeWhile_prefix (neB c))).symm
theorem get_atN {c : UInt8} {l : List UInt8} (h : atN c l < l.length) : l[atN c l] = c := by
  have h1 : l.drop (atN c l) = l.dropWhile (neB c) := drop_takeWhile _ _
  have h2 : (l.dropWhile (neB c)).head? = some l[atN c l] := by
    rw [← h1, List.head?_drop, List.getElem?_eq_getElem h]
  have := dropWhile_head _ _ _ h2
  simpa [neB] using this
theorem parted {c : UInt8} {l : List UInt8} (h : atN c l < l.length) : l = l.take (atN c l) ++ c :: l.drop (atN c l + 1) := by
  conv => lhs; rw [← List.take_append_drop (atN c l) l, List.drop_eq_getElem_cons h, get_atN h]
theorem take_no {c : UInt8} (l : List UInt8) : ∀ d ∈ l.take (atN c l), neB c d = true := by
  rw [take_atN]; intro d hd; exact tw_mem hd
theorem none_no {c : UInt8} {l : List UInt8} (h : ¬ atN c l < l.length) : ∀ d ∈ l, neB c d = true := by
  have := atN_le c l
  have e : l.take (atN c l) = l := List.take_of_length_le (by omega)
  rw [← e]; exact take_no l

/-- A line without a byte 13 at its end. -/
def bareL (l : List UInt8) : List UInt8 := if l.getLast? = some 13 then l.dropLast else l
theorem bareL_le (l : List UInt8) : (bareL l).length ≤ l.length := by
  unfold bareL; split
  · rw [List.length_dropLast]; omega
  · exact Nat.le_refl _
theorem bareL_snoc (x : List UInt8) : bareL (x ++ [13]) = x := by unfold bareL; simp
/-- The lines of a text, and behind how many bytes each ends. -/
def lnF : Nat → Nat → List UInt8 → List (List UInt8 × Nat)
  | 0, _, _ => []
  | n + 1, a, l => if atN 10 l < l.length then (bareL (l.take (atN 10 l)), a + atN 10 l + 1) :: lnF n (a + atN 10 l + 1) (l.drop (atN 10 l + 1)) else []
theorem lnF_same : ∀ (n m a : Nat) (l : List UInt8), l.length ≤ n → l.length ≤ m → lnF n a l = lnF m a l
  | 0, 0, _, _, _, _ => rfl
  | 0, m + 1, a, l, h, _ => by
    have : l = [] := List.eq_nil_of_length_eq_zero (by omega)
    subst this; simp [lnF]
  | n + 1, 0, a, l, _, h => by
    have : l = [] := List.eq_nil_of_length_eq_zero (by omega)
    subst this; simp [lnF]
  | n + 1, m + 1, a, l, h, g => by
    rw [lnF, lnF]
    split
    · rw [lnF_same n m _ _ (by rw [List.length_drop]; omega) (by rw [List.length_drop]; omega)]
    · rfl
def lns (a : Nat) (l : List UInt8) : List (List UInt8 × Nat) := lnF l.length a l
theorem lns_yes {a : Nat} {l : List UInt8} (h : atN 10 l < l.length) : lns a l = (bareL (l.take (atN 10 l)), a + atN 10 l + 1) :: lns (a + atN 10 l + 1) (l.drop (atN 10 l + 1)) := by
  obtain ⟨n, hn⟩ : ∃ n, l.length = n + 1 := ⟨l.length - 1, by omega⟩
  unfold lns
  rw [hn, lnF, if_pos (by omega), lnF_same n _ _ _ (by rw [List.length_drop]; omega) (Nat.le_refl _)]
theorem lns_no {a : Nat} {l : List UInt8} (h : ¬ atN 10 l < l.length) : lns a l = [] := by
  unfold lns
  cases hn : l.length with
  | zero => rfl
  | succ n => rw [lnF, if_neg (by omega)]
theorem lns_line {a : Nat} {x r : List UInt8} (h : ∀ d ∈ x, neB 10 d = true) : lns a (x ++ 10 :: r) = (bareL x, a + x.length + 1) :: lns (a + x.length + 1) r := by
  have e : atN 10 (x ++ 10 :: r) = x.length := atN_line h
  rw [lns_yes (by rw [e]; simp), e]
  congr 2
  · simp
  · rw [List.drop_append, List.drop_of_length_le (by omega)]; simp

/-- What holds of texts without a line and of a line ahead of any text holds of all. -/
theorem by_lines {p : List UInt8 → Prop} (h0 : ∀ l, (∀ d ∈ l, neB 10 d = true) → p l) (h1 : ∀ x r, (∀ d ∈ x, neB 10 d = true) → p r → p (x ++ 10 :: r)) : ∀ (n : Nat) (l : List UInt8), l.length ≤ n → p l
  | 0, l, h => by
    have : l = [] := List.eq_nil_of_length_eq_zero (by omega)
    subst this; exact h0 [] (by simp)
  | n + 1, l, h => by
    by_cases g : atN 10 l < l.length
    · rw [parted g]
      exact h1 _ _ (take_no l) (by_lines h0 h1 n _ (by rw [List.length_drop]; omega))
    · exact h0 l (none_no g)
theorem lines_ind {p : List UInt8 → Prop} (h0 : ∀ l, (∀ d ∈ l, neB 10 d = true) → p l) (h1 : ∀ x r, (∀ d ∈ x, neB 10 d = true) → p r → p (x ++ 10 :: r)) (l : List UInt8) : p l := by_lines h0 h1 l.length l (Nat.le_refl _)
theorem lns_none {a : Nat} {l : List UInt8} (h : ∀ d ∈ l, neB 10 d = true) : lns a l = [] := lns_no (by rw [atN_none h]; omega)

theorem lns_fst (l : List UInt8) : ∀ a b : Nat, (lns a l).map Prod.fst = (lns b l).map Prod.fst := by
  induction l using lines_ind with
  | h0 l h => intro a b; rw [lns_none h, lns_none h]
  | h1 x r h ih => intro a b; rw [lns_line h, lns_line h, List.map_cons, List.map_cons, ih _ (b + x.length + 1)]
theorem lns_pos (l : List UInt8) : ∀ a : Nat, ∀ x ∈ lns a l, x.1.length ≤ l.length ∧ x.2 ≤ a + l.length := by
  induction l using lines_ind with
  | h0 l h => intro a x hx; rw [lns_none h] at hx; simp at hx
  | h1 y r h ih =>
    intro a x hx
    rw [lns_line h] at hx
    rcases List.mem_cons.1 hx with rfl | hx
    · have := bareL_le y
      simp; omega
    · have := ih _ x hx
      simp; omega
theorem lns_take (l : List UInt8) : ∀ a m : Nat, lns a (l.take m) = (lns a l).takeWhile fun x => decide (x.2 ≤ a + m) := by
  induction l using lines_ind with
  | h0 l h => intro a m; rw [lns_none h, lns_none (fun d hd => h d (List.mem_of_mem_take hd))]; rfl
  | h1 x r h ih =>
    intro a m
    rw [lns_line h]
    by_cases hm : m ≤ x.length
    · rw [List.take_append_of_le_length hm, lns_none (fun d hd => h d (List.mem_of_mem_take hd)), List.takeWhile_cons, if_neg (by simp; omega)]
    · obtain ⟨k, rfl⟩ : ∃ k, m = x.length + 1 + k := ⟨m - x.length - 1, by omega⟩
      have e : (x ++ 10 :: r).take (x.length + 1 + k) = x ++ 10 :: r.take k := by
        rw [List.take_append, List.take_of_length_le (by omega), show x.length + 1 + k - x.length = k + 1 by omega, List.take_succ_cons]
      rw [e, lns_line h, List.takeWhile_cons, if_pos (by simp; omega), ih]
      congr 2
      funext y
      congr 1
      rw [show a + x.length + 1 + k = a + (x.length + 1 + k) by omega]

/-- The field of a line, and whether it is one that may be. -/
def fdL (l : List UInt8) : Fd := (⟨(l.takeWhile (neB 58)).toArray⟩, ⟨(trimL ((l.dropWhile (neB 58)).drop 1)).toArray⟩)
def okL (l : List UInt8) : Bool := decide (atN 58 l < l.length) && mayF (fdL l)
theorem fdL_size (l : List UInt8) : (fdL l).1.size ≤ l.length ∧ (fdL l).2.size ≤ l.length := by
  have h1 := takeWhile_le (neB 58) l
  have h2 := trimL_le ((l.dropWhile (neB 58)).drop 1)
  have h3 := dropWhile_le (neB 58) l
  rw [List.length_drop] at h2
  refine ⟨?_, ?_⟩
  · show (l.takeWhile (neB 58)).toArray.size ≤ _; rw [List.size_toArray]; exact h1
  · show (trimL _).toArray.size ≤ _; rw [List.size_toArray]; omega

/-- What lines are read as. -/
def psA (acc : List Fd) : List (List UInt8) → List Fd × Int
  | [] => (acc, 0)
  | x :: r => if okL x then (if acc.length = 40 then ([], 4) else psA (acc ++ [fdL x]) r) else ([], 31)
def endsB (l : List UInt8) : Bool := l.isEmpty || decide (l.getLast? = some 10)
def psU (l : List UInt8) : List Fd × Int := if 4000 < l.length then ([], 2) else if endsB l then psA [] ((lns 0 l).map Prod.fst) else ([], 31)

theorem psA_all : ∀ (ls : List (List UInt8)) (acc : List Fd), (∀ f ∈ acc, mayF f = true) → acc.length ≤ 40 →
    (∀ f ∈ (psA acc ls).1, mayF f = true) ∧ (psA acc ls).1.length ≤ 40 ∧ ((psA acc ls).2 ≠ 0 → (psA acc ls).1 = [])
  | [], acc, h, g => ⟨h, g, fun e => absurd rfl e⟩
  | x :: r, acc, h, g => by
    rw [psA]
    by_cases ho : okL x = true
    · rw [if_pos ho]
      by_cases h40 : acc.length = 40
      · rw [if_pos h40]; exact ⟨by simp, by simp, fun _ => rfl⟩
      · rw [if_neg h40]
        refine psA_all r _ ?_ (by simp; omega)
        intro f hf
        rcases List.mem_append.1 hf with hf | hf
        · exact h f hf
        · obtain rfl : f = fdL x := by simpa using hf
          unfold okL at ho
          exact (Bool.and_eq_true_iff.1 ho).2
    · rw [if_neg ho]; exact ⟨by simp, by simp, fun _ => rfl⟩
theorem psA_short {k : Nat} : ∀ (ls : List (List UInt8)) (acc : List Fd), (∀ f ∈ acc, f.1.size ≤ k ∧ f.2.size ≤ k) → (∀ x ∈ ls, x.length ≤ k) → ∀ f ∈ (psA acc ls).1, f.1.size ≤ k ∧ f.2.size ≤ k
  | [], acc, h, g => h
  | x :: r, acc, h, g => by
    rw [psA]
    by_cases ho : okL x = true
    · rw [if_pos ho]
      by_cases h40 : acc.length = 40
      · rw [if_pos h40]; simp
      · rw [if_neg h40]
        refine psA_short r _ ?_ (fun y hy => g y (by simp [hy]))
        intro f hf
        rcases List.mem_append.1 hf with hf | hf
        · exact h f hf
        · obtain rfl : f = fdL x := by simpa using hf
          have := fdL_size x
          have := g x (by simp)
          omega
    · rw [if_neg ho]; simp
theorem ps_all (l : List UInt8) : (∀ f ∈ (psU l).1, mayF f = true) ∧ (psU l).1.length ≤ 40 ∧ ((psU l).2 ≠ 0 → (psU l).1 = []) ∧ ∀ f ∈ (psU l).1, f.1.size ≤ 4000 ∧ f.2.size ≤ 4000 := by
  unfold psU
  by_cases h : 4000 < l.length
  · rw [if_pos h]; exact ⟨by simp, by simp, fun _ => rfl, by simp⟩
  · rw [if_neg h]
    by_cases g : endsB l = true
    · rw [if_pos g]
      have := psA_all ((lns 0 l).map Prod.fst) [] (by simp) (by simp)
      refine ⟨this.1, this.2.1, this.2.2, psA_short _ [] (by simp) ?_⟩
      intro x hx
      obtain ⟨y, hy, rfl⟩ := List.mem_map.1 hx
      have := lns_pos l 0 y hy
      omega
    · rw [if_neg g]; exact ⟨by simp, by simp, fun _ => rfl, by simp⟩
theorem ps_right (l : List UInt8) : rightF (psU l).1 = true := by
  have := ps_all l
  unfold rightF
  rw [decide_eq_true this.2.1, List.all_eq_true.2 this.1]; rfl

/-- How a row is written. -/
def lineL (f : Fd) : List UInt8 := f.1.data.toList ++ 58 :: 32 :: f.2.data.toList
def wr1 (f : Fd) : List UInt8 := f.1.data.toList ++ 58 :: 32 :: (f.2.data.toList ++ [13, 10])
def wrL (L : List Fd) : List UInt8 := L.flatMap wr1
theorem ps_of {l : List UInt8} (h : l.length ≤ 4000) (g : endsB l = true) : psU l = psA [] ((lns 0 l).map Prod.fst) := by
  unfold psU; rw [if_neg (by omega), if_pos g]

/-- The same lines, ended by 10 alone. -/
def bar1 (f : Fd) : List UInt8 := lineL f ++ [10]
def barL (L : List Fd) : List UInt8 := L.flatMap bar1
theorem ps_long {l : List UInt8} (h : 4000 < l.length) : psU l = ([], 2) := by unfold psU; rw [if_pos h]

/-- Where a head ends: the first empty line. -/
def enA : List (List UInt8 × Nat) → Option Nat
  | [] => none
  | x :: r => if x.1.isEmpty then some x.2 else enA r
def enV (n : Nat) : Option Nat → Int × Int
  | some a => (a, 0)
  | none => if 4000 < n then (0, 2) else (0, 3)
def enU (l : List UInt8) : Int × Int := enV l.length (enA (lns 0 (l.take 4000)))
/-- .. as the document goes. -/
def erA (n : Nat) : List (List UInt8 × Nat) → Int × Int
  | [] => if 4000 < n then (0, 2) else (0, 3)
  | x :: r => if 4000 < x.2 then (0, 2) else if x.1.isEmpty then (x.2, 0) else erA n r
theorem en_go (n : Nat) : ∀ ls : List (List UInt8 × Nat), (∀ x ∈ ls, x.2 ≤ n) → enV n (enA (ls.takeWhile fun x => decide (x.2 ≤ 4000))) = erA n ls
  | [], _ => rfl
  | x :: r, h => by
    rw [List.takeWhile_cons, erA]
    by_cases hx : 4000 < x.2
    · rw [if_pos hx, if_neg (by simp; omega)]
      have := h x (by simp)
      show enV n none = _
      rw [enV, if_pos (by omega)]
    · rw [if_neg hx, if_pos (by simp; omega), enA]
      by_cases he : x.1.isEmpty = true
      · rw [if_pos he, if_pos he]; rfl
      · rw [if_neg he, if_neg he]; exact en_go n r (fun y hy => h y (by simp [hy]))
theorem en_er (l : List UInt8) : enU l = erA l.length (lns 0 l) := by
  unfold enU
  rw [lns_take]
  simp only [Nat.zero_add]
  refine en_go _ _ fun x hx => ?_
  have := lns_pos l 0 x hx
  omega

end Go.Proofs.YtmpijlaidnhpnaaGreat.Hd

namespace Go.Proofs.YtmpijlaidnhpnaaGreat
set_option linter.unusedVariables false
set_option linter.unusedSimpArgs false

/-- What a byte is worth as a digit; 16: none. -/
def vl (c : UInt8) : Nat :=
  if 48 ≤ c.toNat ∧ c.toNat ≤ 57 then c.toNat - 48
  else if 97 ≤ c.toNat ∧ c.toNat ≤ 102 then c.toNat - 87
  else if 65 ≤ c.toNat ∧ c.toNat ≤ 70 then c.toNat - 55
  else 16

theorem vl_le (c : UInt8) : vl c ≤ 16 := by unfold vl; split <;> (try split) <;> (try split) <;> omega

/-- The number of a row of digits. -/
def val (b : Nat) (l : List UInt8) : Nat := l.foldl (fun n c => n * b + vl c) 0

theorem val_nil (b : Nat) : val b [] = 0 := rfl
theorem val_snoc (b : Nat) (l : List UInt8) (c : UInt8) : val b (l ++ [c]) = val b l * b + vl c := by simp [val, List.foldl_append]

/-- Whether all bytes are digits. -/
def okay (b : Nat) (l : List UInt8) : Bool := l.all fun c => decide (vl c < b)

theorem okay_snoc (b : Nat) (l : List UInt8) (c : UInt8) : okay b (l ++ [c]) = (okay b l && decide (vl c < b)) := by simp [okay]
theorem okay_append (b : Nat) (l m : List UInt8) : okay b (l ++ m) = (okay b l && okay b m) := by simp [okay]

/-- The error of reading. -/
def rdE (b : Nat) (l : List UInt8) : Nat :=
  if l = [] ∨ okay b l = false then 10 else if 1099511627776 < val b l then 2 else 0
/-- The number read. -/
def rdN (b : Nat) (l : List UInt8) : Nat :=
  if l = [] ∨ okay b l = false then 0 else if 1099511627776 < val b l then 0 else val b l

theorem rdN_le (b : Nat) (l : List UInt8) : rdN b l ≤ 1099511627776 := by
  unfold rdN; split; omega; split <;> omega

theorem rdE_bad {b : Nat} {l : List UInt8} (h : l = [] ∨ okay b l = false) : rdE b l = 10 := by rw [rdE, if_pos h]
theorem rdN_bad {b : Nat} {l : List UInt8} (h : l = [] ∨ okay b l = false) : rdN b l = 0 := by rw [rdN, if_pos h]
theorem rdE_long {b : Nat} {l : List UInt8} (h0 : l ≠ []) (h1 : okay b l = true) (h : 1099511627776 < val b l) : rdE b l = 2 := by
  rw [rdE, if_neg (by simp [h0, h1]), if_pos h]
theorem rdN_long {b : Nat} {l : List UInt8} (h : 1099511627776 < val b l) : rdN b l = 0 := by
  unfold rdN; split
  · rfl
  · rfl
theorem rdE_fine {b : Nat} {l : List UInt8} (h0 : l ≠ []) (h1 : okay b l = true) (h : ¬ 1099511627776 < val b l) : rdE b l = 0 := by
  rw [rdE, if_neg (by simp [h0, h1]), if_neg h]
theorem rdN_fine {b : Nat} {l : List UInt8} (h0 : l ≠ []) (h1 : okay b l = true) (h : ¬ 1099511627776 < val b l) : rdN b l = val b l := by
  rw [rdN, if_neg (by simp [h0, h1]), if_neg h]

/-- More digits make no smaller number. -/
theorem val_grows (b : Nat) (hb : 1 ≤ b) (l m : List UInt8) : val b l ≤ val b (l ++ m) := by
  induction m generalizing l with
  | nil => simp
  | cons c m ih =>
    have h1 : val b l ≤ val b (l ++ [c]) := by
      rw [val_snoc]
      have h0 : val b l * 1 ≤ val b l * b := Nat.mul_le_mul_left _ hb
      omega
    have h2 := ih (l ++ [c])
    simp only [List.append_assoc, List.singleton_append] at h2
    omega

/-- The number, held just above the limit. -/
def cap (b : Nat) (l : List UInt8) : Nat := min (val b l) 1099511627777

theorem cap_nil (b : Nat) : cap b [] = 0 := by simp [cap, val_nil]
theorem cap_le (b : Nat) (l : List UInt8) : cap b l ≤ 1099511627777 := by unfold cap; omega
theorem cap_snoc (b : Nat) (hb : 1 ≤ b) (l : List UInt8) (c : UInt8) : cap b (l ++ [c]) = min (cap b l * b + vl c) 1099511627777 := by
  unfold cap
  rw [val_snoc]
  by_cases h : val b l ≤ 1099511627777
  · rw [Nat.min_eq_left h]
  · have h1 : min (val b l) 1099511627777 = 1099511627777 := by omega
    rw [h1]
    have h2 : 1099511627777 * 1 ≤ 1099511627777 * b := Nat.mul_le_mul_left _ hb
    have h3 : val b l * 1 ≤ val b l * b := Nat.mul_le_mul_left _ hb
    omega
theorem cap_gt (b : Nat) (l : List UInt8) : 1099511627776 < cap b l ↔ 1099511627776 < val b l := by unfold cap; omega
theorem cap_eq (b : Nat) (l : List UInt8) (h : ¬ 1099511627776 < val b l) : cap b l = val b l := by unfold cap; omega

theorem okay_take_false {b : Nat} {l : List UInt8} {k : Nat} (h : okay b (l.take k) = false) : okay b l = false := by
  rw [← List.take_append_drop k l, okay_append, h]; rfl

theorem okay_at_false {b : Nat} {l : List UInt8} {k : Nat} (hk : k < l.length) (h : ¬ vl l[k] < b) : okay b l = false := by
  apply okay_take_false (k := k + 1)
  rw [List.take_succ_eq_append_getElem hk, okay_snoc]; simp [h]

theorem okay_at {b : Nat} {l : List UInt8} (h : okay b l = true) (k : Nat) (hk : k < l.length) : vl l[k] < b := by
  unfold okay at h
  simpa using List.all_eq_true.1 h l[k] (List.getElem_mem hk)

/- With a sign -/

/- Digits of a number -/

/-- The byte of a digit. -/
def hx (d : Nat) : UInt8 := if d < 10 then UInt8.ofNat (48 + d) else UInt8.ofNat (87 + d)

theorem vl_hx_fin : ∀ d : Fin 16, vl (hx d.val) = d.val := by decide +kernel
theorem vl_hx {d : Nat} (h : d < 16) : vl (hx d) = d := vl_hx_fin ⟨d, h⟩

/-- The digits of u, at most f + 1 of them. -/
def dgsF (b : Nat) : Nat → Nat → List UInt8
  | 0, u => [hx u]
  | f + 1, u => if u < b then [hx u] else dgsF b f (u / b) ++ [hx (u % b)]

/-- Where there are enough, it does not matter how many there may be. -/
theorem dgsF_same {b : Nat} (hb : 2 ≤ b) : ∀ (f g u : Nat), u ≤ f → u ≤ g → dgsF b f u = dgsF b g u
  | 0, 0, u, _, _ => rfl
  | 0, g + 1, u, h, _ => by
    obtain rfl : u = 0 := by omega
    rw [dgsF, dgsF, if_pos (by omega)]
  | f + 1, 0, u, _, h => by
    obtain rfl : u = 0 := by omega
    rw [dgsF, dgsF, if_pos (by omega)]
  | f + 1, g + 1, u, h1, h2 => by
    rw [dgsF, dgsF]
    by_cases h : u < b
    · rw [if_pos h, if_pos h]
    · have hd : u / b < u := Nat.div_lt_self (by omega) (by omega)
      rw [if_neg h, if_neg h, dgsF_same hb f g (u / b) (by omega) (by omega)]

/-- The digits of u in a base of 2 to 16. -/
def dgs (b : Nat) (_ : 2 ≤ b) (u : Nat) : List UInt8 := dgsF b u u

theorem dgs_small {b : Nat} (hb : 2 ≤ b) {u : Nat} (h : u < b) : dgs b hb u = [hx u] := by
  unfold dgs
  cases u with
  | zero => rfl
  | succ u => rw [dgsF, if_pos h]
theorem dgs_big {b : Nat} (hb : 2 ≤ b) {u : Nat} (h : ¬ u < b) : dgs b hb u = dgs b hb (u / b) ++ [hx (u % b)] := by
  have hd : u / b < u := Nat.div_lt_self (by omega) (by omega)
  unfold dgs
  cases u with
  | zero => omega
  | succ u => rw [dgsF, if_neg h, dgsF_same hb u ((u + 1) / b) ((u + 1) / b) (by omega) (Nat.le_refl _)]

theorem dgs_ne_nil {b : Nat} (hb : 2 ≤ b) (u : Nat) : dgs b hb u ≠ [] := by
  by_cases h : u < b
  · rw [dgs_small hb h]; simp
  · rw [dgs_big hb h]; simp

theorem dgs_okay {b : Nat} (hb : 2 ≤ b) (h16 : b ≤ 16) (u : Nat) : okay b (dgs b hb u) = true := by
  induction u using Nat.strongRecOn with
  | _ u ih =>
    by_cases h : u < b
    · rw [dgs_small hb h]; simp [okay, vl_hx (show u < 16 by omega), h]
    · have hm : u % b < b := Nat.mod_lt _ (by omega)
      rw [dgs_big hb h, okay_snoc, ih _ (Nat.div_lt_self (by omega) (by omega)), vl_hx (show u % b < 16 by omega)]
      simp [hm]

/-- Behind whatever stands ahead, digits are read as the number that they are of. -/
theorem val_dgs {b : Nat} (hb : 2 ≤ b) (h16 : b ≤ 16) (l : List UInt8) (hl : val b l = 0) (u : Nat) : val b (l ++ dgs b hb u) = u := by
  induction u using Nat.strongRecOn with
  | _ u ih =>
    by_cases h : u < b
    · rw [dgs_small hb h, val_snoc, hl, vl_hx (by omega)]; omega
    · have hm : u % b < b := Nat.mod_lt _ (by omega)
      rw [dgs_big hb h, ← List.append_assoc, val_snoc, ih _ (Nat.div_lt_self (by omega) (by omega)), vl_hx (by omega)]
      have := Nat.div_add_mod u b
      rw [Nat.mul_comm] at this
      exact this

theorem dgs_length_lt {b : Nat} (hb : 2 ≤ b) (k u : Nat) (h : u < b ^ (k + 1)) : (dgs b hb u).length ≤ k + 1 := by
  induction k generalizing u with
  | zero => rw [dgs_small hb (by simpa using h)]; simp
  | succ k ih =>
    by_cases hu : u < b
    · rw [dgs_small hb hu]; simp
    · rw [dgs_big hb hu]
      have := ih (u / b) (Nat.div_lt_of_lt_mul (by rw [Nat.mul_comm, ← Nat.pow_succ]; exact h))
      simp; exact this

/- Zeros ahead -/

/- Great letters -/

def up (c : UInt8) : UInt8 := if 97 ≤ c.toNat ∧ c.toNat ≤ 102 then c - 32 else c

end Go.Proofs.YtmpijlaidnhpnaaGreat

namespace Go.Proofs.YtmpijlaidnhpnaaGreat.Ck
set_option linter.unusedVariables false
set_option linter.unusedSimpArgs false
set_option maxRecDepth 100000

def neB (c x : UInt8) : Bool := x != c
/-- How many bytes stand ahead of the first c. -/
def atN (c : UInt8) (l : List UInt8) : Nat := (l.takeWhile (neB c)).length
theorem atN_le (c : UInt8) (l : List UInt8) : atN c l ≤ l.length := takeWhile_le _ _
theorem tw_all {p : UInt8 → Bool} : ∀ {x : List UInt8}, (∀ c ∈ x, p c = true) → ∀ r, (x ++ r).takeWhile p = x ++ r.takeWhile p
  | [], _, r => rfl
  | c :: x, h, r => by
    rw [List.cons_append, List.takeWhile_cons, if_pos (h c (by simp)), tw_all (fun d hd => h d (by simp [hd])), List.cons_append]
theorem dw_all {p : UInt8 → Bool} : ∀ {x : List UInt8}, (∀ c ∈ x, p c = true) → ∀ r, (x ++ r).dropWhile p = r.dropWhile p
  | [], _, r => rfl
  | c :: x, h, r => by
    rw [List.cons_append, List.dropWhile_cons, if_pos (h c (by simp)), dw_all (fun d hd => h d (by simp [hd]))]
theorem atN_line {c : UInt8} {x r : List UInt8} (h : ∀ d ∈ x, neB c d = true) : atN c (x ++ c :: r) = x.length := by
  unfold atN; rw [tw_all h, List.takeWhile_cons, if_neg (by simp [neB])]; simp
theorem atN_none {c : UInt8} {x : List UInt8} (h : ∀ d ∈ x, neB c d = true) : atN c x = x.length := by
  unfold atN; rw [takeWhile_all h]
theorem tw_mem {p : UInt8 → Bool} : ∀ {l : List UInt8} {c : UInt8}, c ∈ l.takeWhile p → p c = true
  | [], c, h => by simp at h
  | d :: l, c, h => by
    rw [List.takeWhile_cons] at h
    split at h
    · rename_i hd
      rcases List.mem_cons.1 h with rfl | h
      · exact hd
      · exact tw_mem h
    · simp at h
theorem take_atN (c : UInt8) (l : List UInt8) : l.take (atN c l) = l.takeWhile (neB c) := (List.prefix_iff_eq_take.1 (List.takeWhile_prefix (neB c))).symm
theorem get_atN {c : UInt8} {l : List UInt8} (h : atN c l < l.length) : l[atN c l] = c := by
  have h1 : l.drop (atN c l) = l.dropWhile (neB c) := drop_takeWhile _ _
  have h2 : (l.dropWhile (neB c)).head? = some l[atN c l] := by
    rw [← h1, List.head?_drop, List.getElem?_eq_getElem h]
  have := dropWhile_head _ _ _ h2
  simpa [neB] using this
theorem parted {c : UInt8} {l : List UInt8} (h : atN c l < l.length) : l = l.take (atN c l) ++ c :: l.drop (atN c l + 1) := by
  conv => lhs; rw [← List.take_append_drop (atN c l) l, List.drop_eq_getElem_cons h, get_atN h]
theorem take_no {c : UInt8} (l : List UInt8) : ∀ d ∈ l.take (atN c l), neB c d = true := by
  rw [take_atN]; intro d hd; exact tw_mem hd
theorem none_no {c : UInt8} {l : List UInt8} (h : ¬ atN c l < l.length) : ∀ d ∈ l, neB c d = true := by
  have := atN_le c l
  have e : l.take (atN c l) = l := List.take_of_length_le (by omega)
  rw [← e]; exact take_no l

/-- A line without a byte 13 at its end. -/
def bareL (l : List UInt8) : List UInt8 := if l.getLast? = some 13 then l.dropLast else l
theorem bareL_le (l : List UInt8) : (bareL l).length ≤ l.length := by
  unfold bareL; split
  · rw [List.length_dropLast]; omega
  · exact Nat.le_refl _
theorem bareL_snoc (x : List UInt8) : bareL (x ++ [13]) = x := by unfold bareL; simp
/-- A text of a list of bytes. -/
def bs (l : List UInt8) : ByteArray := ⟨l.toArray⟩
theorem bs_list (l : List UInt8) : (bs l).data.toList = l := by simp [bs]
theorem bs_size (l : List UInt8) : (bs l).size = l.length := by rw [← size_list, bs_list]
theorem bs_of {s : ByteArray} {l : List UInt8} (h : s.data.toList = l) : s = bs l := by
  apply bytes_ext; rw [bs_list]; exact h
theorem app_bs (a : ByteArray) (x y : List UInt8) : (a ++ bs x) ++ bs y = a ++ bs (x ++ y) := by
  apply bytes_ext; simp only [app_list, bs_list, List.append_assoc]
theorem app_size (a b : ByteArray) : (a ++ b).size = a.size + b.size := by
  rw [← size_list, app_list, List.length_append, size_list, size_list]

/-- What was read so far. -/
structure K where
  st : Int
  line : ByteArray
  left : Int
  size : Int
def k0 : K := ⟨0, ⟨#[]⟩, 0, 0⟩

/-- What was read so far may be. -/
structure Good (k : K) : Prop where
  s0 : 0 ≤ k.st
  s4 : k.st ≤ 4
  z0 : 0 ≤ k.size
  z1 : k.size ≤ 20000
  lf : k.st = 1 → 1 ≤ k.left ∧ k.left ≤ 20000 - k.size
  lz : k.st ≠ 1 → k.left = 0
  le : k.st = 1 ∨ k.st = 4 → k.line = ⟨#[]⟩
  ln : k.line.size ≤ 200
  no : ∀ c ∈ k.line.data.toList, neB 10 c = true

/-- The number that a line begins with, and what reading it tells. -/
def hexE (l : List UInt8) : Nat := rdE 16 (trimL (l.takeWhile (neB 59)))
def hexN (l : List UInt8) : Nat := rdN 16 (trimL (l.takeWhile (neB 59)))

/-- What a line does. -/
def dd (k : K) (l : List UInt8) : Nat × K :=
  if k.st = 0 then
    if hexE l = 10 then (33, k) else if hexE l ≠ 0 ∨ 20000 - k.size < (hexN l : Int) then (2, k)
    else if hexN l = 0 then (0, ⟨3, k.line, k.left, k.size⟩) else (0, ⟨1, k.line, (hexN l : Int), k.size⟩)
  else if k.st = 2 then if l = [] then (0, ⟨0, k.line, k.left, k.size⟩) else (33, k)
  else if l = [] then (0, ⟨4, k.line, k.left, k.size⟩) else (0, k)

/-- So many bytes of data. -/
def kd (k : K) (m : Nat) : K := ⟨if k.left - m = 0 then 2 else 1, k.line, k.left - m, k.size + m⟩
/-- The line is done with. -/
def kl (k : K) (x : ByteArray) : K := ⟨k.st, x, k.left, k.size⟩

/-- What reading tells: an error, what was read so far, the data, what is left. -/
structure Rs where
  e : Nat
  k : K
  d : List UInt8
  r : List UInt8
def bad (e : Nat) : Rs := ⟨e, k0, [], []⟩
def Rs.on (d : List UInt8) (q : Rs) : Rs := if q.e = 0 then ⟨0, q.k, d ++ q.d, q.r⟩ else q

/-- One byte, then the next ones. -/
def run : K → List UInt8 → Rs
  | k, [] => ⟨0, k, [], []⟩
  | k, c :: s =>
    if k.st = 4 then ⟨0, k, [], c :: s⟩
    else if k.st = 1 then (run (kd k 1) s).on [c]
    else if c = 10 then
      if (dd (kl k ⟨#[]⟩) (bareL k.line.data.toList)).1 = 0 then run (dd (kl k ⟨#[]⟩) (bareL k.line.data.toList)).2 s
      else bad (dd (kl k ⟨#[]⟩) (bareL k.line.data.toList)).1
    else if 200 ≤ k.line.size then bad 33
    else run (kl k (k.line ++ bs [c])) s

theorem on_nil (q : Rs) : q.on [] = q := by
  unfold Rs.on; split
  · rename_i h; cases q; simp at h; subst h; rfl
  · rfl
theorem on_on (a b : List UInt8) (q : Rs) : (q.on b).on a = q.on (a ++ b) := by
  unfold Rs.on
  by_cases h : q.e = 0
  · simp [h]
  · rw [if_neg h, if_neg h, if_neg h]
theorem on_e (a : List UInt8) (q : Rs) : (q.on a).e = q.e := by
  unfold Rs.on; split
  · rename_i h; exact h.symm
  · rfl
theorem on_k (a : List UInt8) (q : Rs) : (q.on a).k = q.k := by unfold Rs.on; split <;> rfl
theorem on_r (a : List UInt8) (q : Rs) : (q.on a).r = q.r := by unfold Rs.on; split <;> rfl
theorem on_d {a : List UInt8} {q : Rs} (h : q.e = 0) : (q.on a).d = a ++ q.d := by unfold Rs.on; rw [if_pos h]
theorem on_bad {a : List UInt8} {e : Nat} (h : e ≠ 0) : (bad e).on a = bad e := by unfold Rs.on; rw [if_neg (by exact h)]

theorem run_done {k : K} (h : k.st = 4) (s : List UInt8) : run k s = ⟨0, k, [], s⟩ := by
  cases s with
  | nil => rfl
  | cons c s => rw [run, if_pos h]
theorem run_stop {k : K} {s : List UInt8} (h : s = [] ∨ k.st = 4) : run k s = ⟨0, k, [], s⟩ := by
  rcases h with rfl | h
  · rfl
  · exact run_done h s

/-- What is told beside an error. -/
theorem run_bad : ∀ (s : List UInt8) (k : K), (run k s).e ≠ 0 → run k s = bad (run k s).e
  | [], k, h => absurd rfl h
  | c :: s, k, h => by
    rw [run] at h ⊢
    by_cases h4 : k.st = 4
    · rw [if_pos h4] at h; exact absurd rfl h
    rw [if_neg h4] at h ⊢
    by_cases h1 : k.st = 1
    · rw [if_pos h1] at h ⊢
      rw [on_e] at h ⊢
      have := run_bad s _ h
      rw [this, on_bad h]; rfl
    rw [if_neg h1] at h ⊢
    by_cases hc : c = 10
    · rw [if_pos hc] at h ⊢
      by_cases hd : (dd (kl k ⟨#[]⟩) (bareL k.line.data.toList)).1 = 0
      · rw [if_pos hd] at h ⊢; exact run_bad s _ h
      · rw [if_neg hd]; rfl
    rw [if_neg hc] at h ⊢
    by_cases hl : 200 ≤ k.line.size
    · rw [if_pos hl]; rfl
    · rw [if_neg hl] at h ⊢; exact run_bad s _ h

/-- Bytes in two pieces: an error in the first one, an end in it, or none of these. -/
theorem run_app_bad : ∀ (a : List UInt8) (k : K) (b : List UInt8), (run k a).e ≠ 0 → run k (a ++ b) = run k a
  | [], k, b, h => absurd rfl h
  | c :: s, k, b, h => by
    rw [List.cons_append, run]
    rw [run] at h ⊢
    by_cases h4 : k.st = 4
    · rw [if_pos h4] at h; exact absurd rfl h
    rw [if_neg h4] at h ⊢
    rw [if_neg h4]
    by_cases h1 : k.st = 1
    · rw [if_pos h1] at h ⊢
      rw [if_pos h1]
      rw [on_e] at h
      rw [run_app_bad s _ b h]
    rw [if_neg h1] at h ⊢
    rw [if_neg h1]
    by_cases hc : c = 10
    · rw [if_pos hc] at h ⊢
      rw [if_pos hc]
      by_cases hd : (dd (kl k ⟨#[]⟩) (bareL k.line.data.toList)).1 = 0
      · rw [if_pos hd] at h ⊢
        rw [if_pos hd]; exact run_app_bad s _ b h
      · rw [if_neg hd]; rw [if_neg hd]
    rw [if_neg hc] at h ⊢
    rw [if_neg hc]
    by_cases hl : 200 ≤ k.line.size
    · rw [if_pos hl]; rw [if_pos hl]
    · rw [if_neg hl] at h ⊢
      rw [if_neg hl]; exact run_app_bad s _ b h
theorem run_app_go : ∀ (a : List UInt8) (k : K) (b : List UInt8), (run k a).e = 0 → (run k a).r = [] → run k (a ++ b) = (run (run k a).k b).on (run k a).d
  | [], k, b, h, g => by rw [List.nil_append]; exact (on_nil _).symm
  | c :: s, k, b, h, g => by
    rw [List.cons_append, run]
    rw [run] at h g ⊢
    by_cases h4 : k.st = 4
    · rw [if_pos h4] at g; simp at g
    rw [if_neg h4] at h g ⊢
    rw [if_neg h4]
    by_cases h1 : k.st = 1
    · rw [if_pos h1] at h g ⊢
      rw [if_pos h1]
      rw [on_e] at h
      rw [on_r] at g
      rw [run_app_go s _ b h g, on_on, on_k, on_d h]
    rw [if_neg h1] at h g ⊢
    rw [if_neg h1]
    by_cases hc : c = 10
    · rw [if_pos hc] at h g ⊢
      rw [if_pos hc]
      by_cases hd : (dd (kl k ⟨#[]⟩) (bareL k.line.data.toList)).1 = 0
      · rw [if_pos hd] at h g ⊢
        rw [if_pos hd]; exact run_app_go s _ b h g
      · rw [if_neg hd] at h; exact absurd h hd
    rw [if_neg hc] at h g ⊢
    rw [if_neg hc]
    by_cases hl : 200 ≤ k.line.size
    · rw [if_pos hl] at h; exact absurd h (by decide)
    · rw [if_neg hl] at h g ⊢
      rw [if_neg hl]; exact run_app_go s _ b h g
/-- Behind what ends nothing is read. -/
theorem run_left : ∀ (a : List UInt8) (k : K), (run k a).e = 0 → (run k a).r ≠ [] → (run k a).k.st = 4
  | [], k, h, g => absurd rfl g
  | c :: s, k, h, g => by
    rw [run] at h g ⊢
    by_cases h4 : k.st = 4
    · rw [if_pos h4]; exact h4
    rw [if_neg h4] at h g ⊢
    by_cases h1 : k.st = 1
    · rw [if_pos h1] at h g ⊢
      rw [on_e] at h
      rw [on_r] at g
      rw [on_k]; exact run_left s _ h g
    rw [if_neg h1] at h g ⊢
    by_cases hc : c = 10
    · rw [if_pos hc] at h g ⊢
      by_cases hd : (dd (kl k ⟨#[]⟩) (bareL k.line.data.toList)).1 = 0
      · rw [if_pos hd] at h g ⊢; exact run_left s _ h g
      · rw [if_neg hd] at h; exact absurd h hd
    rw [if_neg hc] at h g ⊢
    by_cases hl : 200 ≤ k.line.size
    · rw [if_pos hl] at h; exact absurd h (by decide)
    · rw [if_neg hl] at h g ⊢; exact run_left s _ h g
/-- What is left are the last bytes. -/
theorem run_part : ∀ (a : List UInt8) (k : K), (run k a).e = 0 → ∃ x, a = x ++ (run k a).r ∧ (run k x).e = 0 ∧ (run k x).r = [] ∧ (run k x).k = (run k a).k ∧ (run k x).d = (run k a).d
  | [], k, h => ⟨[], rfl, rfl, rfl, rfl, rfl⟩
  | c :: s, k, h => by
    rw [run] at h ⊢
    by_cases h4 : k.st = 4
    · rw [if_pos h4]; exact ⟨[], rfl, rfl, rfl, rfl, rfl⟩
    rw [if_neg h4] at h ⊢
    by_cases h1 : k.st = 1
    · rw [if_pos h1] at h ⊢
      rw [on_e] at h
      obtain ⟨x, e1, e2, e3, e4, e5⟩ := run_part s _ h
      refine ⟨c :: x, ?_, ?_, ?_, ?_, ?_⟩
      · rw [on_r, List.cons_append, ← e1]
      · rw [run, if_neg h4, if_pos h1, on_e, e2]
      · rw [run, if_neg h4, if_pos h1, on_r, e3]
      · rw [run, if_neg h4, if_pos h1, on_k, on_k, e4]
      · rw [run, if_neg h4, if_pos h1, on_d e2, on_d h, e5]
    rw [if_neg h1] at h ⊢
    by_cases hc : c = 10
    · rw [if_pos hc] at h ⊢
      by_cases hd : (dd (kl k ⟨#[]⟩) (bareL k.line.data.toList)).1 = 0
      · rw [if_pos hd] at h ⊢
        obtain ⟨x, e1, e2, e3, e4, e5⟩ := run_part s _ h
        refine ⟨c :: x, by rw [List.cons_append, ← e1], ?_, ?_, ?_, ?_⟩
        · rw [run, if_neg h4, if_neg h1, if_pos hc, if_pos hd, e2]
        · rw [run, if_neg h4, if_neg h1, if_pos hc, if_pos hd, e3]
        · rw [run, if_neg h4, if_neg h1, if_pos hc, if_pos hd, e4]
        · rw [run, if_neg h4, if_neg h1, if_pos hc, if_pos hd, e5]
      · rw [if_neg hd] at h; exact absurd h hd
    rw [if_neg hc] at h ⊢
    by_cases hl : 200 ≤ k.line.size
    · rw [if_pos hl] at h; exact absurd h (by decide)
    · rw [if_neg hl] at h ⊢
      obtain ⟨x, e1, e2, e3, e4, e5⟩ := run_part s _ h
      refine ⟨c :: x, by rw [List.cons_append, ← e1], ?_, ?_, ?_, ?_⟩
      · rw [run, if_neg h4, if_neg h1, if_neg hc, if_neg hl, e2]
      · rw [run, if_neg h4, if_neg h1, if_neg hc, if_neg hl, e3]
      · rw [run, if_neg h4, if_neg h1, if_neg hc, if_neg hl, e4]
      · rw [run, if_neg h4, if_neg h1, if_neg hc, if_neg hl, e5]

/-- Data, up to a chunk's end. -/
theorem run_data : ∀ (s : List UInt8) (k : K) (m : Nat), k.st = 1 → 1 ≤ k.left → m = min k.left.toNat s.length → run k s = (run (kd k m) (s.drop m)).on (s.take m)
  | [], k, m, h1, hl, hm => by
    have : m = 0 := by rw [hm]; simp
    subst this
    have e : kd k 0 = k := by
      cases k; simp only at h1 hl; subst h1
      unfold kd; simp; omega
    rw [e, List.drop_nil, List.take_nil, on_nil]
  | c :: s, k, m, h1, hl, hm => by
    have hm1 : 1 ≤ m := by rw [hm, List.length_cons]; omega
    obtain ⟨j, rfl⟩ : ∃ j, m = j + 1 := ⟨m - 1, by omega⟩
    rw [run, if_neg (by rw [h1]; decide), if_pos h1, List.drop_succ_cons, List.take_succ_cons]
    by_cases h2 : k.left = 1
    · have : j = 0 := by rw [h2, List.length_cons] at hm; omega
      subst this
      rw [List.drop_zero, List.take_zero]
    · have e : kd (kd k 1) j = kd k (j + 1) := by
        unfold kd
        simp only [K.mk.injEq, true_and]
        refine ⟨?_, by omega, by omega⟩
        have : k.left - ((1 : Nat) : Int) - (j : Int) = k.left - ((j + 1 : Nat) : Int) := by omega
        rw [this]
      rw [run_data s (kd k 1) j (by unfold kd; simp only; rw [if_neg (by omega)]) (by unfold kd; simp only; omega) (by unfold kd; simp only; rw [List.length_cons] at hm; omega), e, on_on]
      rfl

/-- Bytes of a line, without its end. -/
theorem run_word : ∀ (x : List UInt8) (k : K) (t : List UInt8), k.st ≠ 1 → k.st ≠ 4 → (∀ c ∈ x, neB 10 c = true) → k.line.size + x.length ≤ 200 → run k (x ++ t) = run (kl k (k.line ++ bs x)) t
  | [], k, t, h1, h4, hx, hl => by
    have e : k.line ++ bs [] = k.line := by apply bytes_ext; rw [app_list, bs_list, List.append_nil]
    rw [e, List.nil_append]; rfl
  | c :: x, k, t, h1, h4, hx, hl => by
    have hc : c ≠ 10 := by have := hx c (by simp); simpa [neB] using this
    rw [List.length_cons] at hl
    have hz : (k.line ++ bs [c]).size = k.line.size + 1 := by rw [app_size, bs_size]; rfl
    rw [List.cons_append, run, if_neg h4, if_neg h1, if_neg hc, if_neg (by omega),
      run_word x (kl k (k.line ++ bs [c])) t h1 h4 (fun d hd => hx d (by simp [hd])) (by show (k.line ++ bs [c]).size + _ ≤ _; rw [hz]; omega)]
    show run (kl (kl k _) ((k.line ++ bs [c]) ++ bs x)) t = _
    rw [app_bs]; rfl
theorem run_over {x : List UInt8} {k : K} (t : List UInt8) (h1 : k.st ≠ 1) (h4 : k.st ≠ 4) (hx : ∀ c ∈ x, neB 10 c = true) (h0 : k.line.size ≤ 200) (hl : 200 < k.line.size + x.length) : run k (x ++ t) = bad 33 := by
  have hk : 200 - k.line.size < x.length := by omega
  have e : x ++ t = x.take (200 - k.line.size) ++ (x[200 - k.line.size] :: (x.drop (200 - k.line.size + 1) ++ t)) := by
    rw [← List.cons_append, ← List.drop_eq_getElem_cons hk, ← List.append_assoc, List.take_append_drop]
  have hc : x[200 - k.line.size] ≠ 10 := by have := hx _ (List.getElem_mem hk); simpa [neB] using this
  rw [e, run_word _ k _ h1 h4 (fun c hc => hx c (List.mem_of_mem_take hc)) (by rw [List.length_take]; omega), run, if_neg (by exact h4), if_neg (by exact h1), if_neg hc, if_pos]
  show 200 ≤ (k.line ++ bs _).size
  rw [app_size, bs_size, List.length_take]; omega
theorem run_line {x : List UInt8} {k : K} (t : List UInt8) (h1 : k.st ≠ 1) (h4 : k.st ≠ 4) (hx : ∀ c ∈ x, neB 10 c = true) (hl : k.line.size + x.length ≤ 200) :
    run k (x ++ 10 :: t) = if (dd (kl k ⟨#[]⟩) (bareL (k.line.data.toList ++ x))).1 = 0 then run (dd (kl k ⟨#[]⟩) (bareL (k.line.data.toList ++ x))).2 t else bad (dd (kl k ⟨#[]⟩) (bareL (k.line.data.toList ++ x))).1 := by
  have e : (k.line ++ bs x).data.toList = k.line.data.toList ++ x := by rw [app_list, bs_list]
  rw [run_word _ k _ h1 h4 hx hl, run, if_neg (by exact h4), if_neg (by exact h1), if_pos rfl]
  show (if (dd (kl k ⟨#[]⟩) (bareL (k.line ++ bs x).data.toList)).1 = 0 then run (dd (kl k ⟨#[]⟩) (bareL (k.line ++ bs x).data.toList)).2 t else bad (dd (kl k ⟨#[]⟩) (bareL (k.line ++ bs x).data.toList)).1) = _
  rw [e]

theorem good0 : Good k0 := ⟨by decide, by decide, by decide, by decide, fun h => absurd h (by decide), fun _ => rfl, fun _ => rfl, by decide, fun c hc => by simp [k0] at hc⟩
theorem good_kd {k : K} (h : Good k) (h1 : k.st = 1) {m : Nat} (hm : (m : Int) ≤ k.left) : Good (kd k m) := by
  have hl := h.lf h1
  have hz := h.z0
  have he := h.le (Or.inl h1)
  unfold kd
  by_cases hz' : k.left - m = 0
  · rw [if_pos hz']
    exact ⟨by simp, by simp, by simp only; omega, by simp only; omega, fun g => by simp at g, fun _ => hz', fun g => by simp at g, h.ln, h.no⟩
  · rw [if_neg hz']
    exact ⟨by simp, by simp, by simp only; omega, by simp only; omega, fun _ => by simp only; omega, fun g => absurd rfl g, fun _ => he, h.ln, h.no⟩
theorem good_kl {k : K} (h : Good k) (h1 : k.st ≠ 1) (h4 : k.st ≠ 4) {x : ByteArray} (hx : x.size ≤ 200) (hn : ∀ c ∈ x.data.toList, neB 10 c = true) : Good (kl k x) :=
  ⟨h.s0, h.s4, h.z0, h.z1, fun g => absurd g h1, fun g => h.lz g, fun g => by rcases g with g | g; exact absurd g h1; exact absurd g h4, hx, hn⟩
theorem good_dd {k : K} (h : Good k) (h1 : k.st ≠ 1) (h4 : k.st ≠ 4) (he : k.line = ⟨#[]⟩) (l : List UInt8) (hd : (dd k l).1 = 0) : Good (dd k l).2 := by
  have hz := h.lz h1
  have z0 := h.z0
  have z1 := h.z1
  unfold dd at hd ⊢
  by_cases g0 : k.st = 0
  · rw [if_pos g0] at hd ⊢
    by_cases g1 : hexE l = 10
    · rw [if_pos g1] at hd; simp at hd
    rw [if_neg g1] at hd ⊢
    by_cases g2 : hexE l ≠ 0 ∨ 20000 - k.size < (hexN l : Int)
    · rw [if_pos g2] at hd; simp at hd
    rw [if_neg g2] at hd ⊢
    by_cases g3 : hexN l = 0
    · rw [if_pos g3]
      exact ⟨by simp, by simp, z0, z1, fun g => by simp at g, fun _ => hz, fun g => by simp at g, h.ln, h.no⟩
    · rw [if_neg g3]
      exact ⟨by simp, by simp, z0, z1, fun _ => by simp only; omega, fun g => absurd rfl g, fun _ => he, h.ln, h.no⟩
  rw [if_neg g0] at hd ⊢
  by_cases g2 : k.st = 2
  · rw [if_pos g2] at hd ⊢
    by_cases g3 : l = []
    · rw [if_pos g3]
      exact ⟨by simp, by simp, z0, z1, fun g => by simp at g, fun _ => hz, fun g => by simp at g, h.ln, h.no⟩
    · rw [if_neg g3] at hd; simp at hd
  rw [if_neg g2] at hd ⊢
  by_cases g3 : l = []
  · rw [if_pos g3]
    exact ⟨by simp, by simp, z0, z1, fun g => by simp at g, fun _ => hz, fun _ => he, h.ln, h.no⟩
  · rw [if_neg g3]; exact h
theorem good_run : ∀ (s : List UInt8) (k : K), Good k → (run k s).e = 0 → Good (run k s).k
  | [], k, hg, h => hg
  | c :: s, k, hg, h => by
    rw [run] at h ⊢
    by_cases h4 : k.st = 4
    · rw [if_pos h4]; exact hg
    rw [if_neg h4] at h ⊢
    by_cases h1 : k.st = 1
    · rw [if_pos h1] at h ⊢
      rw [on_e] at h
      rw [on_k]; exact good_run s _ (good_kd hg h1 (by have := (hg.lf h1).1; omega)) h
    rw [if_neg h1] at h ⊢
    by_cases hc : c = 10
    · rw [if_pos hc] at h ⊢
      by_cases hd : (dd (kl k ⟨#[]⟩) (bareL k.line.data.toList)).1 = 0
      · rw [if_pos hd] at h ⊢
        exact good_run s _ (good_dd (k := kl k ⟨#[]⟩) (good_kl hg h1 h4 (by decide) (fun c hc => by simp at hc)) h1 h4 rfl _ hd) h
      · rw [if_neg hd] at h; exact absurd h hd
    rw [if_neg hc] at h ⊢
    by_cases hl : 200 ≤ k.line.size
    · rw [if_pos hl] at h; exact absurd h (by decide)
    · rw [if_neg hl] at h ⊢
      refine good_run s _ (good_kl hg h1 h4 (by rw [app_size, bs_size]; simp only [List.length_cons, List.length_nil]; omega) (fun d hd => ?_)) h
      rw [app_list, bs_list] at hd
      rcases List.mem_append.1 hd with hd | hd
      · exact hg.no d hd
      · obtain rfl : d = c := by simpa using hd
        simpa [neB] using hc

end Go.Proofs.YtmpijlaidnhpnaaGreat.Ck
