/- Texts as lists of bytes, by plain reckoning: nothing of the program in it, and no condition beside each theorem's own. -/
import Derived.Below
namespace Go.Proofs.YtojoidhjlbcijaaDoor
set_option linter.unusedVariables false
set_option linter.unusedSimpArgs false

theorem u8_all (p : UInt8 → Bool) (h : ((List.range 256).all fun n => p (UInt8.ofNat n)) = true) (c : UInt8) : p c = true := by
  have := List.all_eq_true.1 h c.toNat (by simp; exact c.toNat_lt)
  simpa using this

/- Sets of bytes -/

def capsL : List UInt8 := [65, 66, 67, 68, 69, 70, 71, 72, 73, 74, 75, 76, 77, 78, 79, 80, 81, 82, 83, 84, 85, 86, 87, 88, 89, 90]
def wordL : List UInt8 := capsL ++ [97, 98, 99, 100, 101, 102, 103, 104, 105, 106, 107, 108, 109, 110, 111, 112, 113, 114, 115, 116, 117, 118, 119, 120, 121, 122, 48, 49, 50, 51, 52, 53, 54, 55, 56, 57, 33, 35, 36, 37, 38, 39, 42, 43, 45, 46, 94, 95, 124, 126, 96]
def ctrlL : List UInt8 := [0, 1, 2, 3, 4, 5, 6, 7, 8, 10, 11, 12, 13, 14, 15, 16, 17, 18, 19, 20, 21, 22, 23, 24, 25, 26, 27, 28, 29, 30, 31, 127]

def capB (c : UInt8) : Bool := capsL.contains c
def wordB (c : UInt8) : Bool := wordL.contains c
def ctrlB (c : UInt8) : Bool := ctrlL.contains c
def blankB (c : UInt8) : Bool := [32, 9].contains c
def escB (c : UInt8) : Bool := [34, 92].contains c

theorem capB_iff (c : UInt8) : capB c = (decide (65 ≤ c.toNat) && decide (c.toNat ≤ 90)) := by
  have := u8_all (fun c => capB c == (decide (65 ≤ c.toNat) && decide (c.toNat ≤ 90))) (by decide +kernel) c
  simpa using this
theorem ctrlB_iff (c : UInt8) : ctrlB c = (decide (c.toNat < 32) && !decide (c.toNat = 9) || decide (c.toNat = 127)) := by
  have := u8_all (fun c => ctrlB c == (decide (c.toNat < 32) && !decide (c.toNat = 9) || decide (c.toNat = 127))) (by decide +kernel) c
  simpa using this
theorem blankB_iff (c : UInt8) : blankB c = (decide (c.toNat = 32) || decide (c.toNat = 9)) := by
  have := u8_all (fun c => blankB c == (decide (c.toNat = 32) || decide (c.toNat = 9))) (by decide +kernel) c
  simpa using this
theorem escB_iff (c : UInt8) : escB c = (decide (c = 34) || decide (c = 92)) := by
  have := u8_all (fun c => escB c == (decide (c = 34) || decide (c = 92))) (by decide +kernel) c
  simpa using this

/-- The letters, the digits and the byte 96. -/
def plainB (c : UInt8) : Bool := (decide (97 ≤ c.toNat) && decide (c.toNat ≤ 122)) || (decide (65 ≤ c.toNat) && decide (c.toNat ≤ 90)) || (decide (48 ≤ c.toNat) && decide (c.toNat ≤ 57)) || decide (c.toNat = 96)
def signL : List UInt8 := [33, 35, 36, 37, 38, 39, 42, 43, 45, 46, 94, 95, 124, 126]
theorem wordB_iff (c : UInt8) : wordB c = (plainB c || signL.contains c) := by
  have := u8_all (fun c => wordB c == (plainB c || signL.contains c)) (by decide +kernel) c
  simpa using this

/- Small letters -/

def lowB (c : UInt8) : UInt8 := if capB c then c + 32 else c
def lowL (l : List UInt8) : List UInt8 := l.map lowB

theorem lowB_twice (c : UInt8) : lowB (lowB c) = lowB c := by
  have := u8_all (fun c => lowB (lowB c) == lowB c) (by decide +kernel) c
  simpa using this
theorem lowB_word (c : UInt8) : wordB (lowB c) = wordB c := by
  have := u8_all (fun c => wordB (lowB c) == wordB c) (by decide +kernel) c
  simpa using this
theorem lowL_twice (l : List UInt8) : lowL (lowL l) = lowL l := by
  unfold lowL; rw [List.map_map]; apply List.map_congr_left; intro c _; exact lowB_twice c
theorem lowL_length (l : List UInt8) : (lowL l).length = l.length := by simp [lowL]

/- Tokens -/

def tokL (l : List UInt8) : Bool := !l.isEmpty && l.all wordB
theorem tokL_low (l : List UInt8) : tokL (lowL l) = tokL l := by
  unfold tokL lowL
  rw [List.all_map]
  congr 1
  · cases l <;> rfl
  · congr 1; funext c; exact lowB_word c
theorem tokL_append {l m : List UInt8} (h : tokL l = true) (g : tokL m = true) : tokL (l ++ m) = true := by
  unfold tokL at *
  simp only [Bool.and_eq_true, Bool.not_eq_true', List.all_append, List.isEmpty_eq_false_iff] at *
  exact ⟨by simp [h.1], h.2, g.2⟩

/- What a loop finds -/

theorem takeWhile_at {p : UInt8 → Bool} : ∀ {l : List UInt8} {k : Nat} (hk : k < l.length), (∀ c ∈ l.take k, p c = true) → p l[k] = false → (l.takeWhile p).length = k
  | [], k, hk, _, _ => by simp at hk
  | c :: l, 0, hk, _, h => by simp at h; simp [List.takeWhile_cons, h]
  | c :: l, k + 1, hk, h, g => by
    have hc : p c = true := h c (by simp)
    rw [List.takeWhile_cons, if_pos hc, List.length_cons, takeWhile_at (l := l) (k := k) (by simpa using hk) (fun d hd => h d (by simp [hd])) (by simpa using g)]
theorem takeWhile_all {p : UInt8 → Bool} {l : List UInt8} (h : ∀ c ∈ l, p c = true) : (l.takeWhile p).length = l.length := by
  induction l with
  | nil => rfl
  | cons c l ih => rw [List.takeWhile_cons, if_pos (h c (by simp)), List.length_cons, List.length_cons, ih (fun d hd => h d (by simp [hd]))]
theorem takeWhile_le (p : UInt8 → Bool) (l : List UInt8) : (l.takeWhile p).length ≤ l.length := by
  induction l with
  | nil => simp
  | cons c l ih => rw [List.takeWhile_cons]; split <;> simp <;> omega
theorem drop_takeWhile (p : UInt8 → Bool) (l : List UInt8) : l.drop (l.takeWhile p).length = l.dropWhile p := by
  induction l with
  | nil => rfl
  | cons c l ih => rw [List.takeWhile_cons, List.dropWhile_cons]; split <;> simp [ih]

/-- Just behind the last byte that is not as p says. -/
def lastN (p : UInt8 → Bool) (l : List UInt8) : Nat := l.length - (l.reverse.takeWhile p).length
theorem lastN_le (p : UInt8 → Bool) (l : List UInt8) : lastN p l ≤ l.length := by unfold lastN; omega
theorem lastN_at {p : UInt8 → Bool} {l : List UInt8} {k : Nat} (hk : k < l.length) (h : ∀ c ∈ l.drop (k + 1), p c = true) (g : p l[k] = false) : lastN p l = k + 1 := by
  unfold lastN
  have h1 : l.length - 1 - k < l.reverse.length := by simp; omega
  rw [takeWhile_at (l := l.reverse) (k := l.length - 1 - k) h1 ?_ ?_]
  · omega
  · intro c hc
    rw [List.take_reverse, List.mem_reverse] at hc
    apply h
    rwa [show l.length - (l.length - 1 - k) = k + 1 by omega] at hc
  · rw [List.getElem_reverse]
    simpa [show l.length - 1 - (l.length - 1 - k) = k by omega] using g
theorem lastN_none {p : UInt8 → Bool} {l : List UInt8} (h : ∀ c ∈ l, p c = true) : lastN p l = 0 := by
  unfold lastN
  rw [takeWhile_all (by intro c hc; exact h c (List.mem_reverse.1 hc))]
  simp
theorem take_lastN (p : UInt8 → Bool) (l : List UInt8) : l.take (lastN p l) = (l.reverse.dropWhile p).reverse := by
  rw [← drop_takeWhile, List.drop_reverse, List.reverse_reverse, lastN]

def trimL (l : List UInt8) : List UInt8 := ((l.dropWhile blankB).reverse.dropWhile blankB).reverse

theorem trimL_eq (l : List UInt8) : (l.drop (l.takeWhile blankB).length).take (lastN blankB (l.drop (l.takeWhile blankB).length)) = trimL l := by
  rw [take_lastN, drop_takeWhile, trimL]
theorem dropWhile_le (p : UInt8 → Bool) (l : List UInt8) : (l.dropWhile p).length ≤ l.length := by
  induction l with
  | nil => simp
  | cons c l ih => rw [List.dropWhile_cons]; split <;> simp <;> omega
theorem trimL_le (l : List UInt8) : (trimL l).length ≤ l.length := by
  unfold trimL
  have h1 := dropWhile_le blankB (l.dropWhile blankB).reverse
  have h2 := dropWhile_le blankB l
  simp at h1 ⊢
  omega

theorem dropWhile_head (p : UInt8 → Bool) (l : List UInt8) (c : UInt8) (h : (l.dropWhile p).head? = some c) : p c = false := by
  induction l with
  | nil => simp at h
  | cons d l ih =>
    rw [List.dropWhile_cons] at h
    split at h
    · exact ih h
    · rename_i hd; simp at h; subst h; simpa using hd
theorem dropWhile_same {p : UInt8 → Bool} {l : List UInt8} (h : ∀ c, l.head? = some c → p c = false) : l.dropWhile p = l := by
  cases l with
  | nil => rfl
  | cons c l => rw [List.dropWhile_cons, h c rfl]; simp
/-- What stays ahead when the end goes. -/
theorem head_of_end (p : UInt8 → Bool) (l : List UInt8) (c : UInt8) (h : ((l.reverse.dropWhile p).reverse).head? = some c) : l.head? = some c := by
  rw [← take_lastN] at h
  cases l with
  | nil => simp at h
  | cons d l =>
    cases hn : lastN p (d :: l) with
    | zero => rw [hn] at h; simp at h
    | succ n => rw [hn] at h; simpa using h
theorem trimL_head (l : List UInt8) (c : UInt8) (h : (trimL l).head? = some c) : blankB c = false := dropWhile_head blankB l c (head_of_end _ _ _ h)
theorem trimL_last (l : List UInt8) (c : UInt8) (h : (trimL l).getLast? = some c) : blankB c = false := by
  unfold trimL at h
  rw [List.getLast?_reverse] at h
  exact dropWhile_head _ _ _ h
theorem trimL_same {l : List UInt8} (h : ∀ c, l.head? = some c → blankB c = false) (g : ∀ c, l.getLast? = some c → blankB c = false) : trimL l = l := by
  unfold trimL
  rw [dropWhile_same h, dropWhile_same (by intro c hc; rw [List.head?_reverse] at hc; exact g c hc), List.reverse_reverse]
theorem trimL_twice (l : List UInt8) : trimL (trimL l) = trimL l := trimL_same (trimL_head l) (trimL_last l)
theorem dropWhile_append_one {p : UInt8 → Bool} (l : List UInt8) (d : UInt8) (hd : p d = true) : (l ++ [d]).dropWhile p = if l.dropWhile p = [] then [] else l.dropWhile p ++ [d] := by
  induction l with
  | nil => simp [List.dropWhile_cons, hd]
  | cons c l ih =>
    rw [List.cons_append, List.dropWhile_cons, List.dropWhile_cons]
    split
    · exact ih
    · simp
theorem trimL_around (l : List UInt8) : trimL (32 :: (l ++ [9])) = trimL l := by
  unfold trimL
  rw [List.dropWhile_cons, if_pos (by decide), dropWhile_append_one l 9 (by decide)]
  split
  · rename_i h; rw [h]
  · rw [List.reverse_append]
    show (List.dropWhile blankB (9 :: (l.dropWhile blankB).reverse)).reverse = _
    rw [List.dropWhile_cons, if_pos (by decide)]

/- Quotes -/

/-- How many bytes stand ahead of the quote that ends. -/
def qlen : List UInt8 → Option Nat
  | [] => none
  | c :: r => if c = 34 then some 0 else if c = 92 then (match r with | [] => none | _ :: r' => (qlen r').map (· + 2)) else (qlen r).map (· + 1)

theorem qlen_nil : qlen [] = none := by rw [qlen]
theorem qlen_quote (r : List UInt8) : qlen (34 :: r) = some 0 := by rw [qlen.eq_def]; simp
theorem qlen_back (r : List UInt8) : qlen (92 :: r) = (qlen (r.drop 1)).map (· + 2) := by
  cases r with
  | nil => rw [qlen.eq_def]; simp [qlen_nil]
  | cons d r => rw [qlen.eq_def]; simp
theorem qlen_else {c : UInt8} (r : List UInt8) (h : c ≠ 34) (g : c ≠ 92) : qlen (c :: r) = (qlen r).map (· + 1) := by rw [qlen.eq_def]; simp [h, g]

/-- Where the quotes end that were opened ahead of k. -/
def cl (l : List UInt8) (k : Nat) : Nat := match qlen (l.drop k) with | none => l.length | some n => k + n

theorem qlen_lt_len : ∀ (k : Nat) {l : List UInt8} {n : Nat}, l.length ≤ k → qlen l = some n → n < l.length ∧ l[n]? = some 34
  | 0, l, n, hk, h => by
    obtain rfl : l = [] := List.length_eq_zero_iff.1 (by omega)
    simp [qlen_nil] at h
  | k + 1, [], n, hk, h => by simp [qlen_nil] at h
  | k + 1, c :: r, n, hk, h => by
    by_cases h1 : c = 34
    · subst h1; rw [qlen_quote] at h; obtain rfl := Option.some.inj h; simp
    · by_cases h2 : c = 92
      · subst h2
        rw [qlen_back] at h
        cases hq : qlen (r.drop 1) with
        | none => rw [hq] at h; simp at h
        | some m =>
          rw [hq] at h
          obtain rfl : m + 2 = n := by simpa using h
          have := qlen_lt_len k (by simp at hk ⊢; omega) hq
          rw [List.length_drop, List.getElem?_drop] at this
          refine ⟨by simp; omega, ?_⟩
          rw [List.getElem?_cons_succ]
          rw [Nat.add_comm 1 m] at this
          exact this.2
      · rw [qlen_else r h1 h2] at h
        cases hq : qlen r with
        | none => rw [hq] at h; simp at h
        | some m =>
          rw [hq] at h
          obtain rfl : m + 1 = n := by simpa using h
          have := qlen_lt_len k (by simp at hk; omega) hq
          exact ⟨by simp; omega, by rw [List.getElem?_cons_succ]; exact this.2⟩
theorem qlen_lt {l : List UInt8} {n : Nat} (h : qlen l = some n) : n < l.length ∧ l[n]? = some 34 := qlen_lt_len l.length (Nat.le_refl _) h

theorem cl_le {l : List UInt8} (k : Nat) : cl l k ≤ l.length := by
  unfold cl
  cases h : qlen (l.drop k) with
  | none => simp
  | some n => have := (qlen_lt h).1; rw [List.length_drop] at this; simp; omega
theorem cl_ge {l : List UInt8} {k : Nat} (hk : k ≤ l.length) : k ≤ cl l k := by
  unfold cl
  cases h : qlen (l.drop k) <;> simp <;> omega
theorem cl_past {l : List UInt8} {k : Nat} (h : l.length ≤ k) : cl l k = l.length := by
  unfold cl
  rw [List.drop_eq_nil_of_le h, qlen_nil]
theorem cl_quote {l : List UInt8} {k : Nat} (hk : k < l.length) (h : l[k] = 34) : cl l k = k := by
  unfold cl
  rw [List.drop_eq_getElem_cons hk, h, qlen_quote]; rfl
theorem cl_back {l : List UInt8} {k : Nat} (hk : k < l.length) (h : l[k] = 92) : cl l k = cl l (k + 2) := by
  unfold cl
  rw [List.drop_eq_getElem_cons hk, h, qlen_back, List.drop_drop]
  cases qlen (l.drop (k + 1 + 1)) <;> simp <;> omega
theorem cl_else {l : List UInt8} {k : Nat} (hk : k < l.length) (h : l[k] ≠ 34) (g : l[k] ≠ 92) : cl l k = cl l (k + 1) := by
  unfold cl
  rw [List.drop_eq_getElem_cons hk, qlen_else _ h g]
  cases qlen (l.drop (k + 1)) <;> simp <;> omega

/- Parts -/

/-- The parts of a text, byte by byte: outside of quotes (0), within them (1), behind a 92 within them (2). -/
def sp (b : UInt8) : Nat → List UInt8 → List UInt8 → Option (List (List UInt8))
  | st, acc, [] => if st = 0 then some [trimL acc] else none
  | 0, acc, c :: r => if c = b then (sp b 0 [] r).map (trimL acc :: ·) else if c = 34 then sp b 1 (acc ++ [c]) r else sp b 0 (acc ++ [c]) r
  | 1, acc, c :: r => if c = 34 then sp b 0 (acc ++ [c]) r else if c = 92 then sp b 2 (acc ++ [c]) r else sp b 1 (acc ++ [c]) r
  | _, acc, c :: r => sp b 1 (acc ++ [c]) r

theorem sp_nil (b : UInt8) (acc : List UInt8) : sp b 0 acc [] = some [trimL acc] := by simp [sp]
theorem sp_by (b : UInt8) (acc r : List UInt8) : sp b 0 acc (b :: r) = (sp b 0 [] r).map (trimL acc :: ·) := by rw [sp, if_pos rfl]
theorem sp_else {b c : UInt8} (acc r : List UInt8) (h : c ≠ b) (g : c ≠ 34) : sp b 0 acc (c :: r) = sp b 0 (acc ++ [c]) r := by rw [sp, if_neg h, if_neg g]
theorem sp_open {b : UInt8} (acc r : List UInt8) (h : (34 : UInt8) ≠ b) : sp b 0 acc (34 :: r) = sp b 1 (acc ++ [34]) r := by rw [sp, if_neg h, if_pos rfl]

theorem sp_in (b : UInt8) : ∀ (k : Nat) (l acc : List UInt8), l.length ≤ k → sp b 1 acc l = match qlen l with | none => none | some n => sp b 0 (acc ++ l.take (n + 1)) (l.drop (n + 1))
  | 0, l, acc, hk => by
    obtain rfl : l = [] := List.length_eq_zero_iff.1 (by omega)
    simp [sp, qlen_nil]
  | k + 1, [], acc, hk => by simp [sp, qlen_nil]
  | k + 1, c :: r, acc, hk => by
    by_cases h1 : c = 34
    · subst h1; rw [qlen_quote, sp, if_pos rfl]; simp
    · by_cases h2 : c = 92
      · subst h2
        rw [qlen_back, sp, if_neg (by decide), if_pos rfl]
        cases r with
        | nil => simp [sp, qlen_nil]
        | cons d r =>
          rw [sp, sp_in b k r _ (by simp at hk; omega), List.drop_one, List.tail_cons]
          · cases qlen r <;> simp
          · omega
          · omega
      · rw [qlen_else r h1 h2, sp, if_neg h1, if_neg h2, sp_in b k r _ (by simp at hk; omega)]
        cases qlen r <;> simp

/-- Quotes are gone over at once. -/
theorem sp_quotes {b : UInt8} {l acc : List UInt8} {k : Nat} (hk : k < l.length) (h : l[k] = 34) (hb : (34 : UInt8) ≠ b) :
    sp b 0 acc (l.drop k) = if cl l (k + 1) < l.length then sp b 0 (acc ++ (l.take (cl l (k + 1) + 1)).drop k) (l.drop (cl l (k + 1) + 1)) else none := by
  rw [List.drop_eq_getElem_cons hk, h, sp_open _ _ hb, sp_in b _ _ _ (Nat.le_refl _)]
  unfold cl
  cases hq : qlen (l.drop (k + 1)) with
  | none => simp
  | some n =>
    have hn := (qlen_lt hq).1
    rw [List.length_drop] at hn
    simp only
    rw [if_pos (by omega), List.drop_drop, List.append_assoc]
    congr 2
    rw [List.drop_take, show k + 1 + n + 1 - k = n + 1 + 1 by omega, List.drop_eq_getElem_cons hk, h, List.take_succ_cons]
    rfl

def splitL (b : UInt8) (l : List UInt8) : Option (List (List UInt8)) := if b = 34 ∨ b = 92 then none else sp b 0 [] l

theorem sp_plain {b : UInt8} : ∀ (p acc r : List UInt8), (∀ c ∈ p, c ≠ b ∧ c ≠ 34) → sp b 0 acc (p ++ r) = sp b 0 (acc ++ p) r
  | [], acc, r, _ => by simp
  | c :: p, acc, r, h => by
    have hc := h c (by simp)
    rw [List.cons_append, sp_else _ _ hc.1 hc.2, sp_plain p _ r (fun d hd => h d (by simp [hd]))]
    simp
theorem sp_whole {b : UInt8} {p : List UInt8} (h : ∀ c ∈ p, c ≠ b ∧ c ≠ 34) : sp b 0 [] p = some [trimL p] := by
  have := sp_plain p [] [] h
  rw [List.append_nil, List.nil_append, sp_nil] at this
  exact this

/- Quoting -/

def esc1 (c : UInt8) : List UInt8 := if escB c then [92, c] else [c]
def escL (l : List UInt8) : List UInt8 := l.flatMap esc1
def quoteL (l : List UInt8) : List UInt8 := 34 :: (escL l ++ [34])

theorem escL_cons (c : UInt8) (l : List UInt8) : escL (c :: l) = esc1 c ++ escL l := by unfold escL; rw [List.flatMap_cons]
theorem esc1_yes {c : UInt8} (h : escB c = true) : esc1 c = [92, c] := by rw [esc1, if_pos h]
theorem esc1_no {c : UInt8} (h : escB c = false) : esc1 c = [c] := by rw [esc1, if_neg (by simp [h])]
theorem esc_ne {c : UInt8} (h : escB c = false) : c ≠ 34 ∧ c ≠ 92 := by rw [escB_iff] at h; simpa using h

theorem escL_le (l : List UInt8) : (escL l).length ≤ 2 * l.length := by
  induction l with
  | nil => simp [escL]
  | cons c l ih =>
    rw [escL_cons, List.length_append, List.length_cons]
    have : (esc1 c).length ≤ 2 := by unfold esc1; split <;> simp
    omega
theorem qlen_esc (l : List UInt8) : qlen (escL l ++ [34]) = some (escL l).length := by
  induction l with
  | nil => simp [escL, qlen_quote]
  | cons c l ih =>
    rw [escL_cons, List.append_assoc]
    cases h : escB c with
    | true =>
      rw [esc1_yes h]
      show qlen (92 :: (c :: (escL l ++ [34]))) = _
      rw [qlen_back, List.drop_one, List.tail_cons, ih]
      simp
    | false =>
      rw [esc1_no h]
      show qlen (c :: (escL l ++ [34])) = _
      rw [qlen_else _ (esc_ne h).1 (esc_ne h).2, ih]
      simp

/-- What stands between quotes, without what stands ahead of other bytes. -/
def unescL : List UInt8 → List UInt8
  | [] => []
  | c :: r => if c = 92 then (match r with | [] => [] | d :: r' => d :: unescL r') else c :: unescL r
theorem unescL_nil : unescL [] = [] := by rw [unescL]
theorem unescL_back (d : UInt8) (r : List UInt8) : unescL (92 :: d :: r) = d :: unescL r := by rw [unescL.eq_def]; simp
theorem unescL_else {c : UInt8} (r : List UInt8) (h : c ≠ 92) : unescL (c :: r) = c :: unescL r := by rw [unescL.eq_def]; simp [h]
theorem unesc_esc (l : List UInt8) : unescL (escL l) = l := by
  induction l with
  | nil => simp [escL, unescL_nil]
  | cons c l ih =>
    rw [escL_cons]
    cases h : escB c with
    | true =>
      rw [esc1_yes h]
      show unescL (92 :: c :: escL l) = _
      rw [unescL_back, ih]
    | false =>
      rw [esc1_no h]
      show unescL (c :: escL l) = _
      rw [unescL_else _ (esc_ne h).2, ih]

/-- Is a text quoted? -/
def quotedL (l : List UInt8) : Bool := decide (l.head? = some 34) && decide (cl l 1 + 1 = l.length) && !l.any ctrlB
/-- The text between the quotes. -/
def midL (l : List UInt8) : List UInt8 := (l.drop 1).take (l.length - 2)

theorem cl_one_lt {l : List UInt8} (h : cl l 1 + 1 = l.length) (h0 : l.head? = some 34) : 2 ≤ l.length ∧ qlen (midL l ++ [34]) = some (midL l).length ∧ l = 34 :: (midL l ++ [34]) := by
  cases l with
  | nil => simp at h
  | cons c r =>
    obtain rfl : c = 34 := by simpa using h0
    unfold cl at h
    rw [List.drop_one, List.tail_cons] at h
    cases hq : qlen r with
    | none => rw [hq] at h; simp at h
    | some n =>
      rw [hq] at h
      simp at h
      obtain ⟨hn, hn2⟩ := qlen_lt hq
      have hr : r = r.take n ++ [34] := by
        have h1 : n = r.length - 1 := by omega
        rw [← List.take_append_drop n r]
        congr 1
        · rw [List.take_append_drop]
        · rw [List.drop_eq_getElem_cons hn, List.drop_eq_nil_of_le (by omega)]
          rw [List.getElem?_eq_getElem hn] at hn2
          rw [Option.some.inj hn2]
      have hm : midL (34 :: r) = r.take n := by
        unfold midL
        rw [List.drop_one, List.tail_cons, List.length_cons]
        congr 1; omega
      have hl : (r.take n).length = n := by rw [List.length_take]; omega
      refine ⟨by simp; omega, ?_, ?_⟩
      · rw [hm, ← hr, hl, hq]
      · rw [hm, ← hr]

theorem ctrl_mid {l : List UInt8} (h : l = 34 :: (midL l ++ [34])) : l.any ctrlB = (midL l).any ctrlB := by
  rw [h]
  simp only [List.any_cons, List.any_append, List.any_nil]
  rw [show ctrlB 34 = false by decide]
  simp
  rw [← h]

def unqL (l : List UInt8) : Option (List UInt8) := if quotedL l then some (unescL (midL l)) else none

theorem ctrl_esc (l : List UInt8) : (escL l).any ctrlB = l.any ctrlB := by
  induction l with
  | nil => rfl
  | cons c l ih =>
    unfold escL at ih ⊢
    rw [List.flatMap_cons, List.any_append, List.any_cons, ih]
    unfold esc1
    split
    · simp only [List.any_cons, List.any_nil, show ctrlB 92 = false by decide]; simp
    · simp

theorem quote_mid (l : List UInt8) : midL (quoteL l) = escL l := by
  unfold midL quoteL
  rw [List.drop_one, List.tail_cons, List.length_cons, List.length_append]
  simp
theorem quote_cl (l : List UInt8) : cl (quoteL l) 1 + 1 = (quoteL l).length := by
  unfold cl quoteL
  rw [List.drop_one, List.tail_cons, qlen_esc]
  simp; omega
theorem quote_quoted {l : List UInt8} (h : l.any ctrlB = false) : quotedL (quoteL l) = true := by
  unfold quotedL
  rw [quote_cl, ctrl_mid (by rw [quote_mid]; rfl), quote_mid, ctrl_esc, h]
  simp [quoteL]
theorem back {l : List UInt8} (h : l.any ctrlB = false) : unqL (quoteL l) = some l := by
  unfold unqL
  rw [if_pos (quote_quoted h), quote_mid, unesc_esc]
theorem quote_trim (l : List UInt8) : trimL (quoteL l) = quoteL l := by
  apply trimL_same
  · intro c hc
    have : c = 34 := by simpa [quoteL] using hc.symm
    subst this; decide
  · intro c hc
    have : c = 34 := by
      unfold quoteL at hc
      rw [← List.cons_append, List.getLast?_append] at hc
      simpa using hc.symm
    subst this; decide
theorem quote_one {l : List UInt8} {b : UInt8} (hb : b ≠ 34) : sp b 0 [] (quoteL l) = some [quoteL l] := by
  have h1 := quote_cl l
  have h0 : 0 < (quoteL l).length := by omega
  have h := sp_quotes (b := b) (l := quoteL l) (acc := []) (k := 0) h0 (by simp [quoteL]) (fun h => hb h.symm)
  rw [List.drop_zero] at h
  rw [h, if_pos (by simp only [Nat.zero_add]; omega)]
  simp only [Nat.zero_add]
  rw [h1, List.take_length, List.drop_length, List.drop_zero, List.nil_append, sp_nil, quote_trim]

end Go.Proofs.YtojoidhjlbcijaaDoor
