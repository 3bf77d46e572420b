/- Bodies in chunks as lists of bytes, by plain reckoning: what one byte does, what a line does, what many bytes do: no condition beside each theorem's own. -/
import Derived.Test.YtalhfifippfnkaaMn
import Derived.Test.YtalhfifippfnkaaWc
namespace Go.Proofs.Ytalhfifippfnkaa
set_option linter.unusedVariables false
set_option linter.unusedSimpArgs false

def neB (c x : UInt8) : Bool := x != c
/-- How many bytes stand ahead of the first c. -/
def atN (c : UInt8) (l : List UInt8) : Nat := (l.takeWhile (neB c)).length
theorem atN_le (c : UInt8) (l : List UInt8) : atN c l ≤ l.length := takeWhile_le _ _
theorem tw_all {p : UInt8 → Bool} : ∀ {x : List UInt8}, (∀ c ∈ x, p c = true) → ∀ r, (x ++ r).takeWhile p = x ++ r.takeWhile p
  | [], _, r => rfl
  | c :: x, h, r => by
    rw [List.cons_append, List.takeWhile_cons, if_pos (h c (by simp)), tw_all (fun d hd => h d (by simp [hd])), List.cons_append]
theorem dw_all {p : UInt8 → Bool} : ∀ {x : List UInt8}, (∀ c ∈ x, p c = true) → ∀ r, (x ++ r).dropWhile p = r.dropWhile p
  | [], _, r => rfl
  | c :: x, h, r => by
    rw [List.cons_append, List.dropWhile_cons, if_pos (h c (by simp)), dw_all (fun d hd => h d (by simp [hd]))]
theorem atN_line {c : UInt8} {x r : List UInt8} (h : ∀ d ∈ x, neB c d = true) : atN c (x ++ c :: r) = x.length := by
  unfold atN; rw [tw_all h, List.takeWhile_cons, if_neg (by simp [neB])]; simp
theorem atN_none {c : UInt8} {x : List UInt8} (h : ∀ d ∈ x, neB c d = true) : atN c x = x.length := by
  unfold atN; rw [takeWhile_all h]
theorem tw_mem {p : UInt8 → Bool} : ∀ {l : List UInt8} {c : UInt8}, c ∈ l.takeWhile p → p c = true
  | [], c, h => by simp at h
  | d :: l, c, h => by
    rw [List.takeWhile_cons] at h
    split at h
    · rename_i hd
      rcases List.mem_cons.1 h with rfl | h
      · exact hd
      · exact tw_mem h
    · simp at h
theorem take_atN (c : UInt8) (l : List UInt8) : l.take (atN c l) = l.takeWhile (neB c) := (List.prefix_iff_eq_take.1 (List.takeWhile_prefix (neB c))).symm
theorem get_atN {c : UInt8} {l : List UInt8} (h : atN c l < l.length) : l[atN c l] = c := by
  have h1 : l.drop (atN c l) = l.dropWhile (neB c) := drop_takeWhile _ _
  have h2 : (l.dropWhile (neB c)).head? = some l[atN c l] := by
    rw [← h1, List.head?_drop, List.getElem?_eq_getElem h]
  have := dropWhile_head _ _ _ h2
  simpa [neB] using this
theorem parted {c : UInt8} {l : List UInt8} (h : atN c l < l.length) : l = l.take (atN c l) ++ c :: l.drop (atN c l + 1) := by
  conv => lhs; rw [← List.take_append_drop (atN c l) l, List.drop_eq_getElem_cons h, get_atN h]
theorem take_no {c : UInt8} (l : List UInt8) : ∀ d ∈ l.take (atN c l), neB c d = true := by
  rw [take_atN]; intro d hd; exact tw_mem hd
theorem none_no {c : UInt8} {l : List UInt8} (h : ¬ atN c l < l.length) : ∀ d ∈ l, neB c d = true := by
  have := atN_le c l
  have e : l.take (atN c l) = l := List.take_of_length_le (by omega)
  rw [← e]; exact take_no l

/-- A line without a byte 13 at its end. -/
def bareL (l : List UInt8) : List UInt8 := if l.getLast? = some 13 then l.dropLast else l
theorem bareL_le (l : List UInt8) : (bareL l).length ≤ l.length := by
  unfold bareL; split
  · rw [List.length_dropLast]; omega
  · exact Nat.le_refl _
theorem bareL_snoc (x : List UInt8) : bareL (x ++ [13]) = x := by unfold bareL; simp
theorem bareL_no {x : List UInt8} (h : ∀ c ∈ x, neB 13 c = true) : bareL x = x := by
  unfold bareL
  rw [if_neg]
  intro e
  have := h 13 (List.mem_of_getLast? e)
  simp [neB] at this

/-- A text of a list of bytes. -/
def bs (l : List UInt8) : ByteArray := ⟨l.toArray⟩
theorem bs_list (l : List UInt8) : (bs l).data.toList = l := by simp [bs]
theorem bs_size (l : List UInt8) : (bs l).size = l.length := by rw [← size_list, bs_list]
theorem bs_of {s : ByteArray} {l : List UInt8} (h : s.data.toList = l) : s = bs l := by
  apply bytes_ext; rw [bs_list]; exact h
theorem app_bs (a : ByteArray) (x y : List UInt8) : (a ++ bs x) ++ bs y = a ++ bs (x ++ y) := by
  apply bytes_ext; simp only [app_list, bs_list, List.append_assoc]
theorem app_size (a b : ByteArray) : (a ++ b).size = a.size + b.size := by
  rw [← size_list, app_list, List.length_append, size_list, size_list]

/-- What was read so far. -/
structure K where
  st : Int
  line : ByteArray
  left : Int
  size : Int
def k0 : K := ⟨0, ⟨#[]⟩, 0, 0⟩

/-- What was read so far may be. -/
structure Good (k : K) : Prop where
  s0 : 0 ≤ k.st
  s4 : k.st ≤ 4
  z0 : 0 ≤ k.size
  z1 : k.size ≤ 20000
  lf : k.st = 1 → 1 ≤ k.left ∧ k.left ≤ 20000 - k.size
  lz : k.st ≠ 1 → k.left = 0
  le : k.st = 1 ∨ k.st = 4 → k.line = ⟨#[]⟩
  ln : k.line.size ≤ 200
  no : ∀ c ∈ k.line.data.toList, neB 10 c = true

/-- The number that a line begins with, and what reading it tells. -/
def hexE (l : List UInt8) : Nat := rdE 16 (trimL (l.takeWhile (neB 59)))
def hexN (l : List UInt8) : Nat := rdN 16 (trimL (l.takeWhile (neB 59)))

/-- What a line does. -/
def dd (k : K) (l : List UInt8) : Nat × K :=
  if k.st = 0 then
    if hexE l = 10 then (33, k) else if hexE l ≠ 0 ∨ 20000 - k.size < (hexN l : Int) then (2, k)
    else if hexN l = 0 then (0, ⟨3, k.line, k.left, k.size⟩) else (0, ⟨1, k.line, (hexN l : Int), k.size⟩)
  else if k.st = 2 then if l = [] then (0, ⟨0, k.line, k.left, k.size⟩) else (33, k)
  else if l = [] then (0, ⟨4, k.line, k.left, k.size⟩) else (0, k)

/-- So many bytes of data. -/
def kd (k : K) (m : Nat) : K := ⟨if k.left - m = 0 then 2 else 1, k.line, k.left - m, k.size + m⟩
/-- The line is done with. -/
def kl (k : K) (x : ByteArray) : K := ⟨k.st, x, k.left, k.size⟩

/-- What reading tells: an error, what was read so far, the data, what is left. -/
structure Rs where
  e : Nat
  k : K
  d : List UInt8
  r : List UInt8
def bad (e : Nat) : Rs := ⟨e, k0, [], []⟩
def Rs.on (d : List UInt8) (q : Rs) : Rs := if q.e = 0 then ⟨0, q.k, d ++ q.d, q.r⟩ else q

/-- One byte, then the next ones. -/
def run : K → List UInt8 → Rs
  | k, [] => ⟨0, k, [], []⟩
  | k, c :: s =>
    if k.st = 4 then ⟨0, k, [], c :: s⟩
    else if k.st = 1 then (run (kd k 1) s).on [c]
    else if c = 10 then
      if (dd (kl k ⟨#[]⟩) (bareL k.line.data.toList)).1 = 0 then run (dd (kl k ⟨#[]⟩) (bareL k.line.data.toList)).2 s
      else bad (dd (kl k ⟨#[]⟩) (bareL k.line.data.toList)).1
    else if 200 ≤ k.line.size then bad 33
    else run (kl k (k.line ++ bs [c])) s

theorem on_nil (q : Rs) : q.on [] = q := by
  unfold Rs.on; split
  · rename_i h; cases q; simp at h; subst h; rfl
  · rfl
theorem on_on (a b : List UInt8) (q : Rs) : (q.on b).on a = q.on (a ++ b) := by
  unfold Rs.on
  by_cases h : q.e = 0
  · simp [h]
  · rw [if_neg h, if_neg h, if_neg h]
theorem on_e (a : List UInt8) (q : Rs) : (q.on a).e = q.e := by
  unfold Rs.on; split
  · rename_i h; exact h.symm
  · rfl
theorem on_k (a : List UInt8) (q : Rs) : (q.on a).k = q.k := by unfold Rs.on; split <;> rfl
theorem on_r (a : List UInt8) (q : Rs) : (q.on a).r = q.r := by unfold Rs.on; split <;> rfl
theorem on_d {a : List UInt8} {q : Rs} (h : q.e = 0) : (q.on a).d = a ++ q.d := by unfold Rs.on; rw [if_pos h]
theorem on_bad {a : List UInt8} {e : Nat} (h : e ≠ 0) : (bad e).on a = bad e := by unfold Rs.on; rw [if_neg (by exact h)]

theorem run_done {k : K} (h : k.st = 4) (s : List UInt8) : run k s = ⟨0, k, [], s⟩ := by
  cases s with
  | nil => rfl
  | cons c s => rw [run, if_pos h]
theorem run_stop {k : K} {s : List UInt8} (h : s = [] ∨ k.st = 4) : run k s = ⟨0, k, [], s⟩ := by
  rcases h with rfl | h
  · rfl
  · exact run_done h s

theorem dd_e (k : K) (l : List UInt8) : (dd k l).1 = 0 ∨ (dd k l).1 = 33 ∨ (dd k l).1 = 2 := by
  unfold dd; repeat' split
  all_goals simp

/-- What is told beside an error. -/
theorem run_bad : ∀ (s : List UInt8) (k : K), (run k s).e ≠ 0 → run k s = bad (run k s).e
  | [], k, h => absurd rfl h
  | c :: s, k, h => by
    rw [run] at h ⊢
    by_cases h4 : k.st = 4
    · rw [if_pos h4] at h; exact absurd rfl h
    rw [if_neg h4] at h ⊢
    by_cases h1 : k.st = 1
    · rw [if_pos h1] at h ⊢
      rw [on_e] at h ⊢
      have := run_bad s _ h
      rw [this, on_bad h]; rfl
    rw [if_neg h1] at h ⊢
    by_cases hc : c = 10
    · rw [if_pos hc] at h ⊢
      by_cases hd : (dd (kl k ⟨#[]⟩) (bareL k.line.data.toList)).1 = 0
      · rw [if_pos hd] at h ⊢; exact run_bad s _ h
      · rw [if_neg hd]; rfl
    rw [if_neg hc] at h ⊢
    by_cases hl : 200 ≤ k.line.size
    · rw [if_pos hl]; rfl
    · rw [if_neg hl] at h ⊢; exact run_bad s _ h

/-- Bytes in two pieces: an error in the first one, an end in it, or none of these. -/
theorem run_app_bad : ∀ (a : List UInt8) (k : K) (b : List UInt8), (run k a).e ≠ 0 → run k (a ++ b) = run k a
  | [], k, b, h => absurd rfl h
  | c :: s, k, b, h => by
    rw [List.cons_append, run]
    rw [run] at h ⊢
    by_cases h4 : k.st = 4
    · rw [if_pos h4] at h; exact absurd rfl h
    rw [if_neg h4] at h ⊢
    rw [if_neg h4]
    by_cases h1 : k.st = 1
    · rw [if_pos h1] at h ⊢
      rw [if_pos h1]
      rw [on_e] at h
      rw [run_app_bad s _ b h]
    rw [if_neg h1] at h ⊢
    rw [if_neg h1]
    by_cases hc : c = 10
    · rw [if_pos hc] at h ⊢
      rw [if_pos hc]
      by_cases hd : (dd (kl k ⟨#[]⟩) (bareL k.line.data.toList)).1 = 0
      · rw [if_pos hd] at h ⊢
        rw [if_pos hd]; exact run_app_bad s _ b h
      · rw [if_neg hd]; rw [if_neg hd]
    rw [if_neg hc] at h ⊢
    rw [if_neg hc]
    by_cases hl : 200 ≤ k.line.size
    · rw [if_pos hl]; rw [if_pos hl]
    · rw [if_neg hl] at h ⊢
      rw [if_neg hl]; exact run_app_bad s _ b h
theorem run_app_go : ∀ (a : List UInt8) (k : K) (b : List UInt8), (run k a).e = 0 → (run k a).r = [] → run k (a ++ b) = (run (run k a).k b).on (run k a).d
  | [], k, b, h, g => by rw [List.nil_append]; exact (on_nil _).symm
  | c :: s, k, b, h, g => by
    rw [List.cons_append, run]
    rw [run] at h g ⊢
    by_cases h4 : k.st = 4
    · rw [if_pos h4] at g; simp at g
    rw [if_neg h4] at h g ⊢
    rw [if_neg h4]
    by_cases h1 : k.st = 1
    · rw [if_pos h1] at h g ⊢
      rw [if_pos h1]
      rw [on_e] at h
      rw [on_r] at g
      rw [run_app_go s _ b h g, on_on, on_k, on_d h]
    rw [if_neg h1] at h g ⊢
    rw [if_neg h1]
    by_cases hc : c = 10
    · rw [if_pos hc] at h g ⊢
      rw [if_pos hc]
      by_cases hd : (dd (kl k ⟨#[]⟩) (bareL k.line.data.toList)).1 = 0
      · rw [if_pos hd] at h g ⊢
        rw [if_pos hd]; exact run_app_go s _ b h g
      · rw [if_neg hd] at h; exact absurd h hd
    rw [if_neg hc] at h g ⊢
    rw [if_neg hc]
    by_cases hl : 200 ≤ k.line.size
    · rw [if_pos hl] at h; exact absurd h (by decide)
    · rw [if_neg hl] at h g ⊢
      rw [if_neg hl]; exact run_app_go s _ b h g
/-- Behind what ends nothing is read. -/
theorem run_left : ∀ (a : List UInt8) (k : K), (run k a).e = 0 → (run k a).r ≠ [] → (run k a).k.st = 4
  | [], k, h, g => absurd rfl g
  | c :: s, k, h, g => by
    rw [run] at h g ⊢
    by_cases h4 : k.st = 4
    · rw [if_pos h4]; exact h4
    rw [if_neg h4] at h g ⊢
    by_cases h1 : k.st = 1
    · rw [if_pos h1] at h g ⊢
      rw [on_e] at h
      rw [on_r] at g
      rw [on_k]; exact run_left s _ h g
    rw [if_neg h1] at h g ⊢
    by_cases hc : c = 10
    · rw [if_pos hc] at h g ⊢
      by_cases hd : (dd (kl k ⟨#[]⟩) (bareL k.line.data.toList)).1 = 0
      · rw [if_pos hd] at h g ⊢; exact run_left s _ h g
      · rw [if_neg hd] at h; exact absurd h hd
    rw [if_neg hc] at h g ⊢
    by_cases hl : 200 ≤ k.line.size
    · rw [if_pos hl] at h; exact absurd h (by decide)
    · rw [if_neg hl] at h g ⊢; exact run_left s _ h g
/-- What is left are the last bytes. -/
theorem run_part : ∀ (a : List UInt8) (k : K), (run k a).e = 0 → ∃ x, a = x ++ (run k a).r ∧ (run k x).e = 0 ∧ (run k x).r = [] ∧ (run k x).k = (run k a).k ∧ (run k x).d = (run k a).d
  | [], k, h => ⟨[], rfl, rfl, rfl, rfl, rfl⟩
  | c :: s, k, h => by
    rw [run] at h ⊢
    by_cases h4 : k.st = 4
    · rw [if_pos h4]; exact ⟨[], rfl, rfl, rfl, rfl, rfl⟩
    rw [if_neg h4] at h ⊢
    by_cases h1 : k.st = 1
    · rw [if_pos h1] at h ⊢
      rw [on_e] at h
      obtain ⟨x, e1, e2, e3, e4, e5⟩ := run_part s _ h
      refine ⟨c :: x, ?_, ?_, ?_, ?_, ?_⟩
      · rw [on_r, List.cons_append, ← e1]
      · rw [run, if_neg h4, if_pos h1, on_e, e2]
      · rw [run, if_neg h4, if_pos h1, on_r, e3]
      · rw [run, if_neg h4, if_pos h1, on_k, on_k, e4]
      · rw [run, if_neg h4, if_pos h1, on_d e2, on_d h, e5]
    rw [if_neg h1] at h ⊢
    by_cases hc : c = 10
    · rw [if_pos hc] at h ⊢
      by_cases hd : (dd (kl k ⟨#[]⟩) (bareL k.line.data.toList)).1 = 0
      · rw [if_pos hd] at h ⊢
        obtain ⟨x, e1, e2, e3, e4, e5⟩ := run_part s _ h
        refine ⟨c :: x, by rw [List.cons_append, ← e1], ?_, ?_, ?_, ?_⟩
        · rw [run, if_neg h4, if_neg h1, if_pos hc, if_pos hd, e2]
        · rw [run, if_neg h4, if_neg h1, if_pos hc, if_pos hd, e3]
        · rw [run, if_neg h4, if_neg h1, if_pos hc, if_pos hd, e4]
        · rw [run, if_neg h4, if_neg h1, if_pos hc, if_pos hd, e5]
      · rw [if_neg hd] at h; exact absurd h hd
    rw [if_neg hc] at h ⊢
    by_cases hl : 200 ≤ k.line.size
    · rw [if_pos hl] at h; exact absurd h (by decide)
    · rw [if_neg hl] at h ⊢
      obtain ⟨x, e1, e2, e3, e4, e5⟩ := run_part s _ h
      refine ⟨c :: x, by rw [List.cons_append, ← e1], ?_, ?_, ?_, ?_⟩
      · rw [run, if_neg h4, if_neg h1, if_neg hc, if_neg hl, e2]
      · rw [run, if_neg h4, if_neg h1, if_neg hc, if_neg hl, e3]
      · rw [run, if_neg h4, if_neg h1, if_neg hc, if_neg hl, e4]
      · rw [run, if_neg h4, if_neg h1, if_neg hc, if_neg hl, e5]

/-- Data, up to a chunk's end. -/
theorem run_data : ∀ (s : List UInt8) (k : K) (m : Nat), k.st = 1 → 1 ≤ k.left → m = min k.left.toNat s.length → run k s = (run (kd k m) (s.drop m)).on (s.take m)
  | [], k, m, h1, hl, hm => by
    have : m = 0 := by rw [hm]; simp
    subst this
    have e : kd k 0 = k := by
      cases k; simp only at h1 hl; subst h1
      unfold kd; simp; omega
    rw [e, List.drop_nil, List.take_nil, on_nil]
  | c :: s, k, m, h1, hl, hm => by
    have hm1 : 1 ≤ m := by rw [hm, List.length_cons]; omega
    obtain ⟨j, rfl⟩ : ∃ j, m = j + 1 := ⟨m - 1, by omega⟩
    rw [run, if_neg (by rw [h1]; decide), if_pos h1, List.drop_succ_cons, List.take_succ_cons]
    by_cases h2 : k.left = 1
    · have : j = 0 := by rw [h2, List.length_cons] at hm; omega
      subst this
      rw [List.drop_zero, List.take_zero]
    · have e : kd (kd k 1) j = kd k (j + 1) := by
        unfold kd
        simp only [K.mk.injEq, true_and]
        refine ⟨?_, by omega, by omega⟩
        have : k.left - ((1 : Nat) : Int) - (j : Int) = k.left - ((j + 1 : Nat) : Int) := by omega
        rw [this]
      rw [run_data s (kd k 1) j (by unfold kd; simp only; rw [if_neg (by omega)]) (by unfold kd; simp only; omega) (by unfold kd; simp only; rw [List.length_cons] at hm; omega), e, on_on]
      rfl

/-- Bytes of a line, without its end. -/
theorem run_word : ∀ (x : List UInt8) (k : K) (t : List UInt8), k.st ≠ 1 → k.st ≠ 4 → (∀ c ∈ x, neB 10 c = true) → k.line.size + x.length ≤ 200 → run k (x ++ t) = run (kl k (k.line ++ bs x)) t
  | [], k, t, h1, h4, hx, hl => by
    have e : k.line ++ bs [] = k.line := by apply bytes_ext; rw [app_list, bs_list, List.append_nil]
    rw [e, List.nil_append]; rfl
  | c :: x, k, t, h1, h4, hx, hl => by
    have hc : c ≠ 10 := by have := hx c (by simp); simpa [neB] using this
    rw [List.length_cons] at hl
    have hz : (k.line ++ bs [c]).size = k.line.size + 1 := by rw [app_size, bs_size]; rfl
    rw [List.cons_append, run, if_neg h4, if_neg h1, if_neg hc, if_neg (by omega),
      run_word x (kl k (k.line ++ bs [c])) t h1 h4 (fun d hd => hx d (by simp [hd])) (by show (k.line ++ bs [c]).size + _ ≤ _; rw [hz]; omega)]
    show run (kl (kl k _) ((k.line ++ bs [c]) ++ bs x)) t = _
    rw [app_bs]; rfl
theorem run_over {x : List UInt8} {k : K} (t : List UInt8) (h1 : k.st ≠ 1) (h4 : k.st ≠ 4) (hx : ∀ c ∈ x, neB 10 c = true) (h0 : k.line.size ≤ 200) (hl : 200 < k.line.size + x.length) : run k (x ++ t) = bad 33 := by
  have hk : 200 - k.line.size < x.length := by omega
  have e : x ++ t = x.take (200 - k.line.size) ++ (x[200 - k.line.size] :: (x.drop (200 - k.line.size + 1) ++ t)) := by
    rw [← List.cons_append, ← List.drop_eq_getElem_cons hk, ← List.append_assoc, List.take_append_drop]
  have hc : x[200 - k.line.size] ≠ 10 := by have := hx _ (List.getElem_mem hk); simpa [neB] using this
  rw [e, run_word _ k _ h1 h4 (fun c hc => hx c (List.mem_of_mem_take hc)) (by rw [List.length_take]; omega), run, if_neg (by exact h4), if_neg (by exact h1), if_neg hc, if_pos]
  show 200 ≤ (k.line ++ bs _).size
  rw [app_size, bs_size, List.length_take]; omega
theorem run_line {x : List UInt8} {k : K} (t : List UInt8) (h1 : k.st ≠ 1) (h4 : k.st ≠ 4) (hx : ∀ c ∈ x, neB 10 c = true) (hl : k.line.size + x.length ≤ 200) :
    run k (x ++ 10 :: t) = if (dd (kl k ⟨#[]⟩) (bareL (k.line.data.toList ++ x))).1 = 0 then run (dd (kl k ⟨#[]⟩) (bareL (k.line.data.toList ++ x))).2 t else bad (dd (kl k ⟨#[]⟩) (bareL (k.line.data.toList ++ x))).1 := by
  have e : (k.line ++ bs x).data.toList = k.line.data.toList ++ x := by rw [app_list, bs_list]
  rw [run_word _ k _ h1 h4 hx hl, run, if_neg (by exact h4), if_neg (by exact h1), if_pos rfl]
  show (if (dd (kl k ⟨#[]⟩) (bareL (k.line ++ bs x).data.toList)).1 = 0 then run (dd (kl k ⟨#[]⟩) (bareL (k.line ++ bs x).data.toList)).2 t else bad (dd (kl k ⟨#[]⟩) (bareL (k.line ++ bs x).data.toList)).1) = _
  rw [e]

theorem good0 : Good k0 := ⟨by decide, by decide, by decide, by decide, fun h => absurd h (by decide), fun _ => rfl, fun _ => rfl, by decide, fun c hc => by simp [k0] at hc⟩
theorem good_kd {k : K} (h : Good k) (h1 : k.st = 1) {m : Nat} (hm : (m : Int) ≤ k.left) : Good (kd k m) := by
  have hl := h.lf h1
  have hz := h.z0
  have he := h.le (Or.inl h1)
  unfold kd
  by_cases hz' : k.left - m = 0
  · rw [if_pos hz']
    exact ⟨by simp, by simp, by simp only; omega, by simp only; omega, fun g => by simp at g, fun _ => hz', fun g => by simp at g, h.ln, h.no⟩
  · rw [if_neg hz']
    exact ⟨by simp, by simp, by simp only; omega, by simp only; omega, fun _ => by simp only; omega, fun g => absurd rfl g, fun _ => he, h.ln, h.no⟩
theorem good_kl {k : K} (h : Good k) (h1 : k.st ≠ 1) (h4 : k.st ≠ 4) {x : ByteArray} (hx : x.size ≤ 200) (hn : ∀ c ∈ x.data.toList, neB 10 c = true) : Good (kl k x) :=
  ⟨h.s0, h.s4, h.z0, h.z1, fun g => absurd g h1, fun g => h.lz g, fun g => by rcases g with g | g; exact absurd g h1; exact absurd g h4, hx, hn⟩
theorem good_dd {k : K} (h : Good k) (h1 : k.st ≠ 1) (h4 : k.st ≠ 4) (he : k.line = ⟨#[]⟩) (l : List UInt8) (hd : (dd k l).1 = 0) : Good (dd k l).2 := by
  have hz := h.lz h1
  have z0 := h.z0
  have z1 := h.z1
  unfold dd at hd ⊢
  by_cases g0 : k.st = 0
  · rw [if_pos g0] at hd ⊢
    by_cases g1 : hexE l = 10
    · rw [if_pos g1] at hd; simp at hd
    rw [if_neg g1] at hd ⊢
    by_cases g2 : hexE l ≠ 0 ∨ 20000 - k.size < (hexN l : Int)
    · rw [if_pos g2] at hd; simp at hd
    rw [if_neg g2] at hd ⊢
    by_cases g3 : hexN l = 0
    · rw [if_pos g3]
      exact ⟨by simp, by simp, z0, z1, fun g => by simp at g, fun _ => hz, fun g => by simp at g, h.ln, h.no⟩
    · rw [if_neg g3]
      exact ⟨by simp, by simp, z0, z1, fun _ => by simp only; omega, fun g => absurd rfl g, fun _ => he, h.ln, h.no⟩
  rw [if_neg g0] at hd ⊢
  by_cases g2 : k.st = 2
  · rw [if_pos g2] at hd ⊢
    by_cases g3 : l = []
    · rw [if_pos g3]
      exact ⟨by simp, by simp, z0, z1, fun g => by simp at g, fun _ => hz, fun g => by simp at g, h.ln, h.no⟩
    · rw [if_neg g3] at hd; simp at hd
  rw [if_neg g2] at hd ⊢
  by_cases g3 : l = []
  · rw [if_pos g3]
    exact ⟨by simp, by simp, z0, z1, fun g => by simp at g, fun _ => hz, fun _ => he, h.ln, h.no⟩
  · rw [if_neg g3]; exact h
theorem good_run : ∀ (s : List UInt8) (k : K), Good k → (run k s).e = 0 → Good (run k s).k
  | [], k, hg, h => hg
  | c :: s, k, hg, h => by
    rw [run] at h ⊢
    by_cases h4 : k.st = 4
    · rw [if_pos h4]; exact hg
    rw [if_neg h4] at h ⊢
    by_cases h1 : k.st = 1
    · rw [if_pos h1] at h ⊢
      rw [on_e] at h
      rw [on_k]; exact good_run s _ (good_kd hg h1 (by have := (hg.lf h1).1; omega)) h
    rw [if_neg h1] at h ⊢
    by_cases hc : c = 10
    · rw [if_pos hc] at h ⊢
      by_cases hd : (dd (kl k ⟨#[]⟩) (bareL k.line.data.toList)).1 = 0
      · rw [if_pos hd] at h ⊢
        exact good_run s _ (good_dd (k := kl k ⟨#[]⟩) (good_kl hg h1 h4 (by decide) (fun c hc => by simp at hc)) h1 h4 rfl _ hd) h
      · rw [if_neg hd] at h; exact absurd h hd
    rw [if_neg hc] at h ⊢
    by_cases hl : 200 ≤ k.line.size
    · rw [if_pos hl] at h; exact absurd h (by decide)
    · rw [if_neg hl] at h ⊢
      refine good_run s _ (good_kl hg h1 h4 (by rw [app_size, bs_size]; simp only [List.length_cons, List.length_nil]; omega) (fun d hd => ?_)) h
      rw [app_list, bs_list] at hd
      rcases List.mem_append.1 hd with hd | hd
      · exact hg.no d hd
      · obtain rfl : d = c := by simpa using hd
        simpa [neB] using hc

end Go.Proofs.Ytalhfifippfnkaa
