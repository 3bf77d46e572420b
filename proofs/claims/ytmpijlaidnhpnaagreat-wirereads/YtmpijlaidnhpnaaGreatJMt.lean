/- First lines as lists of bytes: which may be, how they are written, what a line is read as; by plain reckoning. What fields say of a body, by plain reckoning. -/
import Derived.Test.YtmpijlaidnhpnaaGreatJMc
import Derived.Test.YtmpijlaidnhpnaaGreatJHm
import Derived.Test.YtmpijlaidnhpnaaGreatJWo
namespace Go.Proofs.YtmpijlaidnhpnaaGreat
set_option linter.unusedVariables false
set_option linter.unusedSimpArgs false

/- Bytes -/

def barL : List UInt8 := [34, 35, 60, 62, 92, 94, 123, 124, 125, 96]
def addrB (c : UInt8) : Bool := decide (33 ≤ c.toNat) && decide (c.toNat ≤ 126) && !barL.contains c
def sayB (c : UInt8) : Bool := !ctrlB c
def allB (p : UInt8 → Bool) (l : List UInt8) : Bool := l.all p
def hasL (c : UInt8) (l : List UInt8) : Bool := decide (atN c l < l.length)

theorem atN_cons (c x : UInt8) (l : List UInt8) : atN c (x :: l) = if x = c then 0 else atN c l + 1 := by
  unfold atN
  rw [List.takeWhile_cons]
  by_cases h : x = c
  · subst h; simp [neB]
  · simp [neB, h]
theorem hasL_iff (c : UInt8) (l : List UInt8) : hasL c l = true ↔ c ∈ l := by
  unfold hasL
  rw [decide_eq_true_eq]
  induction l with
  | nil => simp [atN]
  | cons x l ih =>
    rw [atN_cons]
    by_cases h : x = c
    · subst h; simp
    · rw [if_neg h, List.length_cons, List.mem_cons]
      have h' : ¬ c = x := fun e => h e.symm
      simp only [h', false_or]
      rw [← ih]; omega
theorem ixI_ge (c : UInt8) (l : List UInt8) : decide (0 ≤ ixI c l) = hasL c l := by
  unfold ixI hasL
  by_cases h : atN c l < l.length
  · rw [if_pos h]; simp [h]
  · rw [if_neg h]; simp [h]
theorem ixI_lt (c : UInt8) (l : List UInt8) : decide (ixI c l < 0) = !hasL c l := by
  rw [← ixI_ge]
  by_cases h : 0 ≤ ixI c l
  · simp [h]
  · simp [h]; omega

def bytes (l : List UInt8) : ByteArray := ⟨l.toArray⟩
theorem bytes_list (l : List UInt8) : (bytes l).data.toList = l := by simp [bytes]
/- First lines -/

/-- A first line: method, target, code, reason, minor. -/
structure St where
  m : ByteArray
  t : ByteArray
  c : Int
  r : ByteArray
  n : Int

def noS : ByteArray := ⟨#[]⟩
def St.no : St := ⟨noS, noS, 0, noS, 0⟩

def httpL : List UInt8 := [104, 116, 116, 112, 58, 47, 47]
def tgtL (l : List UInt8) : Bool := decide (l = [42]) || ((pre [47] l || pre httpL l) && decide (l.length ≤ 500) && allB addrB l)
def rsnL (l : List UInt8) : Bool := decide (l.length ≤ 100) && allB sayB l && decide (trimL l = l)
def reqB (s : St) : Bool := decide (s.c = 0) && decide (s.r.data.toList = []) && decide (s.m.size ≤ 20) && tokB s.m && tgtL s.t.data.toList
def staB (s : St) : Bool := decide (100 ≤ s.c) && decide (s.c ≤ 599) && decide (s.m.data.toList = []) && decide (s.t.data.toList = []) && rsnL s.r.data.toList
def rtB (s : St) : Bool := (decide (s.n = 0) || decide (s.n = 1)) && (reqB s || staB s)

theorem tok_free {s : ByteArray} {c : UInt8} (h : tokB s = true) (g : wordB c = false) : c ∉ s.data.toList := by
  intro hc
  rw [tok_not hc g] at h
  cases h
theorem tok_nil {s : ByteArray} (h : s.data.toList = []) : tokB s = false := by unfold tokB tokL; rw [h]; rfl
theorem all_free {p : UInt8 → Bool} {l : List UInt8} {c : UInt8} (h : allB p l = true) (g : p c = false) : c ∉ l := by
  intro hc
  have := List.all_eq_true.1 h c hc
  rw [g] at this
  cases this
theorem rt_minor {s : St} (h : rtB s = true) : s.n = 0 ∨ s.n = 1 := by
  unfold rtB at h
  simp only [Bool.and_eq_true, Bool.or_eq_true, decide_eq_true_eq] at h
  exact h.1
theorem rt_kind {s : St} (h : rtB s = true) : reqB s = true ∨ staB s = true := by
  unfold rtB at h
  rw [Bool.and_eq_true, Bool.or_eq_true (reqB s)] at h
  exact h.2
structure Req (s : St) : Prop where
  c : s.c = 0
  r : s.r.data.toList = []
  l : s.m.size ≤ 20
  k : tokB s.m = true
  t : tgtL s.t.data.toList = true
structure Sta (s : St) : Prop where
  c0 : 100 ≤ s.c
  c1 : s.c ≤ 599
  m : s.m.data.toList = []
  t : s.t.data.toList = []
  r : rsnL s.r.data.toList = true
theorem req_of {s : St} (h : reqB s = true) : Req s := by
  unfold reqB at h
  simp only [Bool.and_eq_true, decide_eq_true_eq] at h
  exact ⟨h.1.1.1.1, h.1.1.1.2, h.1.1.2, h.1.2, h.2⟩
theorem sta_of {s : St} (h : staB s = true) : Sta s := by
  unfold staB at h
  simp only [Bool.and_eq_true, decide_eq_true_eq] at h
  exact ⟨h.1.1.1.1, h.1.1.1.2, h.1.1.2, h.1.2, h.2⟩
theorem rt_req {s : St} (h : rtB s = true) (g : s.c = 0) : Req s := by
  rcases rt_kind h with k | k
  · exact req_of k
  · have := (sta_of k).c0; omega
theorem rt_sta {s : St} (h : rtB s = true) (g : s.c ≠ 0) : Sta s := by
  rcases rt_kind h with k | k
  · exact absurd (req_of k).c g
  · exact sta_of k
theorem St.ext {a b : St} (h1 : a.m.data.toList = b.m.data.toList) (h2 : a.t.data.toList = b.t.data.toList) (h3 : a.c = b.c) (h4 : a.r.data.toList = b.r.data.toList) (h5 : a.n = b.n) : a = b := by
  cases a; cases b
  simp only [St.mk.injEq]
  exact ⟨bytes_ext h1, bytes_ext h2, h3, bytes_ext h4, h5⟩

/- Three digits -/

end Go.Proofs.YtmpijlaidnhpnaaGreat

namespace Go.Proofs.YtmpijlaidnhpnaaGreat
set_option linter.unusedVariables false
set_option linter.unusedSimpArgs false
set_option maxRecDepth 100000
open Go.RowKit

/-- The two names, as the program writes them and in small letters, and the one coding. -/
def lenS : ByteArray := ⟨#[67, 111, 110, 116, 101, 110, 116, 45, 76, 101, 110, 103, 116, 104]⟩
def tecS : ByteArray := ⟨#[84, 114, 97, 110, 115, 102, 101, 114, 45, 69, 110, 99, 111, 100, 105, 110, 103]⟩
def lenW : ByteArray := ⟨#[99, 111, 110, 116, 101, 110, 116, 45, 108, 101, 110, 103, 116, 104]⟩
def tecW : ByteArray := ⟨#[116, 114, 97, 110, 115, 102, 101, 114, 45, 101, 110, 99, 111, 100, 105, 110, 103]⟩
def chL : List UInt8 := [99, 104, 117, 110, 107, 101, 100]

theorem low_cl : lowS lenW = lowS lenS := by decide +kernel
theorem low_te : lowS tecW = lowS tecS := by decide +kernel
theorem nm_low {a b : ByteArray} (h : lowS a = lowS b) : nm a = nm b := by funext f; unfold nm sameB; rw [h]
theorem all_low {a b : ByteArray} (h : lowS a = lowS b) (L : List Fd) : allF a L = allF b L := by unfold allF; rw [nm_low h]
theorem all_cl (L : List Fd) : allF lenW L = allF lenS L := all_low low_cl L
theorem all_te (L : List Fd) : allF tecW L = allF tecS L := all_low low_te L
/-- What is said: its kind, its size, its error. -/
abbrev Sy := Nat × Nat × Nat
def syV (y : Sy) : Value := .agg #[.int .i64 (y.1 : Nat), .int .u64 (y.2.1 : Nat), .int .i64 (y.2.2 : Nat)]
/-- What is answered: a body's kind, its size, and the error. -/
abbrev An := Int × Int × Int
def anV (a : An) : Value := .tuple #[.agg #[.int .i64 a.1, .int .i64 a.2.1], .int .i64 a.2.2]

def lsF (v : ByteArray) : Sy := if rdE 10 v.data.toList = 0 then (1, rdN 10 v.data.toList, 0) else if rdE 10 v.data.toList = 10 then (0, 0, 32) else (0, 0, 2)
theorem rdE_three (l : List UInt8) : rdE 10 l = 0 ∨ rdE 10 l = 10 ∨ rdE 10 l = 2 := by
  unfold rdE; split
  · exact Or.inr (Or.inl rfl)
  · split
    · exact Or.inr (Or.inr rfl)
    · exact Or.inl rfl
theorem ls_three (v : ByteArray) : (rdE 10 v.data.toList = 0 ∧ lsF v = (1, rdN 10 v.data.toList, 0)) ∨ (rdE 10 v.data.toList = 10 ∧ lsF v = (0, 0, 32)) ∨ (rdE 10 v.data.toList = 2 ∧ lsF v = (0, 0, 2)) := by
  rcases rdE_three v.data.toList with h | h | h
  · exact Or.inl ⟨h, by unfold lsF; rw [h]; rfl⟩
  · exact Or.inr (Or.inl ⟨h, by unfold lsF; rw [h]; rfl⟩)
  · exact Or.inr (Or.inr ⟨h, by unfold lsF; rw [h]; rfl⟩)
theorem ls_le (v : ByteArray) : (lsF v).2.1 ≤ 1099511627776 := by
  rcases ls_three v with ⟨-, h⟩ | ⟨-, h⟩ | ⟨-, h⟩ <;> rw [h]
  · exact rdN_le 10 _
  · exact Nat.zero_le _
  · exact Nat.zero_le _

/-- What several lengths say. -/
def ls2 (y : Sy) : Sy := if 20000 < y.2.1 then (0, 0, 2) else y
def lensF (x : ByteArray) (r : List ByteArray) : Sy := if r.all (fun y => decide (lsF y = lsF x)) then ls2 (lsF x) else (0, 0, 32)
def lenA : List ByteArray → Sy
  | [] => (0, 0, 0)
  | x :: r => lensF x r
theorem lens_yes {x : ByteArray} {r : List ByteArray} (h : ∀ y ∈ r, lsF y = lsF x) : lensF x r = ls2 (lsF x) := by
  unfold lensF; rw [if_pos (List.all_eq_true.2 fun y hy => decide_eq_true (h y hy))]
theorem lens_no {x y : ByteArray} {r : List ByteArray} (hy : y ∈ r) (h : lsF y ≠ lsF x) : lensF x r = (0, 0, 32) := by
  unfold lensF
  rw [if_neg]
  intro hall
  exact h (of_decide_eq_true (List.all_eq_true.1 hall y hy))
theorem ls2_no {y : Sy} (h : 20000 < y.2.1) : ls2 y = (0, 0, 2) := by unfold ls2; rw [if_pos h]
theorem ls2_yes {y : Sy} (h : ¬ 20000 < y.2.1) : ls2 y = y := by unfold ls2; rw [if_neg h]

/-- What fields say. -/
def sayF (n : Int) (L : List Fd) : Sy :=
  if 0 < (allF tecS L).length then
    (if 0 < (allF lenS L).length ∨ n = 0 ∨ (lowS (joinS (allF tecS L))).data.toList ≠ chL then (0, 0, 32) else (2, 0, 0))
  else lenA (allF lenS L)
theorem say_te {n : Int} {L : List Fd} (h : 0 < (allF tecS L).length) (g : 0 < (allF lenS L).length ∨ n = 0 ∨ (lowS (joinS (allF tecS L))).data.toList ≠ chL) : sayF n L = (0, 0, 32) := by
  unfold sayF; rw [if_pos h, if_pos g]
theorem say_ch {n : Int} {L : List Fd} (h : 0 < (allF tecS L).length) (g1 : ¬ 0 < (allF lenS L).length) (g2 : n ≠ 0) (g3 : (lowS (joinS (allF tecS L))).data.toList = chL) : sayF n L = (2, 0, 0) := by
  unfold sayF; rw [if_pos h, if_neg]; rintro (h | h | h)
  · exact g1 h
  · exact g2 h
  · exact h g3
theorem say_len {n : Int} {L : List Fd} (h : ¬ 0 < (allF tecS L).length) : sayF n L = lenA (allF lenS L) := by
  unfold sayF; rw [if_neg h]
theorem len_nil {A : List ByteArray} (h : ¬ 0 < A.length) : lenA A = (0, 0, 0) := by
  cases A with
  | nil => rfl
  | cons x r => exact absurd (by simp) h

/-- Nothing becomes a kind. -/
def elseF (y : Sy) (k : Int) : An := if y = (0, 0, 0) then (k, 0, 0) else ((y.1 : Int), (y.2.1 : Int), (y.2.2 : Int))
theorem else_no {y : Sy} {k : Int} (h : y = (0, 0, 0)) : elseF y k = (k, 0, 0) := by unfold elseF; rw [if_pos h]
theorem else_yes {y : Sy} {k : Int} (h : y ≠ (0, 0, 0)) : elseF y k = ((y.1 : Int), (y.2.1 : Int), (y.2.2 : Int)) := by unfold elseF; rw [if_neg h]

/-- Answers without a body. -/
def bareB (c : Int) : Bool := decide (c < 200) || decide (c = 204) || decide (c = 304)
def hdL : List UInt8 := [72, 69, 65, 68]
def reqF (s : St) (L : List Fd) : An := if rtB s && rightF L && decide (s.c = 0) then elseF (sayF s.n L) 0 else (0, 0, 1)
def ansF (s : St) (L : List Fd) (m : ByteArray) : An := if rtB s && rightF L && !decide (s.c = 0) then (if bareB s.c || m.toList == hdL then (0, 0, 0) else elseF (sayF s.n L) 3) else (0, 0, 1)

theorem small_le {L : List Fd} (h : rightF L = true) : L.length ≤ 40 := by
  unfold rightF at h; rw [Bool.and_eq_true] at h; exact of_decide_eq_true h.1

end Go.Proofs.YtmpijlaidnhpnaaGreat
