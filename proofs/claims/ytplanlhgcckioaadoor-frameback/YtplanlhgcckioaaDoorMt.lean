/- First lines as lists of bytes: which may be, how they are written, what a line is read as; by plain reckoning. -/
import Derived.Test.YtplanlhgcckioaaDoorCa
import Derived.Test.YtplanlhgcckioaaDoorMn
namespace Go.Proofs.YtplanlhgcckioaaDoor
set_option linter.unusedVariables false
set_option linter.unusedSimpArgs false

/- Bytes -/

def barL : List UInt8 := [34, 35, 60, 62, 92, 94, 123, 124, 125, 96]
def addrB (c : UInt8) : Bool := decide (33 ≤ c.toNat) && decide (c.toNat ≤ 126) && !barL.contains c
def sayB (c : UInt8) : Bool := !ctrlB c
def allB (p : UInt8 → Bool) (l : List UInt8) : Bool := l.all p
def hasL (c : UInt8) (l : List UInt8) : Bool := decide (atN c l < l.length)

theorem atN_cons (c x : UInt8) (l : List UInt8) : atN c (x :: l) = if x = c then 0 else atN c l + 1 := by
  unfold atN
  rw [List.takeWhile_cons]
  by_cases h : x = c
  · subst h; simp [neB]
  · simp [neB, h]
theorem hasL_iff (c : UInt8) (l : List UInt8) : hasL c l = true ↔ c ∈ l := by
  unfold hasL
  rw [decide_eq_true_eq]
  induction l with
  | nil => simp [atN]
  | cons x l ih =>
    rw [atN_cons]
    by_cases h : x = c
    · subst h; simp
    · rw [if_neg h, List.length_cons, List.mem_cons]
      have h' : ¬ c = x := fun e => h e.symm
      simp only [h', false_or]
      rw [← ih]; omega
theorem ixI_ge (c : UInt8) (l : List UInt8) : decide (0 ≤ ixI c l) = hasL c l := by
  unfold ixI hasL
  by_cases h : atN c l < l.length
  · rw [if_pos h]; simp [h]
  · rw [if_neg h]; simp [h]
theorem ixI_lt (c : UInt8) (l : List UInt8) : decide (ixI c l < 0) = !hasL c l := by
  rw [← ixI_ge]
  by_cases h : 0 ≤ ixI c l
  · simp [h]
  · simp [h]; omega

def bytes (l : List UInt8) : ByteArray := ⟨l.toArray⟩
theorem bytes_list (l : List UInt8) : (bytes l).data.toList = l := by simp [bytes]
theorem bytes_back (s : ByteArray) : bytes s.data.toList = s := by apply bytes_ext; rw [bytes_list]
theorem list_ext {a : ByteArray} {l : List UInt8} (h : a.data.toList = l) : a = bytes l := by rw [← h, bytes_back]

/- First lines -/

/-- A first line: method, target, code, reason, minor. -/
structure St where
  m : ByteArray
  t : ByteArray
  c : Int
  r : ByteArray
  n : Int

def noS : ByteArray := ⟨#[]⟩
def St.no : St := ⟨noS, noS, 0, noS, 0⟩

def httpL : List UInt8 := [104, 116, 116, 112, 58, 47, 47]
def tgtL (l : List UInt8) : Bool := decide (l = [42]) || ((pre [47] l || pre httpL l) && decide (l.length ≤ 500) && allB addrB l)
def rsnL (l : List UInt8) : Bool := decide (l.length ≤ 100) && allB sayB l && decide (trimL l = l)
def reqB (s : St) : Bool := decide (s.c = 0) && decide (s.r.data.toList = []) && decide (s.m.size ≤ 20) && tokB s.m && tgtL s.t.data.toList
def staB (s : St) : Bool := decide (100 ≤ s.c) && decide (s.c ≤ 599) && decide (s.m.data.toList = []) && decide (s.t.data.toList = []) && rsnL s.r.data.toList
def rtB (s : St) : Bool := (decide (s.n = 0) || decide (s.n = 1)) && (reqB s || staB s)

theorem tok_free {s : ByteArray} {c : UInt8} (h : tokB s = true) (g : wordB c = false) : c ∉ s.data.toList := by
  intro hc
  rw [tok_not hc g] at h
  cases h
theorem tok_nil {s : ByteArray} (h : s.data.toList = []) : tokB s = false := by unfold tokB tokL; rw [h]; rfl
theorem all_free {p : UInt8 → Bool} {l : List UInt8} {c : UInt8} (h : allB p l = true) (g : p c = false) : c ∉ l := by
  intro hc
  have := List.all_eq_true.1 h c hc
  rw [g] at this
  cases this
theorem tgt_len {l : List UInt8} (h : tgtL l = true) : l.length ≤ 500 := by
  unfold tgtL at h
  simp only [Bool.or_eq_true, Bool.and_eq_true, decide_eq_true_eq] at h
  rcases h with h | h
  · rw [h]; decide
  · exact h.1.2
theorem rt_minor {s : St} (h : rtB s = true) : s.n = 0 ∨ s.n = 1 := by
  unfold rtB at h
  simp only [Bool.and_eq_true, Bool.or_eq_true, decide_eq_true_eq] at h
  exact h.1
theorem rt_kind {s : St} (h : rtB s = true) : reqB s = true ∨ staB s = true := by
  unfold rtB at h
  rw [Bool.and_eq_true, Bool.or_eq_true (reqB s)] at h
  exact h.2
theorem rt_no {s : St} (h : s.n = -1) : rtB s = false := by
  unfold rtB
  rw [h]
  rfl
structure Req (s : St) : Prop where
  c : s.c = 0
  r : s.r.data.toList = []
  l : s.m.size ≤ 20
  k : tokB s.m = true
  t : tgtL s.t.data.toList = true
structure Sta (s : St) : Prop where
  c0 : 100 ≤ s.c
  c1 : s.c ≤ 599
  m : s.m.data.toList = []
  t : s.t.data.toList = []
  r : rsnL s.r.data.toList = true
theorem req_of {s : St} (h : reqB s = true) : Req s := by
  unfold reqB at h
  simp only [Bool.and_eq_true, decide_eq_true_eq] at h
  exact ⟨h.1.1.1.1, h.1.1.1.2, h.1.1.2, h.1.2, h.2⟩
theorem sta_of {s : St} (h : staB s = true) : Sta s := by
  unfold staB at h
  simp only [Bool.and_eq_true, decide_eq_true_eq] at h
  exact ⟨h.1.1.1.1, h.1.1.1.2, h.1.1.2, h.1.2, h.2⟩
theorem rt_req {s : St} (h : rtB s = true) (g : s.c = 0) : Req s := by
  rcases rt_kind h with k | k
  · exact req_of k
  · have := (sta_of k).c0; omega
theorem rt_sta {s : St} (h : rtB s = true) (g : s.c ≠ 0) : Sta s := by
  rcases rt_kind h with k | k
  · exact absurd (req_of k).c g
  · exact sta_of k
theorem St.ext {a b : St} (h1 : a.m.data.toList = b.m.data.toList) (h2 : a.t.data.toList = b.t.data.toList) (h3 : a.c = b.c) (h4 : a.r.data.toList = b.r.data.toList) (h5 : a.n = b.n) : a = b := by
  cases a; cases b
  simp only [St.mk.injEq]
  exact ⟨bytes_ext h1, bytes_ext h2, h3, bytes_ext h4, h5⟩

/- Three digits -/

end Go.Proofs.YtplanlhgcckioaaDoor
