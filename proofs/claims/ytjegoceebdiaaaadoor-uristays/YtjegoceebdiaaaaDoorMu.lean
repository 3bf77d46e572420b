/- Addresses as lists of bytes: which may be, how they are written, what a text is read as; by plain reckoning. -/
import Derived.Test.YtjegoceebdiaaaaDoorCb
import Derived.Test.YtjegoceebdiaaaaDoorMn
namespace Go.Proofs.YtjegoceebdiaaaaDoor
set_option linter.unusedVariables false
set_option linter.unusedSimpArgs false

/- Bytes -/

def hostB (c : UInt8) : Bool := (decide (97 ≤ c.toNat) && decide (c.toNat ≤ 122)) || (decide (48 ≤ c.toNat) && decide (c.toNat ≤ 57)) || decide (c.toNat = 45) || decide (c.toNat = 46)
def barL : List UInt8 := [34, 35, 60, 62, 92, 94, 123, 124, 125, 96]
def addrB (c : UInt8) : Bool := decide (33 ≤ c.toNat) && decide (c.toNat ≤ 126) && !barL.contains c
def hostL : List UInt8 := [97, 98, 99, 100, 101, 102, 103, 104, 105, 106, 107, 108, 109, 110, 111, 112, 113, 114, 115, 116, 117, 118, 119, 120, 121, 122, 48, 49, 50, 51, 52, 53, 54, 55, 56, 57, 45, 46]
theorem hostB_iff (c : UInt8) : hostB c = hostL.contains c := by
  have h := u8_all (fun c => hostB c == hostL.contains c) (by decide +kernel) c
  simpa using h

def allB (p : UInt8 → Bool) (l : List UInt8) : Bool := l.all p
def hasL (c : UInt8) (l : List UInt8) : Bool := decide (atN c l < l.length)

theorem atN_cons (c x : UInt8) (l : List UInt8) : atN c (x :: l) = if x = c then 0 else atN c l + 1 := by
  unfold atN
  rw [List.takeWhile_cons]
  by_cases h : x = c
  · subst h; simp [neB]
  · simp [neB, h]
theorem hasL_iff (c : UInt8) (l : List UInt8) : hasL c l = true ↔ c ∈ l := by
  unfold hasL
  rw [decide_eq_true_eq]
  induction l with
  | nil => simp [atN]
  | cons x l ih =>
    rw [atN_cons]
    by_cases h : x = c
    · subst h; simp
    · rw [if_neg h, List.length_cons, List.mem_cons]
      have h' : ¬ c = x := fun e => h e.symm
      simp only [h', false_or]
      rw [← ih]; omega
theorem hasL_false (c : UInt8) (l : List UInt8) : hasL c l = false ↔ c ∉ l := by
  rw [← hasL_iff, Bool.not_eq_true]
theorem ix_ge (c : UInt8) (l : List UInt8) : decide (0 ≤ ixI c l) = hasL c l := by
  unfold ixI hasL
  by_cases h : atN c l < l.length
  · rw [if_pos h]; simp [h]
  · rw [if_neg h]; simp [h]
theorem ix_lt (c : UInt8) (l : List UInt8) : decide (ixI c l < 0) = !hasL c l := by
  rw [← ix_ge]
  by_cases h : 0 ≤ ixI c l
  · simp [h]
  · simp [h]; omega

theorem ahead_iff (l : List UInt8) : 58 ∈ l.takeWhile (neB 47) ↔ 58 ∈ l ∧ (47 ∉ l ∨ atN 58 l < atN 47 l) := by
  induction l with
  | nil => simp
  | cons x l ih =>
    rw [List.takeWhile_cons, atN_cons, atN_cons]
    by_cases h : x = 47
    · subst h; simp [neB]
    · have hn : neB 47 x = true := by simpa [neB] using h
      have h' : ¬ (47 : UInt8) = x := fun e => h e.symm
      rw [hn, if_pos rfl, List.mem_cons, ih, if_neg h, List.mem_cons, List.mem_cons]
      by_cases g : x = 58
      · subst g; simp
      · have g' : ¬ (58 : UInt8) = x := fun e => g e.symm
        simp only [h', g', false_or, g, if_false]
        constructor
        · rintro ⟨a, b⟩
          exact ⟨a, b.imp id (by omega)⟩
        · rintro ⟨a, b⟩
          exact ⟨a, b.imp id (by omega)⟩

/- Addresses -/

structure U where
  abs : Bool
  host : ByteArray
  port : Int
  path : ByteArray
  asks : Bool
  query : ByteArray

def U0 : U := ⟨false, ⟨#[]⟩, 0, ⟨#[]⟩, false, ⟨#[]⟩⟩
def httpL : List UInt8 := [104, 116, 116, 112, 58, 47, 47]
def prtL (p : Int) : List UInt8 := if p = 0 then [] else 58 :: dgs 10 (by omega) p.toNat
def qryL (a : Bool) (q : List UInt8) : List UInt8 := if a then 63 :: q else []
def wrL (u : U) : List UInt8 := (if u.abs then httpL ++ u.host.data.toList ++ prtL u.port ++ u.path.data.toList else u.path.data.toList) ++ qryL u.asks u.query.data.toList

def startB (l : List UInt8) : Bool := !pre [47, 47] l && !hasL 58 (l.takeWhile (neB 47))
def hostOk (l : List UInt8) : Bool := !l.isEmpty && decide (l.length ≤ 100) && allB hostB l
def bytesB (u : U) : Bool := allB addrB u.path.data.toList && allB addrB u.query.data.toList && !hasL 63 u.path.data.toList && (u.asks || u.query.data.toList.isEmpty)
def placeB (u : U) : Bool := if u.abs then hostOk u.host.data.toList && decide (0 ≤ u.port) && decide (u.port ≤ 65535) && pre [47] u.path.data.toList else u.host.data.toList.isEmpty && decide (u.port = 0) && startB u.path.data.toList
def rtU (u : U) : Bool := placeB u && bytesB u && decide ((wrL u).length ≤ 500)

theorem rt_place {u : U} (h : rtU u = true) : placeB u = true := by unfold rtU at h; simp only [Bool.and_eq_true] at h; exact h.1.1
theorem rt_bytes {u : U} (h : rtU u = true) : bytesB u = true := by unfold rtU at h; simp only [Bool.and_eq_true] at h; exact h.1.2
theorem rt_len {u : U} (h : rtU u = true) : (wrL u).length ≤ 500 := by unfold rtU at h; simp only [Bool.and_eq_true, decide_eq_true_eq] at h; exact h.2
theorem place_port {u : U} (h : placeB u = true) : 0 ≤ u.port ∧ u.port ≤ 65535 := by
  unfold placeB at h
  cases ha : u.abs <;> rw [ha] at h <;> simp at h <;> omega

/- What is read -/

/-- A host without its port, and that. -/
def cutP (h : List UInt8) : List UInt8 × Int :=
  if laI 58 h < 0 ∨ 5 < (h.drop (laI 58 h + 1).toNat).length ∨ rdN 10 (h.drop (laI 58 h + 1).toNat) = 0 then (h, 0)
  else (h.take (laI 58 h).toNat, (rdN 10 (h.drop (laI 58 h + 1).toNat) : Int))

def bytes (l : List UInt8) : ByteArray := ⟨l.toArray⟩
theorem bytes_list (l : List UInt8) : (bytes l).data.toList = l := by simp [bytes]
theorem bytes_back (s : ByteArray) : bytes s.data.toList = s := by apply bytes_ext; rw [bytes_list]

def absL (s : List UInt8) : Bool := pre httpL (lowL s)
/-- What a text would be as an address. -/
def cand (s : List UInt8) : U :=
  if absL s then
    ⟨true, bytes (cutP (lowL (((s.takeWhile (neB 63)).drop 7).takeWhile (neB 47)))).1, (cutP (lowL (((s.takeWhile (neB 63)).drop 7).takeWhile (neB 47)))).2,
      bytes (47 :: (((s.takeWhile (neB 63)).drop 7).dropWhile (neB 47)).drop 1), hasL 63 s, bytes ((s.dropWhile (neB 63)).drop 1)⟩
  else ⟨false, ⟨#[]⟩, 0, bytes (s.takeWhile (neB 63)), hasL 63 s, bytes ((s.dropWhile (neB 63)).drop 1)⟩
def psU (s : List UInt8) : U := if 500 < s.length then U0 else if rtU (cand s) then cand s else U0
def psE (s : List UInt8) : Int := if 500 < s.length then 2 else if rtU (cand s) then 0 else 20

/- What is resolved -/

def fromL (b p : List UInt8) : List UInt8 := if pre [47] p then p else b.take (lastN (neB 47) b) ++ p
def seen (b u : U) : U :=
  if u.abs then ⟨u.abs, u.host, u.port, bytes (cleanL u.path.data.toList), u.asks, u.query⟩
  else if u.path.data.toList = [] then (if u.asks then ⟨b.abs, b.host, b.port, b.path, u.asks, u.query⟩ else b)
  else ⟨b.abs, b.host, b.port, bytes (cleanL (fromL b.path.data.toList u.path.data.toList)), u.asks, u.query⟩
def rsU (b u : U) : U := if rtU b && rtU u && b.abs then (if 500 < (wrL (seen b u)).length then U0 else seen b u) else U0
def rsE (b u : U) : Int := if rtU b && rtU u && b.abs then (if 500 < (wrL (seen b u)).length then 2 else 0) else 1

end Go.Proofs.YtjegoceebdiaaaaDoor
