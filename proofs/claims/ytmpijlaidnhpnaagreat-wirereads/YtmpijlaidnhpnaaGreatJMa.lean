/- Texts as lists of bytes, by plain reckoning: nothing of the program in it, and no condition beside each theorem's own. Small facts on worlds that every walk of this seat uses: what lies below a block number, cells that stay, wraps that do nothing. The walks of the functions on sets of bytes. The walks of the loops that ask a set. The walks of trimming, of tokens and of what finds control bytes. -/
import Derived.Below
import Derived.WalkKit
import Derived.WalkSpells
import Derived.WalkLawsBesides
import Derived.BigQuiet
import Derived.Deep.QuietTactic
import Derived.RegionTactic
import Derived.BigRegion
import Derived.Deep.RegionHeld3
import Derived.Deep.DeepCutAuto
import Derived.Deep.LoopGhost
import Derived.Deep.Slices
import Derived.ProofKit
import Derived.Deep.WholeRow
import Derived.Lib.AsciiSet
import Derived.Test.YtmpijlaidnhpnaaGreatProg
import Derived.Laws.CopyOwn
namespace Go.Proofs.YtmpijlaidnhpnaaGreat
set_option linter.unusedVariables false
set_option linter.unusedSimpArgs false

theorem u8_all (p : UInt8 → Bool) (h : ((List.range 256).all fun n => p (UInt8.ofNat n)) = true) (c : UInt8) : p c = true := by
  have := List.all_eq_true.1 h c.toNat (by simp; exact c.toNat_lt)
  simpa using this

/- Sets of bytes -/

def capsL : List UInt8 := [65, 66, 67, 68, 69, 70, 71, 72, 73, 74, 75, 76, 77, 78, 79, 80, 81, 82, 83, 84, 85, 86, 87, 88, 89, 90]
def wordL : List UInt8 := capsL ++ [97, 98, 99, 100, 101, 102, 103, 104, 105, 106, 107, 108, 109, 110, 111, 112, 113, 114, 115, 116, 117, 118, 119, 120, 121, 122, 48, 49, 50, 51, 52, 53, 54, 55, 56, 57, 33, 35, 36, 37, 38, 39, 42, 43, 45, 46, 94, 95, 124, 126, 96]
def ctrlL : List UInt8 := [0, 1, 2, 3, 4, 5, 6, 7, 8, 10, 11, 12, 13, 14, 15, 16, 17, 18, 19, 20, 21, 22, 23, 24, 25, 26, 27, 28, 29, 30, 31, 127]

def capB (c : UInt8) : Bool := capsL.contains c
def wordB (c : UInt8) : Bool := wordL.contains c
def ctrlB (c : UInt8) : Bool := ctrlL.contains c
def blankB (c : UInt8) : Bool := [32, 9].contains c
def escB (c : UInt8) : Bool := [34, 92].contains c

theorem capB_iff (c : UInt8) : capB c = (decide (65 ≤ c.toNat) && decide (c.toNat ≤ 90)) := by
  have := u8_all (fun c => capB c == (decide (65 ≤ c.toNat) && decide (c.toNat ≤ 90))) (by decide +kernel) c
  simpa using this
theorem ctrlB_iff (c : UInt8) : ctrlB c = (decide (c.toNat < 32) && !decide (c.toNat = 9) || decide (c.toNat = 127)) := by
  have := u8_all (fun c => ctrlB c == (decide (c.toNat < 32) && !decide (c.toNat = 9) || decide (c.toNat = 127))) (by decide +kernel) c
  simpa using this
theorem blankB_iff (c : UInt8) : blankB c = (decide (c.toNat = 32) || decide (c.toNat = 9)) := by
  have := u8_all (fun c => blankB c == (decide (c.toNat = 32) || decide (c.toNat = 9))) (by decide +kernel) c
  simpa using this
theorem escB_iff (c : UInt8) : escB c = (decide (c = 34) || decide (c = 92)) := by
  have := u8_all (fun c => escB c == (decide (c = 34) || decide (c = 92))) (by decide +kernel) c
  simpa using this

/-- The letters, the digits and the byte 96. -/
def plainB (c : UInt8) : Bool := (decide (97 ≤ c.toNat) && decide (c.toNat ≤ 122)) || (decide (65 ≤ c.toNat) && decide (c.toNat ≤ 90)) || (decide (48 ≤ c.toNat) && decide (c.toNat ≤ 57)) || decide (c.toNat = 96)
def signL : List UInt8 := [33, 35, 36, 37, 38, 39, 42, 43, 45, 46, 94, 95, 124, 126]
theorem wordB_iff (c : UInt8) : wordB c = (plainB c || signL.contains c) := by
  have := u8_all (fun c => wordB c == (plainB c || signL.contains c)) (by decide +kernel) c
  simpa using this

/- Small letters -/

def lowB (c : UInt8) : UInt8 := if capB c then c + 32 else c
def lowL (l : List UInt8) : List UInt8 := l.map lowB

/- Tokens -/

def tokL (l : List UInt8) : Bool := !l.isEmpty && l.all wordB
/- What a loop finds -/

theorem takeWhile_at {p : UInt8 → Bool} : ∀ {l : List UInt8} {k : Nat} (hk : k < l.length), (∀ c ∈ l.take k, p c = true) → p l[k] = false → (l.takeWhile p).length = k
  | [], k, hk, _, _ => by simp at hk
  | c :: l, 0, hk, _, h => by simp at h; simp [List.takeWhile_cons, h]
  | c :: l, k + 1, hk, h, g => by
    have hc : p c = true := h c (by simp)
    rw [List.takeWhile_cons, if_pos hc, List.length_cons, takeWhile_at (l := l) (k := k) (by simpa using hk) (fun d hd => h d (by simp [hd])) (by simpa using g)]
theorem takeWhile_all {p : UInt8 → Bool} {l : List UInt8} (h : ∀ c ∈ l, p c = true) : (l.takeWhile p).length = l.length := by
  induction l with
  | nil => rfl
  | cons c l ih => rw [List.takeWhile_cons, if_pos (h c (by simp)), List.length_cons, List.length_cons, ih (fun d hd => h d (by simp [hd]))]
theorem takeWhile_le (p : UInt8 → Bool) (l : List UInt8) : (l.takeWhile p).length ≤ l.length := by
  induction l with
  | nil => simp
  | cons c l ih => rw [List.takeWhile_cons]; split <;> simp <;> omega
theorem drop_takeWhile (p : UInt8 → Bool) (l : List UInt8) : l.drop (l.takeWhile p).length = l.dropWhile p := by
  induction l with
  | nil => rfl
  | cons c l ih => rw [List.takeWhile_cons, List.dropWhile_cons]; split <;> simp [ih]

/-- Just behind the last byte that is not as p says. -/
def lastN (p : UInt8 → Bool) (l : List UInt8) : Nat := l.length - (l.reverse.takeWhile p).length
theorem lastN_le (p : UInt8 → Bool) (l : List UInt8) : lastN p l ≤ l.length := by unfold lastN; omega
theorem lastN_at {p : UInt8 → Bool} {l : List UInt8} {k : Nat} (hk : k < l.length) (h : ∀ c ∈ l.drop (k + 1), p c = true) (g : p l[k] = false) : lastN p l = k + 1 := by
  unfold lastN
  have h1 : l.length - 1 - k < l.reverse.length := by simp; omega
  rw [takeWhile_at (l := l.reverse) (k := l.length - 1 - k) h1 ?_ ?_]
  · omega
  · intro c hc
    rw [List.take_reverse, List.mem_reverse] at hc
    apply h
    rwa [show l.length - (l.length - 1 - k) = k + 1 by omega] at hc
  · rw [List.getElem_reverse]
    simpa [show l.length - 1 - (l.length - 1 - k) = k by omega] using g
theorem lastN_none {p : UInt8 → Bool} {l : List UInt8} (h : ∀ c ∈ l, p c = true) : lastN p l = 0 := by
  unfold lastN
  rw [takeWhile_all (by intro c hc; exact h c (List.mem_reverse.1 hc))]
  simp
theorem take_lastN (p : UInt8 → Bool) (l : List UInt8) : l.take (lastN p l) = (l.reverse.dropWhile p).reverse := by
  rw [← drop_takeWhile, List.drop_reverse, List.reverse_reverse, lastN]

def trimL (l : List UInt8) : List UInt8 := ((l.dropWhile blankB).reverse.dropWhile blankB).reverse

theorem trimL_eq (l : List UInt8) : (l.drop (l.takeWhile blankB).length).take (lastN blankB (l.drop (l.takeWhile blankB).length)) = trimL l := by
  rw [take_lastN, drop_takeWhile, trimL]
theorem dropWhile_le (p : UInt8 → Bool) (l : List UInt8) : (l.dropWhile p).length ≤ l.length := by
  induction l with
  | nil => simp
  | cons c l ih => rw [List.dropWhile_cons]; split <;> simp <;> omega
theorem trimL_le (l : List UInt8) : (trimL l).length ≤ l.length := by
  unfold trimL
  have h1 := dropWhile_le blankB (l.dropWhile blankB).reverse
  have h2 := dropWhile_le blankB l
  simp at h1 ⊢
  omega

theorem dropWhile_head (p : UInt8 → Bool) (l : List UInt8) (c : UInt8) (h : (l.dropWhile p).head? = some c) : p c = false := by
  induction l with
  | nil => simp at h
  | cons d l ih =>
    rw [List.dropWhile_cons] at h
    split at h
    · exact ih h
    · rename_i hd; simp at h; subst h; simpa using hd
theorem dropWhile_same {p : UInt8 → Bool} {l : List UInt8} (h : ∀ c, l.head? = some c → p c = false) : l.dropWhile p = l := by
  cases l with
  | nil => rfl
  | cons c l => rw [List.dropWhile_cons, h c rfl]; simp
/- Quotes -/

/-- How many bytes stand ahead of the quote that ends. -/
def qlen : List UInt8 → Option Nat
  | [] => none
  | c :: r => if c = 34 then some 0 else if c = 92 then (match r with | [] => none | _ :: r' => (qlen r').map (· + 2)) else (qlen r).map (· + 1)

theorem qlen_nil : qlen [] = none := by rw [qlen]
theorem qlen_quote (r : List UInt8) : qlen (34 :: r) = some 0 := by rw [qlen.eq_def]; simp
theorem qlen_back (r : List UInt8) : qlen (92 :: r) = (qlen (r.drop 1)).map (· + 2) := by
  cases r with
  | nil => rw [qlen.eq_def]; simp [qlen_nil]
  | cons d r => rw [qlen.eq_def]; simp
theorem qlen_else {c : UInt8} (r : List UInt8) (h : c ≠ 34) (g : c ≠ 92) : qlen (c :: r) = (qlen r).map (· + 1) := by rw [qlen.eq_def]; simp [h, g]

/-- Where the quotes end that were opened ahead of k. -/
def cl (l : List UInt8) (k : Nat) : Nat := match qlen (l.drop k) with | none => l.length | some n => k + n

/- Parts -/

/- Quoting -/

def esc1 (c : UInt8) : List UInt8 := if escB c then [92, c] else [c]
def escL (l : List UInt8) : List UInt8 := l.flatMap esc1
def quoteL (l : List UInt8) : List UInt8 := 34 :: (escL l ++ [34])

theorem escL_cons (c : UInt8) (l : List UInt8) : escL (c :: l) = esc1 c ++ escL l := by unfold escL; rw [List.flatMap_cons]
theorem esc1_yes {c : UInt8} (h : escB c = true) : esc1 c = [92, c] := by rw [esc1, if_pos h]
theorem esc1_no {c : UInt8} (h : escB c = false) : esc1 c = [c] := by rw [esc1, if_neg (by simp [h])]
theorem esc_ne {c : UInt8} (h : escB c = false) : c ≠ 34 ∧ c ≠ 92 := by rw [escB_iff] at h; simpa using h

theorem qlen_esc (l : List UInt8) : qlen (escL l ++ [34]) = some (escL l).length := by
  induction l with
  | nil => simp [escL, qlen_quote]
  | cons c l ih =>
    rw [escL_cons, List.append_assoc]
    cases h : escB c with
    | true =>
      rw [esc1_yes h]
      show qlen (92 :: (c :: (escL l ++ [34]))) = _
      rw [qlen_back, List.drop_one, List.tail_cons, ih]
      simp
    | false =>
      rw [esc1_no h]
      show qlen (c :: (escL l ++ [34])) = _
      rw [qlen_else _ (esc_ne h).1 (esc_ne h).2, ih]
      simp

/-- What stands between quotes, without what stands ahead of other bytes. -/
def unescL : List UInt8 → List UInt8
  | [] => []
  | c :: r => if c = 92 then (match r with | [] => [] | d :: r' => d :: unescL r') else c :: unescL r
theorem unescL_nil : unescL [] = [] := by rw [unescL]
theorem unescL_back (d : UInt8) (r : List UInt8) : unescL (92 :: d :: r) = d :: unescL r := by rw [unescL.eq_def]; simp
theorem unescL_else {c : UInt8} (r : List UInt8) (h : c ≠ 92) : unescL (c :: r) = c :: unescL r := by rw [unescL.eq_def]; simp [h]
theorem unesc_esc (l : List UInt8) : unescL (escL l) = l := by
  induction l with
  | nil => simp [escL, unescL_nil]
  | cons c l ih =>
    rw [escL_cons]
    cases h : escB c with
    | true =>
      rw [esc1_yes h]
      show unescL (92 :: c :: escL l) = _
      rw [unescL_back, ih]
    | false =>
      rw [esc1_no h]
      show unescL (c :: escL l) = _
      rw [unescL_else _ (esc_ne h).2, ih]

/-- Is a text quoted? -/
def quotedL (l : List UInt8) : Bool := decide (l.head? = some 34) && decide (cl l 1 + 1 = l.length) && !l.any ctrlB
/-- The text between the quotes. -/
def midL (l : List UInt8) : List UInt8 := (l.drop 1).take (l.length - 2)

theorem ctrl_mid {l : List UInt8} (h : l = 34 :: (midL l ++ [34])) : l.any ctrlB = (midL l).any ctrlB := by
  rw [h]
  simp only [List.any_cons, List.any_append, List.any_nil]
  rw [show ctrlB 34 = false by decide]
  simp
  rw [← h]

def unqL (l : List UInt8) : Option (List UInt8) := if quotedL l then some (unescL (midL l)) else none

theorem ctrl_esc (l : List UInt8) : (escL l).any ctrlB = l.any ctrlB := by
  induction l with
  | nil => rfl
  | cons c l ih =>
    unfold escL at ih ⊢
    rw [List.flatMap_cons, List.any_append, List.any_cons, ih]
    unfold esc1
    split
    · simp only [List.any_cons, List.any_nil, show ctrlB 92 = false by decide]; simp
    · simp

theorem quote_mid (l : List UInt8) : midL (quoteL l) = escL l := by
  unfold midL quoteL
  rw [List.drop_one, List.tail_cons, List.length_cons, List.length_append]
  simp
theorem quote_cl (l : List UInt8) : cl (quoteL l) 1 + 1 = (quoteL l).length := by
  unfold cl quoteL
  rw [List.drop_one, List.tail_cons, qlen_esc]
  simp; omega
theorem quote_quoted {l : List UInt8} (h : l.any ctrlB = false) : quotedL (quoteL l) = true := by
  unfold quotedL
  rw [quote_cl, ctrl_mid (by rw [quote_mid]; rfl), quote_mid, ctrl_esc, h]
  simp [quoteL]
theorem back {l : List UInt8} (h : l.any ctrlB = false) : unqL (quoteL l) = some l := by
  unfold unqL
  rw [if_pos (quote_quoted h), quote_mid, unesc_esc]
end Go.Proofs.YtmpijlaidnhpnaaGreat

namespace Go.Proofs.YtmpijlaidnhpnaaGreat
set_option linter.unusedVariables false
set_option linter.unusedSimpArgs false
set_option maxRecDepth 100000
open Go.RowKit

/-- Behind a call that keeps all that was there, every old cell reads as it did, and is as free to be written. -/
theorem stays {W W' : World} (h : Below W.heap.size W W') :
    (∀ n k, n < W.heap.size → W'.cell? ⟨n, k, none⟩ = W.cell? ⟨n, k, none⟩) ∧ ∀ n k, n < W.heap.size → W'.frozen? ⟨n, k, none⟩ = W.frozen? ⟨n, k, none⟩ := by
  constructor <;> intro n k hn
  · exact h.cell (p := ⟨n, k, none⟩) hn
  · exact h.frozen (p := ⟨n, k, none⟩) hn

theorem maxLen_of {n : Nat} (h : n ≤ 1000000000) : n ≤ maxLen := by unfold maxLen; omega

theorem i64_wrap_id (x : Int) (h1 : -1000000000000 ≤ x) (h2 : x ≤ 1000000000000) : IntKind.i64.wrap x = x := by
  simp [IntKind.wrap, IntKind.bits, IntKind.signed]
  omega

/-- In block N lie these cells. -/
def Cs (w : World) (N : Nat) (vs : List Value) : Prop := (∀ i v, vs[i]? = some v → w.cell? ⟨N, i, none⟩ = some v) ∧ N < w.heap.size

theorem Cs.below {w w' : World} {N : Nat} {vs : List Value} (h : Cs w N vs) (hb : Below w.heap.size w w') : Cs w' N vs :=
  ⟨fun i v hv => (hb.cell (p := ⟨N, i, none⟩) h.2).trans (h.1 i v hv), Nat.lt_of_lt_of_le h.2 hb.size⟩

theorem Cs.alloc {w : World} {N : Nat} {vs : List Value} (h : Cs w N vs) (o : Obj) : Cs (w.alloc o) N vs := h.below ((Below.refl _ _).alloc (Nat.le_refl _) o)

theorem Cs.new (w : World) (vs : Array Value) (t : TypeId) : Cs (w.alloc (.cells vs t)) w.heap.size vs.toList :=
  ⟨fun i v hv => by rw [World.cell?_alloc_new]; simpa using hv, by simp⟩

/-- Block N may be written. -/
def Fz (w : World) (N : Nat) : Prop := ∀ o, w.frozen? ⟨N, o, none⟩ = false

theorem Fz.below {w w' : World} {N : Nat} (h : Fz w N) (hN : N < w.heap.size) (hb : Below w.heap.size w w') : Fz w' N := fun o => (hb.frozen (p := ⟨N, o, none⟩) hN).trans (h o)

theorem add_none (B off n : Nat) : (⟨B, off, none⟩ : Addr).add n = ⟨B, off + n, none⟩ := by
  unfold Addr.add
  split
  · simp_all
  · rfl

end Go.Proofs.YtmpijlaidnhpnaaGreat

namespace Go.Proofs.YtmpijlaidnhpnaaGreat
set_option linter.unusedVariables false
set_option linter.unusedSimpArgs false
set_option maxRecDepth 100000
open Go.RowKit

theorem Tryz.info39 : (Tryz.prog.info? 134).map (fun i => (i.zero, i.size)) = some (some (.agg (Array.replicate 256 (.bool false))), 256) := by kernel_rfl
theorem zero39 : ∀ w, Sem.run Tryz.prog (zeroValue 134) w = .ok (.agg (Lib.setCells [])) w := (zero_of_info Tryz.info39).1
theorem size39 : (Tryz.prog.info? 134).map (·.size) = some 256 := (zero_of_info Tryz.info39).2

theorem one_alloc (w : World) (c : Array Value) (t : TypeId) : Below w.heap.size w (w.alloc (.cells c t)) := (Below.refl _ _).alloc (Nat.le_refl _) _

theorem hide {p : Prop} (h : p) : Hid p := h

/-- A whole array out of its block, and into it. -/
theorem load_row (w : World) (g : Nat) (c : Array Value) (t : TypeId) (fr : Nat × Nat) (hg : w.heap[g]? = some (.cells c t fr)) (N : Nat) (hN : c.size = N) :
    Sem.run Tryz.prog (loadCellsFrom ⟨g, 0, none⟩ 0 N #[]) w = .ok c w := by
  subst hN
  have := run_loadCells_list (P := Tryz.prog) w ⟨g, 0, none⟩ c.toList (fun j v hv => by
    rw [add_none, Nat.zero_add, cell_of_row _ _ j c t fr hg]
    simpa using hv)
  simpa [loadCells] using this
theorem store_row (w : World) (g : Nat) (t : TypeId) (old c : Array Value) (hg : w.heap[g]? = some (.cells old t (0, 0))) (hc : c.size = 256) (ho : old.size = 256) (h1 : c.all (·.oneCell') = true) :
    Sem.run Tryz.prog (storeCells ⟨g, 0, none⟩ c.toList 0) w = .ok () (w.setRow g c) := by
  have h := run_storeVar_row (P := Tryz.prog) w g t 134 old c hg (by rw [hc]; exact size39) (by omega) h1
  have hs := Tryz.sizeOf134
  simpa [storeVar, hs, Value.cells, hc] using h

theorem take_snoc (l : List UInt8) (k : Nat) (h : k < l.length) : l.take (k + 1) = l.take k ++ [l[k]] := by
  rw [List.take_succ_eq_append_getElem h]
theorem get_at (s : ByteArray) (k : Nat) (h : k < s.size) : s.data.toList[k]'(by simpa using h) = s[k] := by
  simp; rfl

set_option maxHeartbeats 1000000 in
theorem has_any (l : List UInt8) (c : UInt8) (b : Bool) (hb : l.contains c = b) (w : World) :
    Calls Tryz.prog 117 #[.agg (Lib.setCells l), .int .u8 (c.toNat : Int)] w fun e w' => e = .returned (.bool b) ∧ Below w.heap.size w w' := by
  have hc := c.toNat_lt
  have hx256 : (c.toNat : Int) < 256 := by omega
  have hat := Lib.setCells_at l c
  rw [hb] at hat
  clear hb
  go_enter Tryz.func117, Tryz.ntmps117
  go_wp2
  go_ret
  exact ⟨rfl, one_alloc _ _ _⟩

set_option maxHeartbeats 1000000 in
theorem lacks_any (l : List UInt8) (c : UInt8) (b : Bool) (hb : l.contains c = b) (w : World) :
    Calls Tryz.prog 146 #[.agg (Lib.setCells l), .int .u8 (c.toNat : Int)] w fun e w' => e = .returned (.bool (!b)) ∧ Below w.heap.size w w' := by
  have hc := c.toNat_lt
  have hx256 : (c.toNat : Int) < 256 := by omega
  have hat := Lib.setCells_at l c
  rw [hb] at hat
  clear hb
  go_enter Tryz.func146, Tryz.ntmps146
  go_wp2
  go_ret
  exact ⟨rfl, one_alloc _ _ _⟩

set_option maxHeartbeats 1000000 in
theorem setOf_any (s : ByteArray) (w : World) (hs : s.size ≤ 1000000) :
    Calls Tryz.prog 116 #[.string s] w fun e w' => e = .returned (.agg (Lib.setCells s.data.toList)) ∧ Below w.heap.size w w' := by
  have hz := zero39
  have HZ : Hid (s.data.toList.length = s.size) := by unfold Hid; simp
  go_enter Tryz.func116, Tryz.ntmps116
  go_wp2
  go_loopw [7] (fun i wr => ∃ k : Nat, k ≤ s.size ∧ i = .int .i64 k ∧ wr = (w.alloc (.cells (Lib.setCells []) 134)).alloc (.cells (Lib.setCells (s.data.toList.take k)) 134)) (fun i _ => s.size - (intOf i).toNat)
  case atStart => exact ⟨0, Nat.zero_le _, rfl, rfl⟩
  case round =>
    obtain ⟨k, hk, rfl, rfl⟩ := hrel
    by_cases hlt : k < s.size
    · have hx := (s[k]).toNat_lt
      have hx256 : ((s[k]).toNat : Int) < 256 := by omega
      have hcell := Lib.setCells_at (s.data.toList.take k) s[k]
      have hsz := Lib.setCells_size (s.data.toList.take k)
      go_wp2
      refine ⟨⟨k + 1, by omega, by go_num, ?_⟩, by simp [intOf]; omega⟩
      rw [take_snoc _ k (by rw [HZ.out]; exact hlt), get_at s k hlt, Lib.setCells_snoc]
    · rw [List.take_of_length_le (by rw [HZ.out]; omega)]
      have hsz := Lib.setCells_size s.data.toList
      have hg1 := heap_alloc2_new w (.cells (Lib.setCells []) 134) (.cells (Lib.setCells s.data.toList) 134)
      have hg0 := heap_alloc2_old w (.cells (Lib.setCells []) 134) (.cells (Lib.setCells s.data.toList) 134)
      have hlc := load_row _ _ _ _ _ hg1 256 hsz
      have hsc := store_row _ _ _ _ (Lib.setCells s.data.toList) hg0 hsz (Lib.setCells_size _) (Lib.setCells_one _)
      have hg2 := setRow_heap _ w.heap.size _ (Lib.setCells s.data.toList) _ _ hg0
      have hb2 : Below w.heap.size w (((w.alloc (.cells (Lib.setCells []) 134)).alloc (.cells (Lib.setCells s.data.toList) 134)).setRow w.heap.size (Lib.setCells s.data.toList)) := below_setRow ((one_alloc _ _ _).alloc (by simp) _) (Nat.le_refl _) _
      clear hg0 hg1
      have HG := hide hg2
      clear hg2
      obtain ⟨N, hN⟩ : ∃ N, N = 256 := ⟨_, rfl⟩
      have hS : ∀ w, Sem.run Tryz.prog (sizeOf 134) w = .ok N w := by rw [hN]; exact Tryz.sizeOf134
      have HS := hide hsz
      rw [← hN] at hlc hsz
      clear hN
      go_wp2_with fail
      (try simp only [Exit.inBlock, Exit.then])
      refine bodyPost_ret (v := .agg (Lib.setCells s.data.toList)) ?_ rfl ⟨rfl, hb2⟩
      rw [results_cell_row rfl _ _ w.heap.size 134 (Lib.setCells s.data.toList) (0, 0) _ rfl HG.out Tryz.underlying134 rfl (by rw [HS.out]; exact size39)]

end Go.Proofs.YtmpijlaidnhpnaaGreat

namespace Go.Proofs.YtmpijlaidnhpnaaGreat
set_option linter.unusedVariables false
set_option linter.unusedSimpArgs false
set_option maxRecDepth 100000
open Go.RowKit

/-- The set lies in block B, and below it nothing has turned. -/
def Lies (w : World) (l : List UInt8) (w' : World) : Prop := w'.heap[w.heap.size]? = some (.cells (Lib.setCells l) 134 (0, 0)) ∧ Below w.heap.size w w'
theorem Lies.lt {w w' : World} {l : List UInt8} (h : Lies w l w') : w.heap.size < w'.heap.size := (Array.getElem?_eq_some_iff.1 h.1).1
theorem Lies.below {w w1 w2 : World} {l : List UInt8} (h : Lies w l w1) (hb : Below w1.heap.size w1 w2) : Lies w l w2 := ⟨(hb.block _ h.lt).trans h.1, h.2.trans (hb.mono h.2.size)⟩
theorem Lies.load {w w' : World} {l : List UInt8} (h : Lies w l w') {N : Nat} (hN : (Lib.setCells l).size = N) : Sem.run Tryz.prog (loadCellsFrom ⟨w.heap.size, 0, none⟩ 0 N #[]) w' = .ok (Lib.setCells l) w' := load_row _ _ _ _ _ h.1 N hN
theorem Lies.range {w w' : World} {l : List UInt8} (h : Lies w l w') : w'.rangeAt w.heap.size 0 (Lib.setCells l).toList := fun j v hv => by
  rw [Nat.zero_add, cell_of_row _ _ j _ _ _ h.1]
  simpa using hv
theorem Lies.drew {w w' : World} {l : List UInt8} (h : Lies w l w') : Lies w l w'.drew := ⟨h.1, h.2.drew⟩
theorem len39 (l : List UInt8) : (Tryz.prog.info? 134).map (·.size) = some (Lib.setCells l).toList.length := by
  rw [Array.length_toList, Lib.setCells_size]; exact size39
theorem Lies.new (w : World) (l : List UInt8) : Lies w l (w.alloc (.cells (Lib.setCells l) 134)) := ⟨heap_alloc_new w _, one_alloc _ _ _⟩
theorem Lies.drewN {w w' : World} {l : List UInt8} (h : Lies w l w') (n : Nat) : Lies w l (w'.drewN n) := ⟨h.1, ⟨h.2.os, h.2.tape, h.2.output, h.2.size, h.2.block⟩⟩

set_option maxHeartbeats 1000000 in
/-- Where the first byte stands that is not in the set. -/
theorem first_lacks (s : ByteArray) (l : List UInt8) (p : UInt8 → Bool) (hp : ∀ c, l.contains c = p c) (w : World) (hs : s.size ≤ 1000000) :
    Calls Tryz.prog 145 #[.string s, .agg (Lib.setCells l), .func (.func 146) #[] #[]] w fun e w' => e = .returned (.int .i64 ((s.data.toList.takeWhile p).length : Nat)) ∧ Below w.heap.size w w' := by
  have HZ : Hid (s.data.toList.length = s.size) := by unfold Hid; simp
  have HP := hide hp
  clear hp
  go_enter Tryz.func145, Tryz.ntmps145
  go_wp2
  go_loopw [7] (fun i wr => ∃ k : Nat, k ≤ s.size ∧ i = .int .i64 k ∧ Hid (∀ c ∈ s.data.toList.take k, p c = true) ∧ Lies w l wr) (fun i _ => s.size - (intOf i).toNat)
  case atStart => exact ⟨0, Nat.zero_le _, rfl, by simp [Hid], Lies.new _ _⟩
  case round =>
    obtain ⟨k, hk, rfl, hall, hli⟩ := hrel
    by_cases hlt : k < s.size
    · have hltz : (k : Int) < s.size := by omega
      obtain ⟨b, hb⟩ : ∃ b, p s[k] = b := ⟨_, rfl⟩
      have hpb : l.contains s[k] = b := (HP.out _).trans hb
      have HB := hide hb
      have HT : Hid (s.data.toList.take (k + 1) = s.data.toList.take k ++ [s[k]]) := by
        unfold Hid; rw [take_snoc _ k (by rw [HZ.out]; exact hlt), get_at s k hlt]
      have hu := Tryz.underlying134
      have hi := len39 l
      clear hb
      go_wp2_with fail
      go_region_held3 (fun w' => Lies w l w' ∧ w'.rangeAt w.heap.size 0 (Lib.setCells l).toList)
        (first | exact ⟨hli.drew, hli.drew.range⟩ | exact ⟨hli.drew.below (by assumption), (hli.drew.below (by assumption)).range⟩)
        (first | (go_at_call 146; refine (lacks_any l s[k] b hpb _).mono ?_; rintro e w1 ⟨rfl, hw1⟩))
      rename_i hS
      obtain ⟨hl1, -⟩ := hS
      clear hi hu hpb hw1 hli
      cases b
      · go_wp2
        go_ret
        refine ⟨?_, hl1.2⟩
        rw [takeWhile_at (k := k) (by rw [HZ.out]; exact hlt) hall.out (by rw [get_at s k hlt]; simp [HB.out])]
        rfl
      · go_wp2
        refine ⟨⟨k + 1, by omega, by go_num, ?_, hl1⟩, by simp [intOf]; omega⟩
        unfold Hid
        rw [HT.out]
        intro c hc
        rcases List.mem_append.1 hc with hc | hc
        · exact hall.out c hc
        · obtain rfl : c = s[k] := by simpa using hc
          simp [HB.out]
    · have hd : decide ((k : Int) < s.size) = false := decide_eq_false (by omega)
      go_wp2_with fail
      go_quiet (fail)
      go_wp2
      go_ret
      refine ⟨?_, (hli.drewN _).2⟩
      rw [takeWhile_all (by rw [List.take_of_length_le (by rw [HZ.out]; omega)] at hall; exact hall.out), HZ.out]
      obtain rfl : k = s.size := by omega
      rfl

set_option maxHeartbeats 1000000 in
/-- Just behind the last byte that is not in the set. -/
theorem last_lacks (s : ByteArray) (l : List UInt8) (p : UInt8 → Bool) (hp : ∀ c, l.contains c = p c) (w : World) (hs : s.size ≤ 1000000) :
    Calls Tryz.prog 147 #[.string s, .agg (Lib.setCells l), .func (.func 146) #[] #[]] w fun e w' => e = .returned (.int .i64 (lastN p s.data.toList : Nat)) ∧ Below w.heap.size w w' := by
  have HZ : Hid (s.data.toList.length = s.size) := by unfold Hid; simp
  have HP := hide hp
  clear hp
  go_enter Tryz.func147, Tryz.ntmps147
  go_wp2
  go_loopw [7] (fun i wr => ∃ k : Nat, k ≤ s.size ∧ i = .int .i64 k ∧ Hid (∀ c ∈ s.data.toList.drop k, p c = true) ∧ Lies w l wr) (fun i _ => (intOf i).toNat)
  case atStart => exact ⟨s.size, Nat.le_refl _, rfl, by unfold Hid; rw [List.drop_eq_nil_of_le (by rw [HZ.out]; exact Nat.le_refl _)]; simp, Lies.new _ _⟩
  case round =>
    obtain ⟨k, hk, rfl, hall, hli⟩ := hrel
    by_cases hlt : 0 < k
    · obtain ⟨m, hm⟩ : ∃ m, k = m + 1 := ⟨k - 1, by omega⟩
      have hms : m < s.size := by omega
      have hltz : (0 : Int) < (k : Int) := by omega
      have hsub : (k : Int) - 1 = (m : Int) := by omega
      have hwr : IntKind.i64.wrap ((k : Int) - 1) = (m : Int) := by rw [i64_wrap_id _ (by omega) (by omega), hsub]
      have hwr2 : IntKind.i64.wrap (m : Int) = (m : Int) := i64_wrap_id _ (by omega) (by omega)
      have hmz : (m : Int) < s.size := by omega
      have HM := hide hm
      clear hm
      obtain ⟨b, hb⟩ : ∃ b, p s[m] = b := ⟨_, rfl⟩
      have hpb : l.contains s[m] = b := (HP.out _).trans hb
      have HB := hide hb
      have HT : Hid (s.data.toList.drop m = s[m] :: s.data.toList.drop (m + 1)) := by
        unfold Hid; rw [List.drop_eq_getElem_cons (by rw [HZ.out]; exact hms), get_at s m hms]
      have hu := Tryz.underlying134
      have hi := len39 l
      clear hb
      go_wp2_with fail
      go_region_held3 (fun w' => Lies w l w' ∧ w'.rangeAt w.heap.size 0 (Lib.setCells l).toList)
        (first | exact ⟨hli.drew, hli.drew.range⟩ | exact ⟨hli.drew.below (by assumption), (hli.drew.below (by assumption)).range⟩)
        (first | (go_at_call 146; refine (lacks_any l s[m] b hpb _).mono ?_; rintro e w1 ⟨rfl, hw1⟩))
      rename_i hS
      obtain ⟨hl1, -⟩ := hS
      clear hi hu hpb hw1 hli
      cases b
      · go_wp2
        go_ret
        refine ⟨?_, hl1.2⟩
        have hal := hall.out
        rw [HM.out] at hal
        rw [lastN_at (k := m) (by rw [HZ.out]; exact hms) hal (by rw [get_at s m hms]; exact HB.out), ← HM.out]
        rfl
      · go_wp2
        refine ⟨⟨m, by omega, by go_num, ?_, hl1⟩, by simp [intOf]; omega⟩
        unfold Hid
        rw [HT.out]
        intro c hc
        rcases List.mem_cons.1 hc with hc | hc
        · subst hc; exact HB.out
        · rw [← HM.out] at hc; exact hall.out c hc
    · obtain rfl : k = 0 := by omega
      have hd : decide ((0 : Int) < ((0 : Nat) : Int)) = false := by decide
      go_wp2_with fail
      go_quiet (fail)
      go_wp2
      go_ret
      refine ⟨?_, (hli.drewN _).2⟩
      rw [lastN_none (by intro c hc; exact hall.out c (by simpa using hc))]
      rfl

end Go.Proofs.YtmpijlaidnhpnaaGreat

namespace Go.Proofs.YtmpijlaidnhpnaaGreat
set_option linter.unusedVariables false
set_option linter.unusedSimpArgs false
set_option maxRecDepth 100000
open Go.RowKit

theorem app_list (a b : ByteArray) : (a ++ b).data.toList = a.data.toList ++ b.data.toList := by simp
theorem bytes_ext {a b : ByteArray} (h : a.data.toList = b.data.toList) : a = b := by
  cases a; cases b; simp at h; rw [h]
theorem ext_take (s : ByteArray) (k : Nat) : (s.extract 0 k).data.toList = s.data.toList.take k := by
  rw [ByteArray.data_extract, Array.toList_extract, List.extract_eq_take_drop]; simp
theorem ext_drop (s : ByteArray) (k : Nat) : (s.extract k s.size).data.toList = s.data.toList.drop k := by
  rw [ByteArray.data_extract, Array.toList_extract, List.extract_eq_take_drop, List.take_of_length_le (by simp)]
theorem size_list (s : ByteArray) : s.data.toList.length = s.size := by simp
theorem empty_of {s : ByteArray} (h : s.data.toList = []) : s.toList.isEmpty = true := by rw [ByteArray.toList_eq, h]; rfl
theorem empty_not {s : ByteArray} (h : s.data.toList ≠ []) : s.toList.isEmpty = false := by rw [ByteArray.toList_eq]; simpa using h

def trimS (s : ByteArray) : ByteArray := ⟨(trimL s.data.toList).toArray⟩
theorem trimS_list (s : ByteArray) : (trimS s).data.toList = trimL s.data.toList := by simp [trimS]
theorem trimS_size (s : ByteArray) : (trimS s).size ≤ s.size := by
  rw [← size_list, ← size_list, trimS_list]; exact trimL_le _

/-- Where blanks at the head end, and where those at the end begin. -/
def tA (s : ByteArray) : Nat := (s.data.toList.takeWhile blankB).length
def tB (s : ByteArray) : Nat := lastN blankB (s.extract (tA s) s.size).data.toList
theorem tA_le (s : ByteArray) : tA s ≤ s.size := by rw [← size_list]; exact takeWhile_le _ _
theorem tB_le (s : ByteArray) : tB s ≤ s.size - tA s := by
  have h := lastN_le blankB (s.extract (tA s) s.size).data.toList
  rw [size_list, ByteArray.size_extract] at h
  unfold tB; omega
theorem trim_cut (s : ByteArray) : (s.extract (tA s) s.size).extract 0 (tB s) = trimS s := by
  apply bytes_ext
  rw [ext_take, trimS_list, tB, ext_drop, tA, trimL_eq]

set_option maxHeartbeats 1000000 in
theorem trim_any (s : ByteArray) (w : World) (hs : s.size ≤ 1000000) :
    Calls Tryz.prog 127 #[.string s] w fun e w' => e = .returned (.string (trimS s)) ∧ Below w.heap.size w w' := by
  have hz := zero39
  have ha := tA_le s
  have hb := tB_le s
  have hex : (s.extract (tA s) s.size).size = s.size - tA s := by rw [ByteArray.size_extract]; omega
  have HEX := hide hex
  have HTC := hide (trim_cut s)
  clear hex
  obtain ⟨t, ht⟩ : ∃ t, s.extract (tA s) s.size = t := ⟨_, rfl⟩
  rw [ht] at HEX HTC
  have HT := hide ht
  clear ht
  have hts : t.size = s.size - tA s := HEX.out
  go_enter Tryz.func127, Tryz.ntmps127
  go_wp2_with fail
  refine (setOf_any _ w (by decide)).mono ?_
  rintro e w1 ⟨rfl, hb1⟩
  have hsz := Lib.setCells_size [32, 9]
  have hsc := run_storeCells_new (P := Tryz.prog) w1 134 (Lib.setCells []) (Lib.setCells [32, 9]) (by rw [hsz]; exact size39) (by rw [hsz, Lib.setCells_size]) (Lib.setCells_one _)
  have hli := Lies.new w1 [32, 9]
  obtain ⟨w2, hw2⟩ : ∃ w2, w1.alloc (.cells (Lib.setCells [32, 9]) 134) = w2 := ⟨_, rfl⟩
  rw [hw2] at hsc hli
  have HW := hide hw2
  clear hw2
  obtain ⟨N, hN⟩ : ∃ N, N = 256 := ⟨_, rfl⟩
  have hS : ∀ w, Sem.run Tryz.prog (sizeOf 134) w = .ok N w := by rw [hN]; exact Tryz.sizeOf134
  rw [← hN] at hsz
  clear hN
  have hlc := hli.load hsz
  have hB2 : Below w.heap.size w w2 := by rw [← HW.out]; exact hb1.alloc hb1.size _
  go_wp2_with fail
  refine (first_lacks s [32, 9] blankB (fun c => rfl) _ hs).mono ?_
  rintro e w3 ⟨rfl, hb3⟩
  rw [show ((s.data.toList.takeWhile blankB).length : Nat) = tA s from rfl]
  have hl3 := hli.below hb3
  have hlc3 := hl3.load hsz
  have hB3 := hB2.trans (hb3.mono hB2.size)
  have htE := HT.out
  clear hlc hli hb3 hB2 hsc
  go_wp2_with fail
  refine (last_lacks t [32, 9] blankB (fun c => rfl) _ (by omega)).mono ?_
  rintro e w4 ⟨rfl, hb4⟩
  have hn : lastN blankB t.data.toList = tB s := by rw [← HT.out]; rfl
  rw [hn]
  have hB4 := hB3.trans (hb4.mono hB3.size)
  clear hlc3 hl3 hb4 hB3 hn
  have htc := HTC.out
  go_wp2_with fail
  go_ret
  exact ⟨rfl, hB4⟩

theorem int_beq (a b : Nat) : ((a : Int) == (b : Int)) = decide (a = b) := by
  by_cases h : a = b
  · simp [h]
  · have : ¬ (a : Int) = (b : Int) := by omega
    simp [h, this]

def tokB (s : ByteArray) : Bool := tokL s.data.toList

theorem tok_at (l : List UInt8) (h : l ≠ []) : tokL l = decide ((l.takeWhile wordB).length = l.length) := by
  unfold tokL
  rw [show l.isEmpty = false by simpa using h]
  simp only [Bool.not_false, Bool.true_and]
  induction l with
  | nil => exact absurd rfl h
  | cons c l ih =>
    rw [List.all_cons, List.takeWhile_cons]
    cases hc : wordB c with
    | false => simp
    | true =>
      by_cases hl : l = []
      · subst hl; simp
      · rw [ih hl]; simp

set_option maxHeartbeats 1000000 in
theorem token_any (s : ByteArray) (w : World) (hs : s.size ≤ 1000000) :
    Calls Tryz.prog 128 #[.string s] w fun e w' => e = .returned (.bool (tokB s)) ∧ Below w.heap.size w w' := by
  by_cases h0 : s.data.toList = []
  · have he := empty_of h0
    have HT : Hid (tokB s = false) := by unfold Hid tokB tokL; rw [h0]; rfl
    clear h0
    go_enter Tryz.func128, Tryz.ntmps128
    go_wp2_with fail
    go_ret
    exact ⟨by rw [HT.out]; rfl, Below.refl _ _⟩
  · have he := empty_not h0
    have HT : Hid (tokB s = decide ((s.data.toList.takeWhile wordB).length = s.size)) := by unfold Hid tokB; rw [tok_at _ h0, size_list]
    clear h0
    obtain ⟨k, hk⟩ : ∃ k, (s.data.toList.takeWhile wordB).length = k := ⟨_, rfl⟩
    rw [hk] at HT
    go_enter Tryz.func128, Tryz.ntmps128
    go_wp2_with fail
    refine (setOf_any _ w (by decide)).mono ?_
    rintro e w1 ⟨he1, hb1⟩
    have hE : e = .returned (.agg (Lib.setCells wordL)) := he1
    clear he1
    subst hE
    go_wp2_with fail
    refine (first_lacks s wordL wordB (fun c => rfl) _ hs).mono ?_
    rintro e w2 ⟨rfl, hb2⟩
    rw [hk]
    go_wp2_with fail
    go_ret
    refine ⟨?_, hb1.trans (hb2.mono hb1.size)⟩
    rw [HT.out, ← int_beq]
    rfl

def ctlB (s : ByteArray) : Bool := s.data.toList.any ctrlB

end Go.Proofs.YtmpijlaidnhpnaaGreat
