/- The walks of ReadDec, ReadHex, Signed, and of the document's own readings. Where a byte stands first, a text cut at a byte, a text without its end: the library's answers. What was read so far, in memory; the walks of whether it may be. -/
import Derived.Test.YtmpijlaidnhpnaaGreatJKu
import Derived.Test.YtmpijlaidnhpnaaGreatJHm
import Derived.Test.YtmpijlaidnhpnaaGreatJShelf
import Derived.Lib.AppendStr
namespace Go.Proofs.YtmpijlaidnhpnaaGreat.Ck
set_option linter.unusedVariables false
set_option linter.unusedSimpArgs false
set_option maxRecDepth 100000
open Go.RowKit

theorem below_drewN (w : World) (n : Nat) : Below w.heap.size w (w.drewN n) := ⟨rfl, rfl, rfl, Nat.le_refl _, fun _ _ => rfl⟩

set_option maxHeartbeats 400000 in
theorem below_u (b : Nat) (w : World) :
    Calls Tryz.prog 155 #[.int .u64 (b : Int)] w fun e w' => e = .returned (.func (.func 162) #[] #[.pointer (some ⟨w.heap.size, 0, none⟩)]) ∧ w' = w.alloc (.cells #[.int .u64 (b : Int)] 97) := by
  go_enter Tryz.func155, Tryz.ntmps155
  go_wp2
  go_ret
  exact ⟨rfl, rfl⟩

set_option maxHeartbeats 400000 in
theorem readHex_any (s : ByteArray) (w : World) (hs : s.size ≤ maxLen) :
    Calls Tryz.prog 164 #[.string s] w fun e w' => e = .returned (.tuple #[.int .u64 (rdN 16 s.data.toList : Nat), .int .i64 (rdE 16 s.data.toList : Nat)]) ∧ Below w.heap.size w w' := by
  go_enter Tryz.func164, Tryz.ntmps164
  go_wp2_with fail
  refine (below_u 16 _).mono ?_
  rintro e w1 ⟨rfl, rfl⟩
  go_wp2_with fail
  refine (read_u16 s _ _ hs (by simp)).mono ?_
  rintro e w2 ⟨rfl, n, rfl⟩
  go_wp2_with fail
  go_ret2
  exact ⟨rfl, ((Below.refl _ _).alloc (Nat.le_refl _) _).trans ((below_drewN _ n).mono (by simp))⟩

end Go.Proofs.YtmpijlaidnhpnaaGreat.Ck

namespace Go.Proofs.YtmpijlaidnhpnaaGreat.Ck
set_option linter.unusedVariables false
set_option linter.unusedSimpArgs false
set_option maxRecDepth 100000
open Go.RowKit

/-- Where c stands first; -1: nowhere. -/
def ixI (c : UInt8) (l : List UInt8) : Int := if atN c l < l.length then (atN c l : Int) else -1
theorem indexByte_ix (c : UInt8) : ∀ l : List UInt8, Lib.indexByte l c = ixI c l
  | [] => by simp [Lib.indexByte, ixI, atN]
  | b :: l => by
    have ih := indexByte_ix c l
    rw [Lib.indexByte, ih]
    unfold ixI atN
    rw [List.takeWhile_cons]
    by_cases h : b = c
    · subst h; simp [neB]
    · have h1 : (b == c) = false := by simpa using h
      have h2 : neB c b = true := by simpa [neB] using h
      rw [h1, h2]
      simp only [Bool.false_eq_true, if_false, if_true, List.length_cons]
      by_cases g : (l.takeWhile (neB c)).length < l.length
      · have e : (((l.takeWhile (neB c)).length : Int) == -1) = false := by rw [beq_eq_false_iff_ne]; omega
        have g' : (l.takeWhile (neB c)).length + 1 < l.length + 1 := by omega
        simp only [g, g', e, if_true, Bool.false_eq_true, if_false]
        omega
      · have g' : ¬ (l.takeWhile (neB c)).length + 1 < l.length + 1 := by omega
        simp [g, g']
theorem ix_at {s : ByteArray} {c : UInt8} {k : Nat} (hk : k < s.size) (h : ∀ x ∈ s.data.toList.take k, neB c x = true) (g : s[k] = c) : ixI c s.data.toList = k := by
  have hl : k < s.data.toList.length := by rw [size_list]; exact hk
  have : atN c s.data.toList = k := takeWhile_at hl h (by rw [get_at s k hk, g]; simp [neB])
  unfold ixI
  rw [this, if_pos hl]
theorem ix_none {c : UInt8} {l : List UInt8} (h : ∀ x ∈ l, neB c x = true) : ixI c l = -1 := by
  unfold ixI
  rw [atN, takeWhile_all h, if_neg (by omega)]

/-- What stands ahead of the first c, and behind it. -/
def befS (c : UInt8) (s : ByteArray) : ByteArray := ⟨(s.data.toList.takeWhile (neB c)).toArray⟩
def aftS (c : UInt8) (s : ByteArray) : ByteArray := ⟨((s.data.toList.dropWhile (neB c)).drop 1).toArray⟩
def hasB (c : UInt8) (s : ByteArray) : Bool := decide (atN c s.data.toList < s.data.toList.length)
theorem befS_list (c : UInt8) (s : ByteArray) : (befS c s).data.toList = s.data.toList.takeWhile (neB c) := by simp [befS]
theorem aftS_list (c : UInt8) (s : ByteArray) : (aftS c s).data.toList = (s.data.toList.dropWhile (neB c)).drop 1 := by simp [aftS]
theorem befS_size (c : UInt8) (s : ByteArray) : (befS c s).size ≤ s.size := by rw [← size_list, befS_list, ← size_list s]; exact takeWhile_le _ _
theorem aftS_size (c : UInt8) (s : ByteArray) : (aftS c s).size ≤ s.size := by
  rw [← size_list, aftS_list, ← size_list s, List.length_drop]
  have := dropWhile_le (neB c) s.data.toList
  omega
theorem bef_ext (c : UInt8) (s : ByteArray) : s.extract 0 (atN c s.data.toList) = befS c s := by
  apply bytes_ext
  rw [ext_take, befS_list, take_atN]
theorem aft_ext (c : UInt8) (s : ByteArray) : s.extract (atN c s.data.toList + 1) s.size = aftS c s := by
  apply bytes_ext
  rw [ext_drop, aftS_list, atN, ← drop_takeWhile, List.drop_drop]
theorem bef_none {c : UInt8} {s : ByteArray} (h : ¬ atN c s.data.toList < s.data.toList.length) : befS c s = s := by
  apply bytes_ext
  rw [befS_list, ← take_atN, List.take_of_length_le (by omega)]
theorem aft_none {c : UInt8} {s : ByteArray} (h : ¬ atN c s.data.toList < s.data.toList.length) : aftS c s = ⟨#[]⟩ := by
  apply bytes_ext
  rw [aftS_list, ← drop_takeWhile, List.drop_drop, List.drop_of_length_le (by unfold atN at h; omega)]

set_option maxRecDepth 100000 in
set_option maxHeartbeats 1000000 in
theorem cutLite_any (s : ByteArray) (c : UInt8) (w : World) (hs : s.size ≤ 1000000) :
    Calls Tryz.prog 99 #[.string s, .string ⟨#[c]⟩] w fun e w' => e = .returned (.tuple #[.string (befS c s), .string (aftS c s), .bool (hasB c s)]) ∧ ∃ n, w' = w.drewN n := by
  have hle := atN_le c s.data.toList
  rw [size_list] at hle
  have hi := Tryz.stringslite_Index_one s c w
  rw [indexByte_ix] at hi
  by_cases h : atN c s.data.toList < s.data.toList.length
  · have HB := hide (bef_ext c s)
    have HA := hide (aft_ext c s)
    have HH : Hid (hasB c s = true) := by unfold Hid hasB; simpa using h
    rw [ixI, if_pos h] at hi
    rw [size_list] at h
    generalize atN c s.data.toList = k at h hle hi HB HA
    go_enter Tryz.func99, Tryz.ntmps99
    go_wp2_with fail
    refine hi.mono ?_
    rintro e w1 ⟨rfl, rfl⟩
    go_wp2_with fail
    go_quiet (fail)
    go_wp2_with fail
    go_ret3
    exact ⟨by rw [← HB.out, ← HA.out, HH.out]; rfl, nq, rfl⟩
  · have HB := hide (bef_none h)
    have HA := hide (aft_none h)
    have HH : Hid (hasB c s = false) := by unfold Hid hasB; simpa using h
    rw [ixI, if_neg h] at hi
    go_enter Tryz.func99, Tryz.ntmps99
    go_wp2_with fail
    refine hi.mono ?_
    rintro e w1 ⟨rfl, rfl⟩
    go_wp2_with fail
    go_ret3
    exact ⟨by rw [HB.out, HA.out, HH.out]; rfl, 0, by simp [World.drewN]⟩

set_option maxRecDepth 100000 in
set_option maxHeartbeats 1000000 in
theorem cut_any (s : ByteArray) (c : UInt8) (w : World) (hs : s.size ≤ 1000000) :
    Calls Tryz.prog 78 #[.string s, .string ⟨#[c]⟩] w fun e w' => e = .returned (.tuple #[.string (befS c s), .string (aftS c s), .bool (hasB c s)]) ∧ ∃ n, w' = w.drewN n := by
  go_enter Tryz.func78, Tryz.ntmps78
  go_wp2_with fail
  refine (cutLite_any s c w hs).mono ?_
  rintro e w1 ⟨rfl, n, rfl⟩
  go_wp2_with fail
  go_ret3
  exact ⟨rfl, n, rfl⟩

theorem suffix_one (l : List UInt8) (c : UInt8) : Lib.hasSuffix l [c] = decide (l.getLast? = some c) := by
  unfold Lib.hasSuffix
  rw [Bool.eq_iff_iff, List.isSuffixOf_iff_suffix, decide_eq_true_eq]
  constructor
  · rintro ⟨t, rfl⟩; simp
  · intro h
    obtain ⟨ys, rfl⟩ := List.getLast?_eq_some_iff.1 h
    exact ⟨ys, rfl⟩
theorem trim_bare (l : List UInt8) : Lib.trimSuffix l [13] = bareL l := by
  unfold Lib.trimSuffix bareL
  rw [suffix_one]
  by_cases h : l.getLast? = some 13
  · rw [if_pos h, if_pos (decide_eq_true h), List.dropLast_eq_take]; rfl
  · rw [if_neg h, if_neg (by rw [decide_eq_false h]; decide)]
theorem trimSuffix_any (s : ByteArray) (w : World) (hs : s.size ≤ 1000000) :
    Calls Tryz.prog 81 #[.string s, .string ⟨#[13]⟩] w fun e w' => e = .returned (.string (bs (bareL s.data.toList))) ∧ w' = w := by
  have := Tryz.strings_TrimSuffix s ⟨#[13]⟩ w (by omega)
  rw [show (⟨#[13]⟩ : ByteArray).data.toList = [13] from rfl, trim_bare] at this
  exact this

end Go.Proofs.YtmpijlaidnhpnaaGreat.Ck

namespace Go.Proofs.YtmpijlaidnhpnaaGreat.Ck
set_option linter.unusedVariables false
set_option linter.unusedSimpArgs false
set_option maxRecDepth 100000
open Go.RowKit

/-- What was read so far as a value. -/
def K.v (k : K) : Value := .agg #[.int .i64 k.st, .string k.line, .int .i64 k.left, .int .i64 k.size]
def K.cs (k : K) : List Value := [.int .i64 k.st, .string k.line, .int .i64 k.left, .int .i64 k.size]

/-- It lies in block N. -/
structure Four (w : World) (N : Nat) (k : K) : Prop where
  c0 : w.cell? ⟨N, 0, none⟩ = some (.int .i64 k.st)
  c1 : w.cell? ⟨N, 1, none⟩ = some (.string k.line)
  c2 : w.cell? ⟨N, 2, none⟩ = some (.int .i64 k.left)
  c3 : w.cell? ⟨N, 3, none⟩ = some (.int .i64 k.size)
  lt : N < w.heap.size
  fz : ∀ o, w.frozen? ⟨N, o, none⟩ = false
theorem Four.below {w w' : World} {N : Nat} {k : K} (h : Four w N k) (hb : Below w.heap.size w w') : Four w' N k := by
  have hc : ∀ j, w'.cell? ⟨N, j, none⟩ = w.cell? ⟨N, j, none⟩ := fun j => hb.cell (p := ⟨N, j, none⟩) h.lt
  exact ⟨(hc 0).trans h.c0, (hc 1).trans h.c1, (hc 2).trans h.c2, (hc 3).trans h.c3, Nat.lt_of_lt_of_le h.lt hb.size, fun o => (hb.frozen (p := ⟨N, o, none⟩) h.lt).trans (h.fz o)⟩
theorem Four.under {w w' : World} {N B : Nat} {k : K} (h : Four w N k) (hN : N < B) (hb : Below B w w') : Four w' N k := by
  have hc : ∀ j, w'.cell? ⟨N, j, none⟩ = w.cell? ⟨N, j, none⟩ := fun j => hb.cell (p := ⟨N, j, none⟩) hN
  exact ⟨(hc 0).trans h.c0, (hc 1).trans h.c1, (hc 2).trans h.c2, (hc 3).trans h.c3, Nat.lt_of_lt_of_le h.lt hb.size, fun o => (hb.frozen (p := ⟨N, o, none⟩) hN).trans (h.fz o)⟩
theorem Four.new (w : World) (k : K) : Four (w.alloc (.cells k.cs.toArray 30)) w.heap.size k :=
  ⟨by rw [World.cell?_alloc_new]; rfl, by rw [World.cell?_alloc_new]; rfl, by rw [World.cell?_alloc_new]; rfl, by rw [World.cell?_alloc_new]; rfl, by simp, fun o => World.frozen?_alloc_new _ _ _ _⟩

/-- The two parts of whether it may be. -/
def lfB (k : K) : Bool := if k.st = 1 then decide (1 ≤ k.left) && decide (k.left ≤ 20000 - k.size) else k.left == 0
def lnB (k : K) : Bool := if k.st = 1 ∨ k.st = 4 then decide (k.line.data.toList = []) else decide (k.line.size ≤ 200) && decide (ixI 10 k.line.data.toList < 0)
def rtB (k : K) : Bool := decide (0 ≤ k.st) && decide (k.st ≤ 4) && decide (0 ≤ k.size) && decide (k.size ≤ 20000) && lfB k && lnB k

theorem ix_neg (c : UInt8) (l : List UInt8) : ixI c l < 0 ↔ ∀ x ∈ l, neB c x = true := by
  constructor
  · intro h
    by_cases g : atN c l < l.length
    · unfold ixI at h; rw [if_pos g] at h; omega
    · exact none_no g
  · intro h
    rw [ix_none h]; omega
theorem rt_good (k : K) : rtB k = true ↔ Good k := by
  unfold rtB lfB lnB
  constructor
  · intro h
    simp only [Bool.and_eq_true, decide_eq_true_eq] at h
    obtain ⟨⟨⟨⟨⟨h1, h2⟩, h3⟩, h4⟩, h5⟩, h6⟩ := h
    have hline : k.line.size ≤ 200 ∧ (∀ c ∈ k.line.data.toList, neB 10 c = true) := by
      by_cases g : k.st = 1 ∨ k.st = 4
      · rw [if_pos g, decide_eq_true_eq] at h6
        refine ⟨?_, fun c hc => ?_⟩
        · rw [← size_list, h6]; simp
        · rw [h6] at hc; simp at hc
      · rw [if_neg g] at h6
        simp only [Bool.and_eq_true, decide_eq_true_eq] at h6
        exact ⟨h6.1, (ix_neg _ _).1 h6.2⟩
    refine ⟨h1, h2, h3, h4, fun g => ?_, fun g => ?_, fun g => ?_, hline.1, hline.2⟩
    · rw [if_pos g] at h5
      simp only [Bool.and_eq_true, decide_eq_true_eq] at h5; exact h5
    · rw [if_neg g] at h5; simpa using h5
    · rw [if_pos g, decide_eq_true_eq] at h6
      apply bytes_ext; rw [h6]
  · intro h
    have hl : (if k.st = 1 then decide (1 ≤ k.left) && decide (k.left ≤ 20000 - k.size) else k.left == 0) = true := by
      by_cases g : k.st = 1
      · rw [if_pos g, decide_eq_true (h.lf g).1, decide_eq_true (h.lf g).2]; rfl
      · rw [if_neg g, h.lz g]; rfl
    have hn : (if k.st = 1 ∨ k.st = 4 then decide (k.line.data.toList = []) else decide (k.line.size ≤ 200) && decide (ixI 10 k.line.data.toList < 0)) = true := by
      by_cases g : k.st = 1 ∨ k.st = 4
      · rw [if_pos g, h.le g]; rfl
      · rw [if_neg g, decide_eq_true h.ln, decide_eq_true ((ix_neg _ _).2 h.no)]; rfl
    rw [decide_eq_true h.s0, decide_eq_true h.s4, decide_eq_true h.z0, decide_eq_true h.z1, hl, hn]; rfl

set_option maxRecDepth 100000 in
set_option maxHeartbeats 1000000 in
theorem rightLeft_any (k : K) (w : World) (hz0 : 0 ≤ k.size) (hz1 : k.size ≤ 20000) :
    Calls Tryz.prog 57 #[k.v] w fun e w' => e = .returned (.bool (lfB k)) ∧ Below w.heap.size w w' := by
  have hbn : Below w.heap.size w (w.alloc (.cells k.cs.toArray 30)) := (Below.refl _ _).alloc (Nat.le_refl _) _
  unfold K.cs at hbn
  by_cases h1 : k.st = 1
  · have hd1 : (k.st == 1) = true := by simpa using h1
    by_cases h2 : 1 ≤ k.left
    · have HR : Hid (lfB k = decide (k.left ≤ 20000 - k.size)) := by unfold Hid lfB; rw [if_pos h1, decide_eq_true h2]; simp
      unfold K.v
      clear h1
      go_enter Tryz.func57, Tryz.ntmps57
      go_wp2_with fail
      go_ret
      exact ⟨by rw [HR.out]; rfl, hbn⟩
    · have hd2 : decide (1 ≤ k.left) = false := decide_eq_false h2
      have HR : Hid (lfB k = false) := by unfold Hid lfB; rw [if_pos h1, hd2]; rfl
      unfold K.v
      clear h1 h2
      go_enter Tryz.func57, Tryz.ntmps57
      go_wp2_with fail
      go_ret
      exact ⟨by rw [HR.out]; rfl, hbn⟩
  · have hd1 : (k.st == 1) = false := by simpa using h1
    have HR : Hid (lfB k = (k.left == 0)) := by unfold Hid lfB; rw [if_neg h1]
    unfold K.v
    clear h1
    go_enter Tryz.func57, Tryz.ntmps57
    go_wp2_with fail
    go_ret
    exact ⟨by rw [HR.out]; rfl, hbn⟩

theorem isE (s : ByteArray) : s.toList.isEmpty = decide (s.data.toList = []) := by
  rw [ByteArray.toList_eq]; cases s.data.toList <;> simp

set_option maxRecDepth 100000 in
set_option maxHeartbeats 1000000 in
theorem rightLine_any (k : K) (w : World) (hl : k.line.size ≤ 1000000) :
    Calls Tryz.prog 58 #[k.v] w fun e w' => e = .returned (.bool (lnB k)) ∧ Below w.heap.size w w' := by
  have hbn : Below w.heap.size w (w.alloc (.cells k.cs.toArray 30)) := (Below.refl _ _).alloc (Nat.le_refl _) _
  unfold K.cs at hbn
  have hix := Tryz.strings_IndexByte k.line 10
  rw [show (10 : Int).toNat.toUInt8 = 10 from rfl, indexByte_ix] at hix
  by_cases h1 : k.st = 1
  · have hd1 : (k.st == 1) = true := by simpa using h1
    have HR : Hid (lnB k = k.line.toList.isEmpty) := by unfold Hid lnB; rw [if_pos (Or.inl h1), isE]
    unfold K.v
    clear h1 hix
    go_enter Tryz.func58, Tryz.ntmps58
    go_wp2_with fail
    go_ret
    exact ⟨by rw [HR.out]; rfl, hbn⟩
  have hd1 : (k.st == 1) = false := by simpa using h1
  by_cases h4 : k.st = 4
  · have hd4 : (k.st == 4) = true := by simpa using h4
    have HR : Hid (lnB k = k.line.toList.isEmpty) := by unfold Hid lnB; rw [if_pos (Or.inr h4), isE]
    unfold K.v
    clear h1 h4 hix
    go_enter Tryz.func58, Tryz.ntmps58
    go_wp2_with fail
    go_ret
    exact ⟨by rw [HR.out]; rfl, hbn⟩
  have hd4 : (k.st == 4) = false := by simpa using h4
  by_cases h2 : k.line.size ≤ 200
  · have hd2 : decide ((k.line.size : Int) ≤ 200) = true := decide_eq_true (by omega)
    have HR : Hid (lnB k = decide (ixI 10 k.line.data.toList < 0)) := by unfold Hid lnB; rw [if_neg (by simp [h1, h4]), decide_eq_true h2]; simp
    unfold K.v
    clear h1 h4
    go_enter Tryz.func58, Tryz.ntmps58
    go_wp2_with fail
    refine (hix _).mono ?_
    rintro e w1 ⟨rfl, rfl⟩
    go_wp2_with fail
    go_ret
    exact ⟨by rw [HR.out]; rfl, hbn⟩
  · have hd2 : decide ((k.line.size : Int) ≤ 200) = false := decide_eq_false (by omega)
    have HR : Hid (lnB k = false) := by unfold Hid lnB; rw [if_neg (by simp [h1, h4]), decide_eq_false h2]; rfl
    unfold K.v
    clear h1 h4 hix
    go_enter Tryz.func58, Tryz.ntmps58
    go_wp2_with fail
    go_ret
    exact ⟨by rw [HR.out]; rfl, hbn⟩

set_option maxRecDepth 100000 in
set_option maxHeartbeats 1000000 in
theorem right_any (k : K) (w : World) (hl : k.line.size ≤ 1000000) :
    Calls Tryz.prog 41 #[k.v] w fun e w' => e = .returned (.bool (rtB k)) ∧ Below w.heap.size w w' := by
  have hnew := Four.new w k
  have hbn : Below w.heap.size w (w.alloc (.cells k.cs.toArray 30)) := (Below.refl _ _).alloc (Nat.le_refl _) _
  unfold K.cs at hnew hbn
  by_cases h1 : 0 ≤ k.st
  rotate_left
  · have hd1 : decide (0 ≤ k.st) = false := decide_eq_false h1
    have HR : Hid (rtB k = false) := by unfold Hid rtB; rw [hd1]; simp
    unfold K.v
    clear h1
    go_enter Tryz.func41, Tryz.ntmps41
    go_wp2_with fail
    go_ret
    exact ⟨by rw [HR.out]; rfl, hbn⟩
  by_cases h2 : k.st ≤ 4
  rotate_left
  · have hd1 : decide (0 ≤ k.st) = true := decide_eq_true h1
    have hd2 : decide (k.st ≤ 4) = false := decide_eq_false h2
    have HR : Hid (rtB k = false) := by unfold Hid rtB; rw [hd2]; simp
    unfold K.v
    clear h1 h2
    go_enter Tryz.func41, Tryz.ntmps41
    go_wp2_with fail
    go_ret
    exact ⟨by rw [HR.out]; rfl, hbn⟩
  by_cases h3 : 0 ≤ k.size
  rotate_left
  · have hd3 : decide (0 ≤ k.size) = false := decide_eq_false h3
    have HR : Hid (rtB k = false) := by unfold Hid rtB; rw [hd3]; simp
    have hd1 : decide (0 ≤ k.st) = true := decide_eq_true h1
    have hd2 : decide (k.st ≤ 4) = true := decide_eq_true h2
    unfold K.v
    clear h1 h2 h3
    go_enter Tryz.func41, Tryz.ntmps41
    go_wp2_with fail
    go_ret
    exact ⟨by rw [HR.out]; rfl, hbn⟩
  by_cases h4 : k.size ≤ 20000
  rotate_left
  · have hd4 : decide (k.size ≤ 20000) = false := decide_eq_false h4
    have HR : Hid (rtB k = false) := by unfold Hid rtB; rw [hd4]; simp
    have hd1 : decide (0 ≤ k.st) = true := decide_eq_true h1
    have hd2 : decide (k.st ≤ 4) = true := decide_eq_true h2
    have hd3 : decide (0 ≤ k.size) = true := decide_eq_true h3
    unfold K.v
    clear h1 h2 h3 h4
    go_enter Tryz.func41, Tryz.ntmps41
    go_wp2_with fail
    go_ret
    exact ⟨by rw [HR.out]; rfl, hbn⟩
  have hd1 : decide (0 ≤ k.st) = true := decide_eq_true h1
  have hd2 : decide (k.st ≤ 4) = true := decide_eq_true h2
  have hd3 : decide (0 ≤ k.size) = true := decide_eq_true h3
  have hd4 : decide (k.size ≤ 20000) = true := decide_eq_true h4
  have hcl := rightLeft_any k
  have hcn := rightLine_any k
  unfold K.v at hcl hcn ⊢
  cases h5 : lfB k
  · have HR : Hid (rtB k = false) := by unfold Hid rtB; rw [h5]; simp
    have H5 := hide h5
    have H3 := hide h3
    have H4 := hide h4
    clear h1 h2 h3 h4 h5
    go_enter Tryz.func41, Tryz.ntmps41
    go_wp2_with fail
    generalize w.alloc _ = W1 at hnew hbn ⊢
    refine (hcl _ H3.out H4.out).mono ?_
    rintro e w1 ⟨rfl, hb1⟩
    rw [H5.out]
    go_wp2_with fail
    go_ret
    exact ⟨by rw [HR.out]; rfl, hbn.trans (hb1.mono hbn.size)⟩
  · have HR : Hid (rtB k = lnB k) := by unfold Hid rtB; rw [h5, hd1, hd2, hd3, hd4]; simp
    have H5 := hide h5
    have H3 := hide h3
    have H4 := hide h4
    clear h1 h2 h3 h4 h5
    go_enter Tryz.func41, Tryz.ntmps41
    go_wp2_with fail
    generalize w.alloc _ = W1 at hnew hbn ⊢
    refine (hcl _ H3.out H4.out).mono ?_
    rintro e w1 ⟨rfl, hb1⟩
    rw [H5.out]
    have hX := hnew.below hb1
    have c0 := hX.c0
    have c1 := hX.c1
    have c2 := hX.c2
    have c3 := hX.c3
    go_wp2_with fail
    refine (hcn _ hl).mono ?_
    rintro e w2 ⟨rfl, hb2⟩
    go_wp2_with fail
    go_ret
    have B1 := hbn.trans (hb1.mono hbn.size)
    exact ⟨by rw [HR.out]; rfl, B1.trans (hb2.mono B1.size)⟩

end Go.Proofs.YtmpijlaidnhpnaaGreat.Ck
