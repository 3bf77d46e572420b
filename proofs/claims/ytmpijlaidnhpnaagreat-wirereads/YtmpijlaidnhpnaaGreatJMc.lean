/- Paths that are cleaned, as lists of bytes, by plain reckoning: nothing of the program in it, and no condition beside each theorem's own. Where a byte stands first and last, and what a text begins with: the document's own answers and the library's. -/
import Derived.Test.YtmpijlaidnhpnaaGreatJMa
import Derived.Test.YtmpijlaidnhpnaaGreatJWd
import Derived.Test.YtmpijlaidnhpnaaGreatJShelf
namespace Go.Proofs.YtmpijlaidnhpnaaGreat
set_option linter.unusedVariables false
set_option linter.unusedSimpArgs false

def notS (c : UInt8) : Bool := c != 47

def pre (p l : List UInt8) : Bool := p.isPrefixOf l

/-- The output without its last step. -/
def backL (o : List UInt8) : List UInt8 := o.take (lastN notS o - 1)
/-- How long the first step is. -/
def segN (l : List UInt8) : Nat := 1 + ((l.drop 1).takeWhile notS).length

def cStep (o l : List UInt8) : List UInt8 × List UInt8 :=
  if l = [46] ∨ l = [46, 46] then (o, [])
  else if pre [46, 47] l = true ∨ pre [47, 46, 47] l = true then (o, l.drop 2)
  else if pre [46, 46, 47] l = true then (o, l.drop 3)
  else if l = [47, 46] then (o, [47])
  else if pre [47, 46, 46, 47] l = true then (backL o, l.drop 3)
  else if l = [47, 46, 46] then (backL o, [47])
  else (o ++ l.take (segN l), l.drop (segN l))

def cleanF : Nat → List UInt8 → List UInt8 → List UInt8
  | 0, o, _ => o
  | k + 1, o, l => if l = [] then o else cleanF k (cStep o l).1 (cStep o l).2

/-- What cleaning comes to, behind an output. -/
def cln (o l : List UInt8) : List UInt8 := cleanF l.length o l
/- The steps of a path that begins with a slash -/

/-- A row of steps as a path. -/
def pathOf (segs : List (List UInt8)) : List UInt8 := segs.flatMap fun s => 47 :: s
/-- A step that is neither here nor back. -/
def okSeg (s : List UInt8) : Prop := (∀ c ∈ s, notS c = true) ∧ s ≠ [46] ∧ s ≠ [46, 46]
def Good (l : List UInt8) : Prop := ∃ segs, l = pathOf segs ∧ ∀ s ∈ segs, okSeg s

/- Lengths and bytes -/

end Go.Proofs.YtmpijlaidnhpnaaGreat

namespace Go.Proofs.YtmpijlaidnhpnaaGreat
set_option linter.unusedVariables false
set_option linter.unusedSimpArgs false
set_option maxRecDepth 100000
open Go.RowKit

def neB (c x : UInt8) : Bool := x != c
/-- How many bytes stand ahead of the first c. -/
def atN (c : UInt8) (l : List UInt8) : Nat := (l.takeWhile (neB c)).length
/-- Where c stands first; -1: nowhere. -/
def ixI (c : UInt8) (l : List UInt8) : Int := if atN c l < l.length then (atN c l : Int) else -1
theorem atN_le (c : UInt8) (l : List UInt8) : atN c l ≤ l.length := takeWhile_le _ _
theorem indexByte_ix (c : UInt8) : ∀ l : List UInt8, Lib.indexByte l c = ixI c l
  | [] => by simp [Lib.indexByte, ixI, atN]
  | b :: l => by
    have ih := indexByte_ix c l
    rw [Lib.indexByte, ih]
    unfold ixI atN
    rw [List.takeWhile_cons]
    by_cases h : b = c
    · subst h; simp [neB]
    · have h1 : (b == c) = false := by simpa using h
      have h2 : neB c b = true := by simpa [neB] using h
      rw [h1, h2]
      simp only [Bool.false_eq_true, if_false, if_true, List.length_cons]
      by_cases g : (l.takeWhile (neB c)).length < l.length
      · have e : (((l.takeWhile (neB c)).length : Int) == -1) = false := by rw [beq_eq_false_iff_ne]; omega
        have g' : (l.takeWhile (neB c)).length + 1 < l.length + 1 := by omega
        simp only [g, g', e, if_true, Bool.false_eq_true, if_false]
        omega
      · have g' : ¬ (l.takeWhile (neB c)).length + 1 < l.length + 1 := by omega
        simp [g, g']

theorem ix_at {s : ByteArray} {c : UInt8} {k : Nat} (hk : k < s.size) (h : ∀ x ∈ s.data.toList.take k, neB c x = true) (g : s[k] = c) : ixI c s.data.toList = k := by
  have hl : k < s.data.toList.length := by rw [size_list]; exact hk
  have : atN c s.data.toList = k := takeWhile_at hl h (by rw [get_at s k hk, g]; simp [neB])
  unfold ixI
  rw [this, if_pos hl]
theorem ix_none {c : UInt8} {l : List UInt8} (h : ∀ x ∈ l, neB c x = true) : ixI c l = -1 := by
  unfold ixI
  rw [atN, takeWhile_all h, if_neg (by omega)]

set_option maxRecDepth 100000 in
set_option maxHeartbeats 1000000 in
theorem find_any (s : ByteArray) (c : UInt8) (w : World) (hs : s.size ≤ 1000000) :
    Calls Tryz.prog 43 #[.string s, .int .u8 (c.toNat : Int)] w fun e w' => e = .returned (.int .i64 (ixI c s.data.toList)) ∧ w' = w := by
  have HZ : Hid (s.data.toList.length = s.size) := by unfold Hid; simp
  go_enter Tryz.func43, Tryz.ntmps43
  go_wp2_with fail
  go_loop [5] (fun i => ∃ k : Nat, k ≤ s.size ∧ i = .int .i64 k ∧ Hid (∀ x ∈ s.data.toList.take k, neB c x = true)) (fun i => s.size - (intOf i).toNat)
  case atStart => exact ⟨0, Nat.zero_le _, rfl, by simp [Hid]⟩
  case round =>
    obtain ⟨k, hk, rfl, hall⟩ := hrel
    by_cases hlt : k < s.size
    · have hltz : (k : Int) < s.size := by omega
      have HT : Hid (s.data.toList.take (k + 1) = s.data.toList.take k ++ [s[k]]) := by
        unfold Hid; rw [take_snoc _ k (by rw [HZ.out]; exact hlt), get_at s k hlt]
      by_cases hb : s[k] = c
      · have HN := hide (ix_at hlt hall.out hb)
        have hbd : (((s[k]).toNat : Int) == (c.toNat : Int)) = true := by rw [hb]; simp
        go_wp2_with fail
        go_ret
        exact ⟨ret_int HN.out.symm, rfl⟩
      · have hbd : (((s[k]).toNat : Int) == (c.toNat : Int)) = false := by
          rw [beq_eq_false_iff_ne]
          intro e
          exact hb (UInt8.toNat_inj.1 (by omega))
        have HB := hide hb
        clear hb
        go_wp2_with fail
        refine ⟨⟨k + 1, by omega, by go_num, ?_⟩, by simp [intOf]; omega⟩
        unfold Hid
        rw [HT.out]
        intro x hx
        rcases List.mem_append.1 hx with hx | hx
        · exact hall.out x hx
        · obtain rfl : x = s[k] := by simpa using hx
          simpa [neB] using HB.out
    · have hd : decide ((k : Int) < s.size) = false := decide_eq_false (by omega)
      rw [List.take_of_length_le (by rw [HZ.out]; omega)] at hall
      have HN := hide (ix_none hall.out)
      go_wp2_with fail
      go_ret
      exact ⟨ret_int HN.out.symm, rfl⟩

end Go.Proofs.YtmpijlaidnhpnaaGreat
