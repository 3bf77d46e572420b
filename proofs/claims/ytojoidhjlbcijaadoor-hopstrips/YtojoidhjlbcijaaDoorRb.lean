/- The walk of what hands on the parts of a text between a byte. -/
import Derived.Test.YtojoidhjlbcijaaDoorCa
import Derived.Test.YtojoidhjlbcijaaDoorRa
import Derived.RangeFuncNested
import Derived.RangeFuncBound
import Derived.RangeFuncCalls
import Derived.RangeFuncLeaves
import Derived.RangeFuncBox
import Derived.Shelf.Abstract
import Derived.Shelf.RegionOpen
import Derived.OwnWalkIn
import Derived.TacticsInMore
import Derived.LoopNIn
import Derived.LoopIn
namespace Go.Proofs.YtojoidhjlbcijaaDoor
set_option linter.unusedVariables false
set_option linter.unusedSimpArgs false
open Go.RowKit Go.Shelf

attribute [local go_sem] Oper.semAt_some

/-- A part that is handed on. -/
abbrev Pt := { x : List UInt8 // x.length ≤ 100000 }
def encP (x : Pt) : Array Value := #[.string (bs x.1)]

/-- The three cells of what goes over a text: the text, the byte, and nothing. -/
structure Trio (b : Nat) (c : UInt8) (s : ByteArray) (W : World) : Prop where
  h0 : Boxed W b 9 (.string s)
  h1 : Boxed W (b + 1) 9 (.string ⟨#[c]⟩)
  h2 : Boxed W (b + 1 + 1) 3 (.int .i64 0)
/-- They lie as they lay. -/
structure Kp3 (b : Nat) (W W' : World) : Prop where
  k0 : W'.heap[b]? = W.heap[b]?
  k1 : W'.heap[b + 1]? = W.heap[b + 1]?
  k2 : W'.heap[b + 1 + 1]? = W.heap[b + 1 + 1]?
theorem Trio.keep {b : Nat} {c : UInt8} {s : ByteArray} {W W' : World} (h : Trio b c s W) (k : Kp3 b W W') : Trio b c s W' := ⟨k.k0.trans h.h0, k.k1.trans h.h1, k.k2.trans h.h2⟩
theorem Trio.drewN {b : Nat} {c : UInt8} {s : ByteArray} {W : World} (h : Trio b c s W) (n : Nat) : Trio b c s (W.drewN n) := ⟨h.h0, h.h1, h.h2⟩
theorem Trio.set {b : Nat} {c : UInt8} {s : ByteArray} {W : World} (h : Trio b c s W) (t : ByteArray) : Trio b c t (W.setCell ⟨b, 0, none⟩ (.string t)) :=
  ⟨h.h0.set _, h.h1.other (by omega) _, h.h2.other (by omega) _⟩
def szAt (b : Nat) (W : World) : Nat := match W.cell? ⟨b, 0, none⟩ with | some (.string s) => s.size | _ => 0
theorem Trio.sz {b : Nat} {c : UInt8} {s : ByteArray} {W : World} (h : Trio b c s W) : szAt b W = s.size := by unfold szAt; rw [h.h0.cell]

set_option maxRecDepth 100000 in
set_option maxHeartbeats 2000000 in
theorem split_in (n : Nat) (hn : 1 ≤ n) (l b : Nat) (c : UInt8) (s0 : ByteArray) (hs0 : s0.size ≤ 100000) (J : List Pt → World → Prop)
    (hJ1 : ∀ pre A k, J pre A → J pre (A.drewN k)) (hJ2 : ∀ pre A v, J pre A → J pre (A.setCell ⟨b, 0, none⟩ v))
    (hY : ∀ pre x A, J pre A → pre.length < (splB c s0.data.toList).length → YieldAt Fence.wide (n - 1) Tryd.prog l (encP x) A fun e A' => e = .returned (.bool true) ∧ J (pre ++ [x]) A' ∧ Kp3 b A A')
    (W : World) (hT : Trio b c s0 W) (h0 : J [] W) :
    CallsIn Fence.wide n Tryd.prog 81 #[.func (.yield l) #[] #[], .pointer (some ⟨b + 1, 0, none⟩), .pointer (some ⟨b, 0, none⟩), .pointer (some ⟨b + 1 + 1, 0, none⟩)] W fun e A' => (∃ v, e = .returned v) ∧ ∃ xs : List Pt, xs.map Subtype.val = splB c s0.data.toList ∧ J xs A' := by
  have HY := hide hY
  have hc1 := hT.h1.cell
  clear hY
  refine callsIn_of_wp Tryd.func81 rfl trivial ?_ rfl
  simp only [Tryd.ntmps81, List.size_toArray, List.length_cons, List.length_nil, Nat.reduceAdd, Nat.reduceSub, Array.replicate_succ, Array.replicate_zero, List.push_toArray, List.append_toArray, List.nil_append, List.cons_append]
  gi_wp2
  gi_loopw [7, 8] (fun _ _ wr => ∃ (s : ByteArray) (pre : List Pt), s.size ≤ 100000 ∧ Trio b c s wr ∧ Hid (pre.map Subtype.val ++ splB c s.data.toList = splB c s0.data.toList) ∧ Hid (J pre wr))
    (fun _ _ wr => szAt b wr)
  case atStart => exact ⟨s0, [], hs0, hT, by simp [Hid], h0⟩
  case round =>
    clear hc1
    obtain ⟨s, pre, hs, hTr, hpre, hJs⟩ := hrel
    have c0 := hTr.h0.cell
    have c1 := hTr.h1.cell
    have c2 := hTr.h2.cell
    have f0 := hTr.h0.frozen
    have hsz := hTr.sz
    have HSZ := hide hsz
    clear hsz
    have hl := size_list s
    have HL := hide hl
    clear hl
    have hi := Tryd.strings_Index_one s c wr
    rw [indexByte_ix] at hi
    by_cases hm : atN c s.data.toList < s.data.toList.length
    · have hyes := splB_yes hm
      obtain ⟨o, ho⟩ : ∃ o, s.extract 0 (atN c s.data.toList) = o := ⟨_, rfl⟩
      have hol : o.data.toList = s.data.toList.take (atN c s.data.toList) := by rw [← ho, ext_take]
      obtain ⟨t, ht⟩ : ∃ t, s.extract (atN c s.data.toList + 1) s.size = t := ⟨_, rfl⟩
      have htl : t.data.toList = s.data.toList.drop (atN c s.data.toList + 1) := by rw [← ht, ext_drop]
      have hts : t.size = s.size - (atN c s.data.toList + 1) := by rw [← ht, ByteArray.size_extract]; omega
      rw [← hol, ← htl] at hyes
      rw [ixI, if_pos hm] at hi
      rw [HL.out] at hm
      have hos : o.size = atN c s.data.toList := by rw [← ho, ByteArray.size_extract]; omega
      generalize atN c s.data.toList = k at *
      have HP : Hid (pre.map Subtype.val ++ o.data.toList :: splB c t.data.toList = splB c s0.data.toList) := by have := hpre.out; rw [hyes] at this; exact this
      clear hpre hyes hol htl
      obtain ⟨x, hx⟩ : ∃ x : Pt, x.1 = o.data.toList := ⟨⟨o.data.toList, by rw [size_list]; omega⟩, rfl⟩
      have hlen : pre.length < (splB c s0.data.toList).length := by rw [← HP.out]; simp
      obtain ⟨fn, tmps, assign, body, hy, hR⟩ := HY.out pre x wr hJs.out hlen
      rw [encP, hx, show bs o.data.toList = o from (bs_of rfl).symm] at hy
      have hkz : (k : Int) ≤ 100000 := by omega
      have hk1 : (k : Int) + 1 ≤ s.size := by omega
      have HX := hide hx
      clear hlen hx
      gi_wp2
      refine ⟨trivial, ?_⟩
      refine (callsIn_wide.2 hi).mono ?_
      rintro e w1 ⟨rfl, rfl⟩
      gi_wp2
      refine hR.mono ?_
      rintro e W3 ⟨rfl, hJ3, hk3⟩
      have hT3 := hTr.keep hk3
      have d0 := hT3.h0.cell
      have d1 := hT3.h1.cell
      have d2 := hT3.h2.cell
      have g0 := hT3.h0.frozen
      gi_wp2
      refine ⟨⟨t, pre ++ [x], by omega, hT3.set t, ?_, hJ2 _ _ _ hJ3⟩, ?_⟩
      · unfold Hid
        rw [List.map_append, List.append_assoc]
        simp only [List.map_cons, List.map_nil, HX.out, List.singleton_append]
        exact HP.out
      · rw [(hT3.set t).sz, HSZ.out]; omega
    · have HL1 : Hid (pre.map Subtype.val ++ [s.data.toList] = splB c s0.data.toList) := by have := hpre.out; rw [splB_no hm] at this; exact this
      rw [ixI, if_neg hm] at hi
      obtain ⟨x, hx⟩ : ∃ x : Pt, x.1 = s.data.toList := ⟨⟨s.data.toList, by rw [size_list]; omega⟩, rfl⟩
      have hlen : pre.length < (splB c s0.data.toList).length := by rw [← HL1.out]; simp
      obtain ⟨fn, tmps, assign, body, hy, hR⟩ := HY.out pre x wr hJs.out hlen
      rw [encP, hx, show bs s.data.toList = s from (bs_of rfl).symm] at hy
      clear hlen hm hpre
      have HX := hide hx
      clear hx
      gi_wp2
      refine ⟨trivial, ?_⟩
      refine (callsIn_wide.2 hi).mono ?_
      rintro e w1 ⟨rfl, rfl⟩
      gi_wp2
      refine hR.mono ?_
      rintro e W3 ⟨rfl, hJ3, hk3⟩
      gi_wp2
      refine bodyPost_end (v := .tuple #[]) (results_none rfl _ _ _) rfl ?_
      exact ⟨⟨_, rfl⟩, pre ++ [x], by rw [List.map_append, ← HL1.out]; simp [HX.out], hJ3⟩

end Go.Proofs.YtojoidhjlbcijaaDoor
