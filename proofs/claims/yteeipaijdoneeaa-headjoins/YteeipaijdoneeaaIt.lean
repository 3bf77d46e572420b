/- The walk of what hands on the lines of a text. -/
import Derived.Test.YteeipaijdoneeaaCa
import Derived.RangeFuncNested
import Derived.RangeFuncBound
import Derived.RangeFuncCalls
import Derived.RangeFuncLeaves
import Derived.Shelf.Abstract
import Derived.Shelf.RegionOpen
import Derived.OwnWalkIn
import Derived.TacticsInMore
import Derived.LoopNIn
import Derived.LoopIn
namespace Go.Proofs.Yteeipaijdoneeaa
set_option linter.unusedVariables false
set_option linter.unusedSimpArgs false
open Go.RowKit Go.Shelf

attribute [local go_sem] Oper.semAt_some

/-- A line that is handed on, and behind how many bytes it ends. -/
abbrev Ln := { x : List UInt8 × Nat // x.1.length ≤ 10000 ∧ x.2 ≤ 10000 }
def encL (x : Ln) : Array Value := #[.string (bs x.1.1), .int .i64 (x.1.2 : Int)]

theorem grown_drewN (w : World) (n : Nat) : w.grownBy (w.drewN n) none := ⟨rfl, rfl, rfl, Nat.le_refl _, fun _ _ _ => rfl⟩

theorem ext_list (s : ByteArray) (k : Nat) : (s.extract k s.size).data.toList = s.data.toList.drop k := ext_drop s k

set_option maxRecDepth 100000 in
set_option maxHeartbeats 2000000 in
theorem lines1_in (n : Nat) (hn : 1 ≤ n) (l Bn : Nat) (s : ByteArray) (hs : s.size ≤ 10000) (J Jx : List Ln → World → Prop)
    (hY : ∀ pre x W, J pre W → pre.length < (lns 0 s.data.toList).length → YieldAt Fence.wide (n - 1) Try.prog l (encL x) W fun e W' =>
      (e = .returned (.bool true) ∧ J (pre ++ [x]) W' ∧ W'.heap[Bn]? = W.heap[Bn]?) ∨ (e = .returned (.bool false) ∧ Jx (pre ++ [x]) W'))
    (W : World) (hJ : AbidesFrom W.heap.size J) (hBn : W.heap[Bn]? = some (.cells #[.string s] 9 (0, 0))) (h0 : J [] W) :
    CallsIn Fence.wide n Try.prog 30 #[.func (.yield l) #[] #[], .pointer (some ⟨Bn, 0, none⟩)] W fun e W' => (∃ v, e = .returned v) ∧
      ((∃ ys, ys.map Subtype.val = lns 0 s.data.toList ∧ J ys W') ∨ (∃ pre, pre.map Subtype.val <+: lns 0 s.data.toList ∧ Jx pre W')) := by
  have HY := hide hY
  clear hY
  refine callsIn_of_wp Try.func30 rfl trivial ?_ rfl
  simp only [Try.ntmps30, List.size_toArray, List.length_cons, List.length_nil, Nat.reduceAdd, Nat.reduceSub, Array.replicate_succ, Array.replicate_zero, List.push_toArray, List.append_toArray, List.nil_append, List.cons_append]
  gi_wp2
  gi_loopw [3, 4, 5, 6] (fun p _ _ _ wr => ∃ (k : Nat) (pre : List Ln), p = .int .i64 k ∧ k ≤ s.size ∧ Hid (pre.map Subtype.val ++ lns k (s.data.toList.drop k) = lns 0 s.data.toList) ∧ wr.heap[Bn]? = some (.cells #[.string s] 9 (0, 0)) ∧ Hid (J pre wr))
    (fun p _ _ _ _ => s.size - (intOf p).toNat)
  case atStart => exact ⟨0, [], rfl, Nat.zero_le _, by simp [Hid], hBn, h0⟩
  case round =>
    obtain ⟨k, pre, rfl, hk, hpre, hb, hJs⟩ := hrel
    have hc : wr.cell? ⟨Bn, 0, none⟩ = some (.string s) := by rw [Lib.cell_of_heap hb]; rfl
    have hX := ext_list s k
    have hxs : (s.extract k s.size).size = s.size - k := by rw [ByteArray.size_extract]; omega
    obtain ⟨d, hd⟩ : ∃ d, s.extract k s.size = d := ⟨_, rfl⟩
    rw [hd] at hX hxs
    have hHd := hide hd
    have hdl : d.data.toList.length = s.size - k := by rw [size_list]; exact hxs
    by_cases hm : atN 10 d.data.toList < d.data.toList.length
    · have hH : hasB 10 d = true := by unfold hasB; simpa using hm
      obtain ⟨o, ho⟩ : ∃ o, befS 10 d = o := ⟨_, rfl⟩
      have hol : o.data.toList = d.data.toList.take (atN 10 d.data.toList) := by rw [← ho, befS_list, take_atN]
      have hos : o.size = atN 10 d.data.toList := by rw [← size_list, hol, List.length_take]; omega
      have hyes := lns_yes (a := k) hm
      rw [← hol, ← hos] at hyes
      rw [← hos, hdl] at hm
      have hbl := bareL_le o.data.toList
      rw [size_list] at hbl
      have HL : Hid (pre.map Subtype.val ++ (bareL o.data.toList, k + o.size + 1) :: lns (k + o.size + 1) (s.data.toList.drop (k + o.size + 1)) = lns 0 s.data.toList) := by
        have h := hpre.out
        rw [← hX, hyes, hX, List.drop_drop] at h
        exact h
      clear hpre hyes hX hol hos
      obtain ⟨x, hx⟩ : ∃ x : Ln, x.1 = (bareL o.data.toList, k + o.size + 1) := ⟨⟨(bareL o.data.toList, k + o.size + 1), by simp; omega⟩, rfl⟩
      have hlen : pre.length < (lns 0 s.data.toList).length := by rw [← HL.out]; simp
      have hJn : ∀ n', J pre (wr.drewN n') := fun n' => hJ _ _ _ _ hJs.out (grown_drewN wr n') (fun r e => by cases e)
      have hoz : (o.size : Int) ≤ 10000 := by omega
      have hkz : (k : Int) ≤ 10000 := by omega
      have HA := hide (trimSuffix_any o)
      gi_wp2
      refine ⟨trivial, ?_⟩
      refine (callsIn_wide.2 (cut_any d 10 wr (by omega))).mono ?_
      rintro e w1 ⟨rfl, n1, rfl⟩
      rw [ho, hH]
      obtain ⟨fn, tmps, assign, body, hy, hR⟩ := HY.out pre x (wr.drewN n1) (hJn n1) hlen
      rw [encL, hx] at hy
      simp only [show ((k + o.size + 1 : Nat) : Int) = (k : Int) + ((o.size : Int) + 1) by omega] at hy
      have hbn : (wr.drewN n1).heap[Bn]? = some (.cells #[.string s] 9 (0, 0)) := hb
      gi_wp2
      refine ⟨trivial, ?_⟩
      refine (callsIn_wide.2 (HA.out _ (by omega))).mono ?_
      rintro e w2 ⟨rfl, rfl⟩
      gi_wp2
      refine hR.mono ?_
      rintro e W3 (⟨rfl, hJ3, hk3⟩ | ⟨rfl, hJx3⟩)
      · have hb3 : W3.heap[Bn]? = some (.cells #[.string s] 9 (0, 0)) := hk3.trans hb
        gi_wp2
        refine ⟨⟨k + o.size + 1, pre ++ [x], by congr 1, by omega, ?_, hb3, hJ3⟩, by simp [intOf]; omega⟩
        unfold Hid
        rw [List.map_append, List.append_assoc]
        simp only [List.map_cons, List.map_nil, hx, List.singleton_append]
        exact HL.out
      · gi_wp2
        refine bodyPost_ret (results_none rfl _ _ _) rfl ?_
        exact ⟨⟨_, rfl⟩, .inr ⟨pre ++ [x], ⟨lns (k + o.size + 1) (s.data.toList.drop (k + o.size + 1)), by rw [List.map_append, List.append_assoc]; simp only [List.map_cons, List.map_nil, hx, List.singleton_append]; exact HL.out⟩, hJx3⟩⟩
    · have hH : hasB 10 d = false := by unfold hasB; simpa using hm
      have HL : Hid (pre.map Subtype.val = lns 0 s.data.toList) := by
        have h := hpre.out
        rw [← hX, lns_no hm, List.append_nil] at h
        exact h
      have hJn : ∀ n', J pre (wr.drewN n') := fun n' => hJ _ _ _ _ hJs.out (grown_drewN wr n') (fun r e => by cases e)
      gi_wp2
      refine ⟨trivial, ?_⟩
      refine (callsIn_wide.2 (cut_any d 10 wr (by omega))).mono ?_
      rintro e w1 ⟨rfl, n1, rfl⟩
      rw [hH]
      gi_wp2
      refine bodyPost_ret (results_none rfl _ _ _) rfl ?_
      exact ⟨⟨_, rfl⟩, .inl ⟨pre, HL.out, hJn n1⟩⟩

set_option maxHeartbeats 1000000 in
theorem lines_any (s : ByteArray) (w : World) :
    Calls Try.prog 19 #[.string s] w fun e w' => e = .returned (.func (.func 30) #[] #[.pointer (some ⟨w.heap.size, 0, none⟩)]) ∧ w' = w.alloc (.cells #[.string s] 9) := by
  go_enter Try.func19, Try.ntmps19
  go_wp2_with fail
  go_ret
  exact ⟨rfl, rfl⟩

/-- The text's block lies as it lay. -/
def KpB (Bn : Nat) (W W' : World) : Prop := W'.heap[Bn]? = W.heap[Bn]?
theorem lines_stops (n : Nat) (hn : 1 ≤ n) (Bn : Nat) (s : ByteArray) (hs : s.size ≤ 10000) (w : World) (hB : Bn < w.heap.size) (hc : w.heap[Bn]? = some (.cells #[.string s] 9 (0, 0))) :
    SeqStopsK Fence.wide n Try.prog 30 #[.pointer (some ⟨Bn, 0, none⟩)] encL (KpB Bn) (fun ys => ys.map Subtype.val = lns 0 s.data.toList) (fun pre => pre.map Subtype.val <+: lns 0 s.data.toList) (lns 0 s.data.toList).length w :=
  fun l J Jx W hW hJ _ hY h0 => lines1_in n hn l Bn s hs J Jx hY W hJ ((hW.block Bn hB).trans hc) h0
theorem kpB_t {Bn : Nat} : ∀ {A B C : World}, KpB Bn A B → KpB Bn B C → KpB Bn A C := fun h k => Eq.trans k h
theorem kpB_b {Bn : Nat} {w : World} (h : Bn < w.heap.size) : ∀ (W : World) (l : Nat) (o o' : Obj), w.heap.size ≤ l → W.heap[l]? = some o → o.isCells = false → o.isWalk = false → KpB Bn W (W.putObj l o') :=
  fun W l o o' hl _ _ _ => World.putObj_heap_other (by omega)

end Go.Proofs.Yteeipaijdoneeaa
