/- The walk of what hands on a row's words from its end. -/
import Derived.Test.YtkakinakjnpbjaaDoorPe
import Derived.RangeFuncNested
import Derived.RangeFuncBound
import Derived.RangeFuncCalls
import Derived.RangeFuncLeaves
import Derived.RangeFuncWrites
import Derived.RangeFuncBox
import Derived.Shelf.Abstract
import Derived.Shelf.RegionOpen
import Derived.OwnWalkIn
import Derived.TacticsInMore
import Derived.LoopNIn
import Derived.LoopIn
namespace Go.Proofs.YtkakinakjnpbjaaDoor
set_option linter.unusedVariables false
set_option linter.unusedSimpArgs false
open Go.RowKit Go.Shelf

attribute [local go_sem] Oper.semAt_some

/-- A word that is handed on, with its place. -/
abbrev Pl := Nat × Fd
def encB (x : Pl) : Array Value := #[.int .i64 (x.1 : Int), fv x.2]

set_option maxRecDepth 100000 in
set_option maxHeartbeats 2000000 in
theorem back_in (n : Nat) (hn : 1 ≤ n) (l Bn : Nat) (L : List Fd) (v : Value) (W0 : World) (hl : L.length ≤ 10001) (hc : W0.cell? ⟨Bn, 0, none⟩ = some v) (hr : Row W0 v L) (J Jx : List Pl → World → Prop)
    (hY : ∀ pre x W, J pre W → pre.length < L.length → YieldAt Fence.wide (n - 1) Tryd.prog l (encB x) W fun e W' =>
      (e = .returned (.bool true) ∧ J (pre ++ [x]) W' ∧ Below W0.heap.size W W') ∨ (e = .returned (.bool false) ∧ Jx (pre ++ [x]) W'))
    (W : World) (hW : Below W0.heap.size W0 W) (h0 : J [] W) :
    CallsIn Fence.wide n Tryd.prog 51 #[.func (.yield l) #[] #[], .pointer (some ⟨Bn, 0, none⟩)] W fun e W' => (∃ v, e = .returned v) ∧
      ((∃ ys : List Pl, ys.map Prod.snd = L.reverse ∧ J ys W') ∨ (∃ pre : List Pl, pre.map Prod.snd <+: L.reverse ∧ Jx pre W')) := by
  have HY := hide hY
  clear hY
  have hB : Bn < W0.heap.size := block_lt_of_cell (a := ⟨Bn, 0, none⟩) hc
  obtain ⟨ad, cap, rfl, hcap, hR⟩ := hr
  have HR := hide hR
  have HC := hide hc
  have c0 := ((stays hW).1 _ _ hB).trans hc
  clear hR hc
  refine callsIn_of_wp Tryd.func51 rfl trivial ?_ rfl
  simp only [Tryd.ntmps51, List.size_toArray, List.length_cons, List.length_nil, Nat.reduceAdd, Nat.reduceSub, Array.replicate_succ, Array.replicate_zero, List.push_toArray, List.append_toArray, List.nil_append, List.cons_append]
  gi_wp2
  gi_loopw [3] (fun i wr => ∃ (k : Nat) (pre : List Pl), k ≤ L.length ∧ i = .int .i64 ((k : Int) - 1) ∧ Hid (pre.map Prod.snd ++ (L.take k).reverse = L.reverse) ∧ Below W0.heap.size W0 wr ∧ Hid (J pre wr))
    (fun i _ => (intOf i + 1).toNat)
  case atStart => exact ⟨L.length, [], Nat.le_refl _, rfl, by simp [Hid], hW, h0⟩
  case round =>
    clear c0
    obtain ⟨k, pre, hk, rfl, hpre, hb, hJs⟩ := hrel
    have c0 := ((stays hb).1 _ _ hB).trans HC.out
    cases k with
    | zero =>
      have HP : Hid (pre.map Prod.snd = L.reverse) := by have := hpre.out; rwa [List.take_zero, List.reverse_nil, List.append_nil] at this
      gi_wp2
      refine bodyPost_end (v := .tuple #[]) (results_none rfl _ _ _) rfl ?_
      exact ⟨⟨_, rfl⟩, .inl ⟨pre, HP.out, hJs.out⟩⟩
    | succ m =>
      have hlt : m < L.length := hk
      have hltz : (m : Int) < L.length := by omega
      have hmz : (m : Int) ≤ 10001 := by omega
      obtain ⟨g, off, rfl, hg, r0, r1, r2⟩ := HR.out m hlt
      rw [← (stays hb).1 _ _ hg] at r0 r1 r2
      have HP : Hid ((pre.map Prod.snd ++ [L[m]]) ++ (L.take m).reverse = L.reverse) := by
        have := hpre.out
        rw [List.take_succ_eq_append_getElem hlt, List.reverse_append, List.reverse_singleton, ← List.append_assoc] at this
        exact this
      have hlen : pre.length < L.length := by
        have := congrArg List.length HP.out
        simp at this; omega
      obtain ⟨x, hx⟩ : ∃ x, L[m]'hlt = x := ⟨_, rfl⟩
      rw [hx] at HP r0 r1 r2
      clear hx hpre
      obtain ⟨fn, tmps, assign, body, hy, hR⟩ := HY.out pre (m, x) wr hJs.out hlen
      rw [encB] at hy
      unfold fv at hy
      rw [show (((m + 1 : Nat) : Int) - 1) = (m : Int) by omega]
      gi_wp2
      refine hR.mono ?_
      rintro e W3 (⟨rfl, hJ3, hk3⟩ | ⟨rfl, hJx3⟩)
      · gi_wp2
        refine ⟨⟨m, pre ++ [(m, x)], by omega, rfl, ?_, hb.trans hk3, hJ3⟩, by simp [intOf]⟩
        unfold Hid
        rw [List.map_append]
        exact HP.out
      · gi_wp2
        refine bodyPost_ret (results_none rfl _ _ _) rfl ?_
        refine ⟨⟨_, rfl⟩, .inr ⟨pre ++ [(m, x)], ⟨(L.take m).reverse, ?_⟩, hJx3⟩⟩
        rw [List.map_append]
        exact HP.out

theorem backward_any (a : Option Addr) (n cap : Nat) (w : World) :
    Calls Tryd.prog 39 #[.slice a n cap] w fun e w' => e = .returned (.func (.func 51) #[] #[.pointer (some ⟨w.heap.size, 0, none⟩)]) ∧ w' = w.alloc (.cells #[.slice a n cap] 23) := by
  go_enter Tryd.func39, Tryd.ntmps39
  go_wp2_with fail
  go_ret
  exact ⟨rfl, rfl⟩

theorem back_stops (n : Nat) (hn : 1 ≤ n) (Bn : Nat) (L : List Fd) (v : Value) (W0 : World) (hl : L.length ≤ 10001) (hc : W0.cell? ⟨Bn, 0, none⟩ = some v) (hr : Row W0 v L) :
    SeqStopsK Fence.wide n Tryd.prog 51 #[.pointer (some ⟨Bn, 0, none⟩)] encB (Below W0.heap.size) (fun ys => ys.map Prod.snd = L.reverse) (fun pre => pre.map Prod.snd <+: L.reverse) L.length W0 :=
  fun l J Jx W hW _ _ hY h0 => back_in n hn l Bn L v W0 hl hc hr J Jx hY W hW h0

end Go.Proofs.YtkakinakjnpbjaaDoor
