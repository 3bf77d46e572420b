/- The walk of what makes a field of a line. The walk of what hands on the lines of a text. The walk of what tells where a head ends. The walk of what reads the lines of a head's fields. -/
import Derived.Test.YtmpijlaidnhpnaaGreatJHc
import Derived.Test.YtmpijlaidnhpnaaGreatJWl
import Derived.RangeFuncNested
import Derived.RangeFuncBound
import Derived.RangeFuncCalls
import Derived.RangeFuncLeaves
import Derived.Shelf.Abstract
import Derived.Shelf.RegionOpen
import Derived.OwnWalkIn
import Derived.TacticsInMore
import Derived.LoopNIn
import Derived.LoopIn
import Derived.RangeFuncBox
import Derived.Test.YtmpijlaidnhpnaaGreatJWo
namespace Go.Proofs.YtmpijlaidnhpnaaGreat.Hd
set_option linter.unusedVariables false
set_option linter.unusedSimpArgs false
set_option maxRecDepth 100000
open Go.RowKit

theorem right_one (f : Fd) : rightF [f] = mayF f := by simp [rightF]
theorem row_one {w : World} {B : Nat} {f : Fd} (h0 : w.cell? ⟨B, 0, none⟩ = some (.string f.1)) (h1 : w.cell? ⟨B, 1, none⟩ = some (.string f.2)) : Row w (.slice (some ⟨B, 0, none⟩) 1 1) [f] := by
  refine ⟨some ⟨B, 0, none⟩, 1, rfl, Nat.le_refl _, fun k hk => ⟨B, 0, rfl, block_lt_of_cell (a := ⟨B, 0, none⟩) h0, ?_, ?_⟩⟩
  · obtain rfl : k = 0 := by simp at hk; omega
    simpa using h0
  · obtain rfl : k = 0 := by simp at hk; omega
    simpa using h1

def okS (s : ByteArray) : Bool := hasB 58 s && mayF (befS 58 s, trimS (aftS 58 s))
theorem fd_eq (s : ByteArray) : (befS 58 s, trimS (aftS 58 s)) = fdL s.data.toList := by
  unfold fdL befS trimS
  rw [aftS_list]
theorem ok_eq (s : ByteArray) : okS s = okL s.data.toList := by
  unfold okS okL hasB
  rw [fd_eq]

theorem two_set {w : World} {R : Nat} {x y u v : Value} (h0 : w.cell? ⟨R, 0, none⟩ = some x) (h1 : w.cell? ⟨R, 1, none⟩ = some y) :
    ((w.setCell ⟨R, 0, none⟩ u).setCell ⟨R, 1, none⟩ v).cell? ⟨R, 0, none⟩ = some u ∧ ((w.setCell ⟨R, 0, none⟩ u).setCell ⟨R, 1, none⟩ v).cell? ⟨R, 1, none⟩ = some v := by
  refine ⟨?_, ?_⟩
  · rw [World.cell?_setCell_other _ _ _ _ (fun e => by cases e)]; exact World.cell?_setCell_same _ _ _ h0
  · exact World.cell?_setCell_same _ _ _ (by rw [World.cell?_setCell_other _ _ _ _ (fun e => by cases e)]; exact h1)
theorem keepK {B M : Nat} {W0 W w' : World} {x y : Value} (hM : B < M) (hMW : M < W0.heap.size) (hb : Below W.heap.size W w')
    (h : Below B W0 W ∧ W.cell? ⟨M, 0, none⟩ = some x ∧ W.cell? ⟨M, 1, none⟩ = some y) :
    Below B W0 w' ∧ w'.cell? ⟨M, 0, none⟩ = some x ∧ w'.cell? ⟨M, 1, none⟩ = some y := by
  obtain ⟨h1, h2, h3⟩ := h
  have hs := h1.size
  exact ⟨h1.trans (hb.mono (by omega)), ((stays hb).1 _ _ (by omega)).trans h2, ((stays hb).1 _ _ (by omega)).trans h3⟩
theorem keep3 {B M o : Nat} {W0 W : World} {x y u : Value} (hM : B < M)
    (h : Below B W0 W ∧ W.cell? ⟨M, 0, none⟩ = some x ∧ W.cell? ⟨M, 1, none⟩ = some y) :
    Below B W0 (W.setCell ⟨B, o, none⟩ u) ∧ (W.setCell ⟨B, o, none⟩ u).cell? ⟨M, 0, none⟩ = some x ∧ (W.setCell ⟨B, o, none⟩ u).cell? ⟨M, 1, none⟩ = some y := by
  obtain ⟨h1, h2, h3⟩ := h
  refine ⟨h1.setCell (Nat.le_refl _) _, ?_, ?_⟩
  · rw [World.cell?_setCell_other _ _ _ _ (fun e => by cases e; omega)]; exact h2
  · rw [World.cell?_setCell_other _ _ _ _ (fun e => by cases e; omega)]; exact h3

set_option maxRecDepth 100000 in
set_option maxHeartbeats 4000000 in
theorem fieldOf_any (s : ByteArray) (w : World) (hs : s.size ≤ 10000) :
    Calls Tryz.prog 105 #[.string s] w fun e w' => e = .returned (.tuple #[fv (fdL s.data.toList), .bool (okL s.data.toList)]) ∧ Below w.heap.size w w' := by
  have HE := hide (fd_eq s)
  have HO := hide (ok_eq s)
  have hbs := befS_size 58 s
  have has := aftS_size 58 s
  have hts : (trimS (aftS 58 s)).size ≤ 10000 := by
    rw [← size_list]; unfold trimS; simp only [List.toList_toArray]
    have := trimL_le (aftS 58 s).data.toList
    rw [size_list] at this; omega
  have HOK : Hid (okS s = (hasB 58 s && mayF (befS 58 s, trimS (aftS 58 s)))) := rfl
  have HT := hide (trim_any (aftS 58 s))
  rw [← HE.out, ← HO.out]
  clear HE HO
  unfold fv
  generalize okS s = ok at HOK
  generalize trimS (aftS 58 s) = v at hts HOK HT
  generalize hn : befS 58 s = nm at hbs HOK
  go_enter Tryz.func105, Tryz.ntmps105
  go_wp2_with fail
  refine (cut_any s 58 _ (by omega)).mono ?_
  rintro e w1 ⟨rfl, n1, rfl⟩
  rw [hn]
  go_wp2_with fail
  refine (HT.out _ (by omega)).mono ?_
  rintro e w2 ⟨rfl, hb2⟩
  have hbA : Below w.heap.size w w2 := (below_drewN (one_alloc w #[.string ⟨#[]⟩, .string ⟨#[]⟩] 68) n1).trans (hb2.mono (by simp))
  have hlt : w.heap.size < w2.heap.size := by have := hb2.size; simp at this; omega
  have hw : Below w.heap.size w (w2.alloc (.cells #[.string nm, .string v] 68)) := hbA.alloc (by omega) _
  have r0 : (w2.alloc (.cells #[.string nm, .string v] 68)).cell? ⟨w.heap.size, 0, none⟩ = some (.string ⟨#[]⟩) := by
    rw [(stays (one_alloc _ _ _)).1 _ _ hlt, (stays hb2).1 _ _ (by simp)]; show (w.alloc _).cell? _ = _; rw [World.cell?_alloc_new]; rfl
  have r1 : (w2.alloc (.cells #[.string nm, .string v] 68)).cell? ⟨w.heap.size, 1, none⟩ = some (.string ⟨#[]⟩) := by
    rw [(stays (one_alloc _ _ _)).1 _ _ hlt, (stays hb2).1 _ _ (by simp)]; show (w.alloc _).cell? _ = _; rw [World.cell?_alloc_new]; rfl
  have rf : ∀ o, (w2.alloc (.cells #[.string nm, .string v] 68)).frozen? ⟨w.heap.size, o, none⟩ = false := by
    intro o; rw [(stays (one_alloc _ _ _)).2 _ _ hlt, (stays hb2).2 _ _ (by simp)]; show (w.alloc _).frozen? _ = _; go_simp
  have m0 : (w2.alloc (.cells #[.string nm, .string v] 68)).cell? ⟨w2.heap.size, 0, none⟩ = some (.string nm) := by go_simp
  have m1 : (w2.alloc (.cells #[.string nm, .string v] 68)).cell? ⟨w2.heap.size, 1, none⟩ = some (.string v) := by go_simp
  have hsz : w2.heap.size + 1 = (w2.alloc (.cells #[.string nm, .string v] 68)).heap.size := by simp
  go_wp2_with fail
  generalize (w2.alloc (.cells #[.string nm, .string v] 68)) = w3 at hw r0 r1 rf m0 m1 hsz ⊢
  generalize w2.heap.size = M at hlt m0 m1 hsz ⊢
  have hM : M < w3.heap.size := by omega
  have hR : w.heap.size < w3.heap.size := by omega
  cases hh : hasB 58 s
  · rw [hh] at HOK
    go_region
    have z0 : ((w3.setCell ⟨w.heap.size, 0, none⟩ (.string nm)).setCell ⟨w.heap.size, 1, none⟩ (.string v)).drew.cell? ⟨w.heap.size, 0, none⟩ = some (.string nm) := (two_set r0 r1).1
    have z1 : ((w3.setCell ⟨w.heap.size, 0, none⟩ (.string nm)).setCell ⟨w.heap.size, 1, none⟩ (.string v)).drew.cell? ⟨w.heap.size, 1, none⟩ = some (.string v) := (two_set r0 r1).2
    have hBe : Below w.heap.size w ((w3.setCell ⟨w.heap.size, 0, none⟩ (.string nm)).setCell ⟨w.heap.size, 1, none⟩ (.string v)).drew := ((hw.setCell (Nat.le_refl _) _).setCell (Nat.le_refl _) _).drew
    generalize ((w3.setCell ⟨w.heap.size, 0, none⟩ (.string nm)).setCell ⟨w.heap.size, 1, none⟩ (.string v)).drew = w5 at z0 z1 hBe ⊢
    have hok : ok = false := HOK.out
    go_wp2_with fail
    refine bodyPost_ret (v := .tuple #[.agg #[.string nm, .string v], .bool ok]) (by simp [results, Tryz.results105, go_sem, z0, z1, hok]) rfl ⟨rfl, hBe⟩
  · rw [hh] at HOK
    have a0 : ((w3.alloc (.cells #[.string nm, .string v] 68)).drew).cell? ⟨M, 0, none⟩ = some (.string nm) := ((stays (one_alloc w3 #[.string nm, .string v] 68)).1 _ _ hM).trans m0
    have a1 : ((w3.alloc (.cells #[.string nm, .string v] 68)).drew).cell? ⟨M, 1, none⟩ = some (.string v) := ((stays (one_alloc w3 #[.string nm, .string v] 68)).1 _ _ hM).trans m1
    have hBa : Below w.heap.size w3 (w3.alloc (.cells #[.string nm, .string v] 68)).drew := ((Below.refl _ _).alloc (by omega) _).drew
    have hrow : Row ((w3.alloc (.cells #[.string nm, .string v] 68)).drew) (.slice (some ⟨w3.heap.size, 0, none⟩) 1 1) [(nm, v)] := row_one (show (w3.alloc _).cell? _ = _ by rw [World.cell?_alloc_new]; rfl) (show (w3.alloc _).cell? _ = _ by rw [World.cell?_alloc_new]; rfl)
    have e0 := ((stays (one_alloc w3 #[.string nm, .string v] 68)).1 w.heap.size 0 hR).trans r0
    have e1 := ((stays (one_alloc w3 #[.string nm, .string v] 68)).1 w.heap.size 1 hR).trans r1
    have ef := fun o => ((stays (one_alloc w3 #[.string nm, .string v] 68)).2 w.heap.size o hR).trans (rf o)
    have hsh : Sh [(nm, v)] := by
      intro f hf
      obtain rfl : f = (nm, v) := by simpa using hf
      exact ⟨by show nm.size ≤ 10000; omega, hts⟩
    have hRa : w.heap.size < (w3.alloc (.cells #[.string nm, .string v] 68)).drew.heap.size := by show _ < (w3.alloc _).heap.size; simp; omega
    have HRA := hide (right_any [(nm, v)] (.slice (some ⟨w3.heap.size, 0, none⟩) 1 1) ((w3.alloc (.cells #[.string nm, .string v] 68)).drew) hrow (by simp) hsh)
    rw [right_one] at HRA
    have hok : ok = mayF (nm, v) := by rw [HOK.out, Bool.true_and]
    rw [← hok] at HRA
    clear HOK hrow hok
    go_region_held3 (fun w' => Below w.heap.size w3 w' ∧ w'.cell? ⟨M, 0, none⟩ = some (.string nm) ∧ w'.cell? ⟨M, 1, none⟩ = some (.string v))
      (first | exact ⟨(Below.refl _ _).drew, m0, m1⟩ | assumption | exact ⟨hBa, a0, a1⟩ | exact keepK hlt hM (by assumption) (by assumption) | exact keep3 hlt (keep3 hlt (by assumption)))
      (first | (go_at_call 90; refine HRA.out.mono ?_; rintro e w4 ⟨rfl, hb4⟩; have z0 := ((stays hb4).1 _ _ hRa).trans e0; have z1 := ((stays hb4).1 _ _ hRa).trans e1; have zf := fun o => ((stays hb4).2 _ o hRa).trans (ef o)))
    rename_i hX
    have y := two_set (u := .string nm) (v := .string v) z0 z1
    go_wp2_with fail
    refine bodyPost_ret (v := .tuple #[.agg #[.string nm, .string v], .bool ok]) (by simp [results, Tryz.results105, go_sem, y.1, y.2]) rfl ⟨rfl, ?_⟩
    exact hw.trans hX.1

end Go.Proofs.YtmpijlaidnhpnaaGreat.Hd

namespace Go.Proofs.YtmpijlaidnhpnaaGreat.Hd
set_option linter.unusedVariables false
set_option linter.unusedSimpArgs false
set_option maxRecDepth 100000
open Go.RowKit Go.Shelf

attribute [local go_sem] Oper.semAt_some

/-- A line that is handed on, and behind how many bytes it ends. -/
abbrev Ln := { x : List UInt8 × Nat // x.1.length ≤ 10000 ∧ x.2 ≤ 10000 }
def encL (x : Ln) : Array Value := #[.string (bs x.1.1), .int .i64 (x.1.2 : Int)]

theorem grown_drewN (w : World) (n : Nat) : w.grownBy (w.drewN n) none := ⟨rfl, rfl, rfl, Nat.le_refl _, fun _ _ _ => rfl⟩

theorem ext_list (s : ByteArray) (k : Nat) : (s.extract k s.size).data.toList = s.data.toList.drop k := ext_drop s k

set_option maxRecDepth 100000 in
set_option maxHeartbeats 2000000 in
theorem lines1_in (n : Nat) (hn : 1 ≤ n) (l Bn : Nat) (s : ByteArray) (hs : s.size ≤ 10000) (J Jx : List Ln → World → Prop)
    (hY : ∀ pre x W, J pre W → pre.length < (lns 0 s.data.toList).length → YieldAt Fence.wide (n - 1) Tryz.prog l (encL x) W fun e W' =>
      (e = .returned (.bool true) ∧ J (pre ++ [x]) W' ∧ W'.heap[Bn]? = W.heap[Bn]?) ∨ (e = .returned (.bool false) ∧ Jx (pre ++ [x]) W'))
    (W : World) (hJ : AbidesFrom W.heap.size J) (hBn : W.heap[Bn]? = some (.cells #[.string s] 9 (0, 0))) (h0 : J [] W) :
    CallsIn Fence.wide n Tryz.prog 100 #[.func (.yield l) #[] #[], .pointer (some ⟨Bn, 0, none⟩)] W fun e W' => (∃ v, e = .returned v) ∧
      ((∃ ys, ys.map Subtype.val = lns 0 s.data.toList ∧ J ys W') ∨ (∃ pre, pre.map Subtype.val <+: lns 0 s.data.toList ∧ Jx pre W')) := by
  have HY := hide hY
  clear hY
  refine callsIn_of_wp Tryz.func100 rfl trivial ?_ rfl
  simp only [Tryz.ntmps100, List.size_toArray, List.length_cons, List.length_nil, Nat.reduceAdd, Nat.reduceSub, Array.replicate_succ, Array.replicate_zero, List.push_toArray, List.append_toArray, List.nil_append, List.cons_append]
  gi_wp2
  gi_loopw [3, 4, 5, 6] (fun p _ _ _ wr => ∃ (k : Nat) (pre : List Ln), p = .int .i64 k ∧ k ≤ s.size ∧ Hid (pre.map Subtype.val ++ lns k (s.data.toList.drop k) = lns 0 s.data.toList) ∧ wr.heap[Bn]? = some (.cells #[.string s] 9 (0, 0)) ∧ Hid (J pre wr))
    (fun p _ _ _ _ => s.size - (intOf p).toNat)
  case atStart => exact ⟨0, [], rfl, Nat.zero_le _, by simp [Hid], hBn, h0⟩
  case round =>
    obtain ⟨k, pre, rfl, hk, hpre, hb, hJs⟩ := hrel
    have hc : wr.cell? ⟨Bn, 0, none⟩ = some (.string s) := by rw [Lib.cell_of_heap hb]; rfl
    have hX := ext_list s k
    have hxs : (s.extract k s.size).size = s.size - k := by rw [ByteArray.size_extract]; omega
    obtain ⟨d, hd⟩ : ∃ d, s.extract k s.size = d := ⟨_, rfl⟩
    rw [hd] at hX hxs
    have hHd := hide hd
    have hdl : d.data.toList.length = s.size - k := by rw [size_list]; exact hxs
    by_cases hm : atN 10 d.data.toList < d.data.toList.length
    · have hH : hasB 10 d = true := by unfold hasB; simpa using hm
      obtain ⟨o, ho⟩ : ∃ o, befS 10 d = o := ⟨_, rfl⟩
      have hol : o.data.toList = d.data.toList.take (atN 10 d.data.toList) := by rw [← ho, befS_list, take_atN]
      have hos : o.size = atN 10 d.data.toList := by rw [← size_list, hol, List.length_take]; omega
      have hyes := lns_yes (a := k) hm
      rw [← hol, ← hos] at hyes
      rw [← hos, hdl] at hm
      have hbl := bareL_le o.data.toList
      rw [size_list] at hbl
      have HL : Hid (pre.map Subtype.val ++ (bareL o.data.toList, k + o.size + 1) :: lns (k + o.size + 1) (s.data.toList.drop (k + o.size + 1)) = lns 0 s.data.toList) := by
        have h := hpre.out
        rw [← hX, hyes, hX, List.drop_drop] at h
        exact h
      clear hpre hyes hX hol hos
      obtain ⟨x, hx⟩ : ∃ x : Ln, x.1 = (bareL o.data.toList, k + o.size + 1) := ⟨⟨(bareL o.data.toList, k + o.size + 1), by simp; omega⟩, rfl⟩
      have hlen : pre.length < (lns 0 s.data.toList).length := by rw [← HL.out]; simp
      have hJn : ∀ n', J pre (wr.drewN n') := fun n' => hJ _ _ _ _ hJs.out (grown_drewN wr n') (fun r e => by cases e)
      have hoz : (o.size : Int) ≤ 10000 := by omega
      have hkz : (k : Int) ≤ 10000 := by omega
      have HA := hide (trimSuffix_any o)
      gi_wp2
      refine ⟨trivial, ?_⟩
      refine (callsIn_wide.2 (cut_any d 10 wr (by omega))).mono ?_
      rintro e w1 ⟨rfl, n1, rfl⟩
      rw [ho, hH]
      obtain ⟨fn, tmps, assign, body, hy, hR⟩ := HY.out pre x (wr.drewN n1) (hJn n1) hlen
      rw [encL, hx] at hy
      simp only [show ((k + o.size + 1 : Nat) : Int) = (k : Int) + ((o.size : Int) + 1) by omega] at hy
      have hbn : (wr.drewN n1).heap[Bn]? = some (.cells #[.string s] 9 (0, 0)) := hb
      gi_wp2
      refine ⟨trivial, ?_⟩
      refine (callsIn_wide.2 (HA.out _ (by omega))).mono ?_
      rintro e w2 ⟨rfl, rfl⟩
      gi_wp2
      refine hR.mono ?_
      rintro e W3 (⟨rfl, hJ3, hk3⟩ | ⟨rfl, hJx3⟩)
      · have hb3 : W3.heap[Bn]? = some (.cells #[.string s] 9 (0, 0)) := hk3.trans hb
        gi_wp2
        refine ⟨⟨k + o.size + 1, pre ++ [x], by congr 1, by omega, ?_, hb3, hJ3⟩, by simp [intOf]; omega⟩
        unfold Hid
        rw [List.map_append, List.append_assoc]
        simp only [List.map_cons, List.map_nil, hx, List.singleton_append]
        exact HL.out
      · gi_wp2
        refine bodyPost_ret (results_none rfl _ _ _) rfl ?_
        exact ⟨⟨_, rfl⟩, .inr ⟨pre ++ [x], ⟨lns (k + o.size + 1) (s.data.toList.drop (k + o.size + 1)), by rw [List.map_append, List.append_assoc]; simp only [List.map_cons, List.map_nil, hx, List.singleton_append]; exact HL.out⟩, hJx3⟩⟩
    · have hH : hasB 10 d = false := by unfold hasB; simpa using hm
      have HL : Hid (pre.map Subtype.val = lns 0 s.data.toList) := by
        have h := hpre.out
        rw [← hX, lns_no hm, List.append_nil] at h
        exact h
      have hJn : ∀ n', J pre (wr.drewN n') := fun n' => hJ _ _ _ _ hJs.out (grown_drewN wr n') (fun r e => by cases e)
      gi_wp2
      refine ⟨trivial, ?_⟩
      refine (callsIn_wide.2 (cut_any d 10 wr (by omega))).mono ?_
      rintro e w1 ⟨rfl, n1, rfl⟩
      rw [hH]
      gi_wp2
      refine bodyPost_ret (results_none rfl _ _ _) rfl ?_
      exact ⟨⟨_, rfl⟩, .inl ⟨pre, HL.out, hJn n1⟩⟩

set_option maxHeartbeats 1000000 in
theorem lines_any (s : ByteArray) (w : World) :
    Calls Tryz.prog 79 #[.string s] w fun e w' => e = .returned (.func (.func 100) #[] #[.pointer (some ⟨w.heap.size, 0, none⟩)]) ∧ w' = w.alloc (.cells #[.string s] 9) := by
  go_enter Tryz.func79, Tryz.ntmps79
  go_wp2_with fail
  go_ret
  exact ⟨rfl, rfl⟩

/-- The text's block lies as it lay. -/
def KpB (Bn : Nat) (W W' : World) : Prop := W'.heap[Bn]? = W.heap[Bn]?
theorem lines_stops (n : Nat) (hn : 1 ≤ n) (Bn : Nat) (s : ByteArray) (hs : s.size ≤ 10000) (w : World) (hB : Bn < w.heap.size) (hc : w.heap[Bn]? = some (.cells #[.string s] 9 (0, 0))) :
    SeqStopsK Fence.wide n Tryz.prog 100 #[.pointer (some ⟨Bn, 0, none⟩)] encL (KpB Bn) (fun ys => ys.map Subtype.val = lns 0 s.data.toList) (fun pre => pre.map Subtype.val <+: lns 0 s.data.toList) (lns 0 s.data.toList).length w :=
  fun l J Jx W hW hJ _ hY h0 => lines1_in n hn l Bn s hs J Jx hY W hJ ((hW.block Bn hB).trans hc) h0
theorem kpB_t {Bn : Nat} : ∀ {A B C : World}, KpB Bn A B → KpB Bn B C → KpB Bn A C := fun h k => Eq.trans k h
theorem kpB_b {Bn : Nat} {w : World} (h : Bn < w.heap.size) : ∀ (W : World) (l : Nat) (o o' : Obj), w.heap.size ≤ l → W.heap[l]? = some o → o.isCells = false → o.isWalk = false → KpB Bn W (W.putObj l o') :=
  fun W l o o' hl _ _ _ => World.putObj_heap_other (by omega)

end Go.Proofs.YtmpijlaidnhpnaaGreat.Hd

namespace Go.Proofs.YtmpijlaidnhpnaaGreat.Hd
set_option linter.unusedVariables false
set_option linter.unusedSimpArgs false
set_option maxRecDepth 100000
open Go.RowKit Go.Shelf

attribute [local go_sem] Oper.semAt_some

theorem boxed_below {W W' : World} {B n₀ : Nat} {t : TypeId} {v : Value} (h : Boxed W B t v) (hb : Below W.heap.size W W') : Boxed W' B t v := (hb.block B h.lt).trans h
theorem keeps_below {W W' : World} (h : Below W.heap.size W W') : KeepsOthers W W' := ⟨h.size, fun k o hk _ => (h.block k (Array.getElem?_eq_some_iff.1 hk).1).trans hk⟩

theorem enA_none : ∀ {ls : List (List UInt8 × Nat)}, (∀ x ∈ ls, x.1.isEmpty = false) → enA ls = none
  | [], _ => rfl
  | x :: r, h => by rw [enA, if_neg (by rw [h x (by simp)]; decide)]; exact enA_none (fun y hy => h y (by simp [hy]))
theorem enA_some : ∀ {q r : List (List UInt8 × Nat)} {x : List UInt8 × Nat}, (∀ y ∈ q, y.1.isEmpty = false) → x.1.isEmpty = true → enA (q ++ x :: r) = some x.2
  | [], r, x, _, hx => by rw [List.nil_append, enA, if_pos hx]
  | y :: q, r, x, h, hx => by rw [List.cons_append, enA, if_neg (by rw [h y (by simp)]; decide)]; exact enA_some (fun z hz => h z (by simp [hz])) hx

theorem put_box {W : World} {B D : Nat} {t : TypeId} {v : Value} {o o' : Obj} (h : Boxed W B t v) (hK : W.heap[D]? = some o) (ho : o.isCells = false) : Boxed (W.putObj D o') B t v := by
  have hne : D ≠ B := fun e => by subst e; rw [show W.heap[D]? = _ from h] at hK; cases hK; cases ho
  exact (World.putObj_heap_other (fun e => hne e.symm)).trans h
theorem bs_toList (l : List UInt8) : (bs l).toList = l := by rw [ByteArray.toList_eq, bs_list]

/-- What End keeps between two lines, and what it leaves with. -/
def EnI (w : World) (pre : List Ln) (W : World) : Prop := ((∀ x ∈ pre, x.1.1.isEmpty = false) ∧ Boxed W w.heap.size 3 (.int .i64 0) ∧ Boxed W (w.heap.size + 1) 31 (.int .i64 0)) ∧ Below w.heap.size w W
def EnX (w : World) (c : Code) (pre : List Ln) (W : World) : Prop := (c = .ret ∧ ∃ (q : List Ln) (x : Ln), pre = q ++ [x] ∧ (∀ y ∈ q, y.1.1.isEmpty = false) ∧ x.1.1.isEmpty = true ∧ Boxed W w.heap.size 3 (.int .i64 (x.1.2 : Int)) ∧ Boxed W (w.heap.size + 1) 31 (.int .i64 0)) ∧ Below w.heap.size w W

theorem boxed_grown {W W' : World} {row : Option Nat} {B : Nat} {t : TypeId} {v : Value} (h : Boxed W B t v) (hg : W.grownBy W' row) (hr : ∀ r, row = some r → ∃ o : Obj, W.heap[r]? = some o ∧ o.isCells = false) : Boxed W' B t v :=
  h.kept hg (fun e => by obtain ⟨o, ho, hc⟩ := hr B e.symm; rw [show W.heap[B]? = _ from h] at ho; cases ho; cases hc)
theorem enI_own {w : World} {B : Nat} (hB : w.heap.size ≤ B) : OwnFrom B (EnI w) :=
  OwnFrom.and (Own.from (fun s A C row hs hg hr => ⟨hs.1, boxed_grown hs.2.1 hg hr, boxed_grown hs.2.2 hg hr⟩) _) (ownFrom_below (Nat.le_refl _) hB)
theorem enX_own {w : World} {B : Nat} (hB : w.heap.size ≤ B) : ∀ c, OwnFrom B (EnX w c) := fun c =>
  OwnFrom.and (Own.from (fun s A C row hs hg hr => by
    obtain ⟨h1, q, x, h2, h3, h4, h5, h6⟩ := hs
    exact ⟨h1, q, x, h2, h3, h4, boxed_grown h5 hg hr, boxed_grown h6 hg hr⟩) _) (ownFrom_below (Nat.le_refl _) hB)

set_option maxRecDepth 100000 in
set_option maxHeartbeats 4000000 in
theorem end_any (s : ByteArray) (w : World) (hs : s.size ≤ 1000000) :
    Calls Tryz.prog 62 #[.string s] w fun e w' => e = .returned (.tuple #[.int .i64 (enU s.data.toList).1, .int .i64 (enU s.data.toList).2]) ∧ Below w.heap.size w w' := by
  obtain ⟨m, hm⟩ : ∃ m : Nat, (m : Int) = min (s.size : Int) 4000 := ⟨min s.size 4000, by omega⟩
  have hm1 : (m : Int) ≤ s.size := by omega
  have hm2 : m ≤ 4000 := by omega
  obtain ⟨t, ht⟩ : ∃ t, s.extract 0 m = t := ⟨_, rfl⟩
  have htl : t.data.toList = s.data.toList.take 4000 := by
    rw [← ht, ext_take]
    by_cases h : s.size ≤ 4000
    · rw [List.take_of_length_le (by rw [size_list]; omega), List.take_of_length_le (by rw [size_list]; omega)]
    · rw [show m = 4000 by omega]
  have hts : t.size ≤ 10000 := by rw [← ht, ByteArray.size_extract]; omega
  have HE : Hid (enU s.data.toList = enV s.size (enA (lns 0 t.data.toList))) := by unfold Hid enU; rw [htl, size_list]
  clear htl
  have hmin : min (s.size : Int) 4000 = m := hm.symm
  clear hm
  refine (callsIn_wide (n := 3)).1 ?_
  refine callsIn_of_wp_marks Tryz.func62 rfl trivial ?_ rfl
  simp only [Tryz.ntmps62, List.size_toArray, List.length_cons, List.length_nil, Nat.reduceAdd, Nat.reduceSub, Array.replicate_succ, Array.replicate_zero, List.push_toArray, List.append_toArray, List.nil_append, List.cons_append]
  gi_wp2
  refine ⟨trivial, ?_⟩
  refine (callsIn_wide.2 (lines_any _ _)).mono ?_
  rintro e w1 ⟨rfl, rfl⟩
  gi_wp2
  have hB0 : Below w.heap.size w (((w.alloc (.cells #[.int .i64 0] 3)).alloc (.cells #[.int .i64 0] 31)).alloc (.cells #[.string t] 9)) := (((Below.refl _ w).alloc (Nat.le_refl _) _).alloc (by simp) _).alloc (by simp; omega) _
  have b0 : Boxed (((w.alloc (.cells #[.int .i64 0] 3)).alloc (.cells #[.int .i64 0] 31)).alloc (.cells #[.string t] 9)) w.heap.size 3 (.int .i64 0) := ((Boxed.new w 3 _).alloc _).alloc _
  have b1 : Boxed (((w.alloc (.cells #[.int .i64 0] 3)).alloc (.cells #[.int .i64 0] 31)).alloc (.cells #[.string t] 9)) (w.heap.size + 1) 31 (.int .i64 0) := by
    have := Boxed.new (w.alloc (.cells #[.int .i64 0] 3)) 31 (.int .i64 0)
    rw [World.size_alloc] at this
    exact this.alloc _
  have b2 : Boxed (((w.alloc (.cells #[.int .i64 0] 3)).alloc (.cells #[.int .i64 0] 31)).alloc (.cells #[.string t] 9)) (w.heap.size + 1 + 1) 9 (.string t) := by
    have := Boxed.new ((w.alloc (.cells #[.int .i64 0] 3)).alloc (.cells #[.int .i64 0] 31)) 9 (.string t)
    rw [World.size_alloc, World.size_alloc] at this
    exact this
  have hsz : (((w.alloc (.cells #[.int .i64 0] 3)).alloc (.cells #[.int .i64 0] 31)).alloc (.cells #[.string t] 9)).heap.size = w.heap.size + 3 := by simp
  generalize (((w.alloc (.cells #[.int .i64 0] 3)).alloc (.cells #[.int .i64 0] 31)).alloc (.cells #[.string t] 9)) = W0 at hB0 b0 b1 b2 hsz ⊢
  refine wpIn_rangeFunc_ownG rfl (by omega) (gf := 100) (lb := #[.pointer (some ⟨w.heap.size + 1 + 1, 0, none⟩)]) rfl trivial (enters_of Tryz.func100 (by kernel_rfl) rfl)
    (lines_stops _ (by omega) (w.heap.size + 1 + 1) t hts W0 (by omega) b2) kpB_t (kpB_b (by omega)) (Below.refl _ _) (fun _ => rfl)
    (EnI w) (EnX w) (enI_own (by omega)) (enX_own (by omega)) ⟨⟨by simp, b0, b1⟩, hB0⟩
    (fun x => { tmps := #[.string s, undef, .pointer (some ⟨w.heap.size, 0, none⟩), .pointer (some ⟨w.heap.size + 1, 0, none⟩), .string (bs x.1.1), .int .i64 (x.1.2 : Int), .string s, .string s, .int .i64 s.size, .int .i64 m, .string t, .func (.func 100) #[] #[.pointer (some ⟨w.heap.size + 1 + 1, 0, none⟩)], .string (bs x.1.1), .int .i64 (x.1.2 : Int), undef, undef, undef, undef, undef, undef], defers := [] }) ?assign ?body ?done ?stop
  case assign =>
    intro l x W K hK
    simp only [encL]
    gi_wp2
    exact hK
  case body =>
    rintro l pre x W ⟨⟨hp, k0, k1⟩, hB⟩ hlt
    have c0 := k0.cell
    have f0 := k0.frozen
    have c1 := k1.cell
    have f1 := k1.frozen
    gi_wp2
    · rename_i hx
      rw [bs_toList] at hx
      have e0 := k0.set (.int .i64 (x.1.2 : Int))
      have e1 := (k1.other (B' := w.heap.size) (by omega) (.int .i64 (x.1.2 : Int))).set (.int .i64 0)
      exact ⟨((KeepsOthers.setCell _ _ _).trans (KeepsOthers.setCell _ _ _)).from _, ⟨rfl, pre, x, rfl, hp, hx, e0.other (by omega) _, e1⟩, (hB.setCell (p := ⟨w.heap.size, 0, none⟩) (Nat.le_refl _) _).setCell (p := ⟨w.heap.size + 1, 0, none⟩) (by simp) _⟩
    · rename_i hx
      rw [bs_toList] at hx
      refine ⟨KeepsFrom.refl _ _, rfl, ⟨?_, k0, k1⟩, hB⟩
      intro y hy
      rcases List.mem_append.1 hy with hy | hy
      · exact hp y hy
      · obtain rfl : y = x := by simpa using hy
        simpa using hx
  case done =>
    rintro D ys W hD hys ⟨⟨hp, k0, k1⟩, hB⟩ hK
    have hN : enA (lns 0 t.data.toList) = none := by
      rw [← hys]
      refine enA_none ?_
      intro z hz
      obtain ⟨y, hy, rfl⟩ := List.mem_map.1 hz
      exact hp y hy
    rw [hN] at HE
    have c0 := k0.cell
    have f0 := k0.frozen
    have c1 := k1.cell
    have f1 := k1.frozen
    by_cases h4 : 4000 < s.size
    · have h4z : (4000 : Int) < (s.size : Int) := by omega
      have HV : Hid (enU s.data.toList = (0, 2)) := by unfold Hid; rw [HE.out, enV, if_pos h4]
      gi_wp2
      have e0 := (k0.set (.int .i64 0)).other (B' := w.heap.size + 1) (by omega) (.int .i64 2)
      have e1 := (k1.other (B' := w.heap.size) (by omega) (.int .i64 0)).set (.int .i64 2)
      have hB' := (hB.setCell (p := ⟨w.heap.size, 0, none⟩) (Nat.le_refl _) (.int .i64 0)).setCell (p := ⟨w.heap.size + 1, 0, none⟩) (by simp) (.int .i64 2)
      have hK' := ((KeepsOthers.setCell W ⟨w.heap.size, 0, none⟩ (.int .i64 0)).trans (KeepsOthers.setCell _ ⟨w.heap.size + 1, 0, none⟩ (.int .i64 2))).same D _ hK rfl
      refine ⟨by simp, .inl ⟨_, _, rfl, run_takeDeferred hK', ?_⟩⟩
      have g0 := (put_box (o' := .deferred none) e0 hK' rfl).cell
      have g1 := (put_box (o' := .deferred none) e1 hK' rfl).cell
      refine ⟨.tuple #[.int .i64 0, .int .i64 2], ?_, ?_, ?_⟩
      · simp [results, Tryz.results62, go_sem, g0, g1]
      · rw [HV.out]
      · exact hB'.trans (belowK_b (w := w) (Nat.le_refl _) _ D _ _ (by omega) hK' rfl rfl)
    · have h4d : decide ((4000 : Int) < (s.size : Int)) = false := decide_eq_false (by omega)
      have HV : Hid (enU s.data.toList = (0, 3)) := by unfold Hid; rw [HE.out, enV, if_neg h4]
      gi_wp2
      have e0 := (k0.set (.int .i64 0)).other (B' := w.heap.size + 1) (by omega) (.int .i64 3)
      have e1 := (k1.other (B' := w.heap.size) (by omega) (.int .i64 0)).set (.int .i64 3)
      have hB' := (hB.setCell (p := ⟨w.heap.size, 0, none⟩) (Nat.le_refl _) (.int .i64 0)).setCell (p := ⟨w.heap.size + 1, 0, none⟩) (by simp) (.int .i64 3)
      have hK' := ((KeepsOthers.setCell W ⟨w.heap.size, 0, none⟩ (.int .i64 0)).trans (KeepsOthers.setCell _ ⟨w.heap.size + 1, 0, none⟩ (.int .i64 3))).same D _ hK rfl
      refine ⟨by simp, .inl ⟨_, _, rfl, run_takeDeferred hK', ?_⟩⟩
      have g0 := (put_box (o' := .deferred none) e0 hK' rfl).cell
      have g1 := (put_box (o' := .deferred none) e1 hK' rfl).cell
      refine ⟨.tuple #[.int .i64 0, .int .i64 3], ?_, ?_, ?_⟩
      · simp [results, Tryz.results62, go_sem, g0, g1]
      · rw [HV.out]
      · exact hB'.trans (belowK_b (w := w) (Nat.le_refl _) _ D _ _ (by omega) hK' rfl rfl)
  case stop =>
    rintro D c pre W hD hpre ⟨⟨rfl, q, x, rfl, hq, hx, k0, k1⟩, hB⟩ hK
    have HV : Hid (enU s.data.toList = ((x.1.2 : Int), 0)) := by
      obtain ⟨r, hr⟩ := hpre
      unfold Hid
      rw [HE.out, ← hr, List.map_append, List.append_assoc, List.map_cons, List.map_nil, List.singleton_append, enA_some ?_ hx]
      · rfl
      · intro z hz
        obtain ⟨y, hy, rfl⟩ := List.mem_map.1 hz
        exact hq y hy
    gi_wp2
    refine ⟨by simp, .inl ⟨_, _, rfl, run_takeDeferred hK, ?_⟩⟩
    have g0 := (put_box (o' := .deferred none) k0 hK rfl).cell
    have g1 := (put_box (o' := .deferred none) k1 hK rfl).cell
    refine ⟨.tuple #[.int .i64 (x.1.2 : Int), .int .i64 0], ?_, ?_, ?_⟩
    · simp [results, Tryz.results62, go_sem, g0, g1]
    · rw [HV.out]
    · exact hB.trans (belowK_b (w := w) (Nat.le_refl _) _ D _ _ (by omega) hK rfl rfl)

end Go.Proofs.YtmpijlaidnhpnaaGreat.Hd

namespace Go.Proofs.YtmpijlaidnhpnaaGreat.Hd
set_option linter.unusedVariables false
set_option linter.unusedSimpArgs false
set_option maxRecDepth 100000
open Go.RowKit Go.Shelf

attribute [local go_sem] Oper.semAt_some

def fdX (x : Ln) : Fd := fdL x.1.1
theorem psA_done : ∀ (ls : List Ln) (acc : List Fd), (∀ x ∈ ls, okL x.1.1 = true) → acc.length + ls.length ≤ 40 → psA acc ((ls.map Subtype.val).map Prod.fst) = (acc ++ ls.map fdX, 0)
  | [], acc, _, _ => by simp [psA]
  | x :: r, acc, h, hl => by
    rw [List.map_cons, List.map_cons, psA, if_pos (h x (by simp)), if_neg (by simp at hl; omega), psA_done r _ (fun y hy => h y (by simp [hy])) (by simp at hl ⊢; omega)]
    simp [fdX]
/-- How a line stops all. -/
def Stops (q : List Ln) (x : Ln) (code : Int) : Prop := (okL x.1.1 = false ∧ code = 31) ∨ (okL x.1.1 = true ∧ q.length = 40 ∧ code = 4)
theorem psA_stop {code : Int} : ∀ (q : List Ln) (acc : List Fd) (x : Ln) (r : List (List UInt8)), (∀ y ∈ q, okL y.1.1 = true) → acc.length + q.length ≤ 40 → ((okL x.1.1 = false ∧ code = 31) ∨ (okL x.1.1 = true ∧ acc.length + q.length = 40 ∧ code = 4)) →
    psA acc ((q.map Subtype.val).map Prod.fst ++ x.1.1 :: r) = ([], code)
  | [], acc, x, r, _, hl, hx => by
    rw [List.map_nil, List.map_nil, List.nil_append, psA]
    rcases hx with ⟨h1, rfl⟩ | ⟨h1, h2, rfl⟩
    · rw [if_neg (by rw [h1]; decide)]
    · rw [if_pos h1, if_pos (by simpa using h2)]
  | y :: q, acc, x, r, h, hl, hx => by
    rw [List.map_cons, List.map_cons, List.cons_append, psA, if_pos (h y (by simp)), if_neg (by simp at hl; omega)]
    refine psA_stop q _ x r (fun z hz => h z (by simp [hz])) (by simp at hl ⊢; omega) ?_
    rcases hx with hx | ⟨h1, h2, h3⟩
    · exact Or.inl hx
    · exact Or.inr ⟨h1, by simp at h2 ⊢; omega, h3⟩

/-- What Parse keeps between two lines, and what it leaves with. -/
def PsI (s : ByteArray) (w : World) (pre : List Ln) (W : World) : Prop := (((∀ x ∈ pre, okL x.1.1 = true) ∧ pre.length ≤ 40 ∧ Boxed W w.heap.size 24 (.slice none 0 0) ∧ Boxed W (w.heap.size + 1) 31 (.int .i64 0) ∧ Boxed W (w.heap.size + 1 + 1 + 1) 9 (.string s)) ∧
  ∃ v, Boxed W (w.heap.size + 1 + 1) 24 v ∧ W.ownsRow w.heap.size 68 2 v (pre.map fdX).length (fcells (pre.map fdX)) ∧ True) ∧ Below w.heap.size w W
def PsX (w : World) (c : Code) (pre : List Ln) (W : World) : Prop := (c = .ret ∧ ∃ (q : List Ln) (x : Ln) (code : Int), pre = q ++ [x] ∧ (∀ y ∈ q, okL y.1.1 = true) ∧ q.length ≤ 40 ∧ Stops q x code ∧ Boxed W w.heap.size 24 (.slice none 0 0) ∧ Boxed W (w.heap.size + 1) 31 (.int .i64 code)) ∧ Below w.heap.size w W
theorem psI_own {s : ByteArray} {w : World} {B : Nat} (hB : w.heap.size ≤ B) : OwnFrom B (PsI s w) :=
  OwnFrom.and (Own.from (fun s A C row hs hg hr => ⟨⟨hs.1.1, hs.1.2.1, boxed_grown hs.1.2.2.1 hg hr, boxed_grown hs.1.2.2.2.1 hg hr, boxed_grown hs.1.2.2.2.2 hg hr⟩,
    holdsRow_own w.heap.size (w.heap.size + 1 + 1) 24 68 2 (fun pre : List Ln => (pre.map fdX).length) (fun pre => fcells (pre.map fdX)) (fun _ _ => True) s A C row hs.2 hg hr⟩) _) (ownFrom_below (Nat.le_refl _) hB)
theorem psX_own {w : World} {B : Nat} (hB : w.heap.size ≤ B) : ∀ c, OwnFrom B (PsX w c) := fun c =>
  OwnFrom.and (Own.from (fun s A C row hs hg hr => by
    obtain ⟨h1, q, x, code, h2, h3, h4, h5, h6, h7⟩ := hs
    exact ⟨h1, q, x, code, h2, h3, h4, h5, boxed_grown h6 hg hr, boxed_grown h7 hg hr⟩) _) (ownFrom_below (Nat.le_refl _) hB)

theorem own_set {W : World} {base B : Nat} {t e : TypeId} {size k : Nat} {u v z : Value} {xs : List Value} (h : Boxed W B t u) (hte : t ≠ e) (hr : W.ownsRow base e size v k xs) : (W.setCell ⟨B, 0, none⟩ z).ownsRow base e size v k xs :=
  hr.kept (grownBy_setCell' W B z) (Or.inr (fun e' => Boxed.not_row h hte hr e'.symm))

set_option maxRecDepth 100000 in
set_option maxHeartbeats 4000000 in
theorem parse_any (s : ByteArray) (w : World) (hs : s.size ≤ 10000) :
    Calls Tryz.prog 82 #[.string s] w fun e w' => ∃ v, e = .returned (.tuple #[v, .int .i64 (psU s.data.toList).2]) ∧ Own w' w.heap.size v (psU s.data.toList).1 ∧ Below w.heap.size w w' := by
  have HZ := hide (size_list s)
  by_cases h4 : 4000 < s.size
  · have h4z : (4000 : Int) < (s.size : Int) := by omega
    have HV : Hid (psU s.data.toList = ([], 2)) := ps_long (by rw [HZ.out]; exact h4)
    go_enter Tryz.func82, Tryz.ntmps82
    go_wp2_with fail
    refine bodyPost_ret (v := .tuple #[.slice none 0 0, .int .i64 2]) (by simp [results, Tryz.results82, go_sem]) rfl ⟨.slice none 0 0, by rw [HV.out], by rw [HV.out]; exact Own.nil _ _, ?_⟩
    exact ((Below.refl _ w).alloc (Nat.le_refl _) _).alloc (by simp) _
  · have h4d : decide ((4000 : Int) < (s.size : Int)) = false := decide_eq_false (by omega)
    cases he : endsB s.data.toList
    · have HV : Hid (psU s.data.toList = ([], 31)) := by unfold Hid psU; rw [if_neg (by rw [HZ.out]; exact h4), if_neg (by rw [he]; decide)]
      have hne : s.toList.isEmpty = false := by rw [ByteArray.toList_eq]; unfold endsB at he; simp only [Bool.or_eq_false_iff] at he; exact he.1
      have hla : decide (s.data.toList.getLast? = some 10) = false := by unfold endsB at he; simp only [Bool.or_eq_false_iff] at he; exact he.2
      have HS := hide (hasSuffix_ten s)
      rw [hla] at HS
      clear he hla
      go_enter Tryz.func82, Tryz.ntmps82
      go_wp2_with fail
      refine (HS.out _ (by omega)).mono ?_
      rintro e w1 ⟨rfl, rfl⟩
      go_wp2_with fail
      refine bodyPost_ret (v := .tuple #[.slice none 0 0, .int .i64 31]) (by simp [results, Tryz.results82, go_sem]) rfl ⟨.slice none 0 0, by rw [HV.out], by rw [HV.out]; exact Own.nil _ _, ?_⟩
      exact ((Below.refl _ w).alloc (Nat.le_refl _) _).alloc (by simp) _
    · have HP : Hid (psU s.data.toList = psA [] ((lns 0 s.data.toList).map Prod.fst)) := ps_of (by rw [HZ.out]; omega) he
      cases hne : s.toList.isEmpty
      · have hla : decide (s.data.toList.getLast? = some 10) = true := by
          rw [ByteArray.toList_eq] at hne
          unfold endsB at he
          rw [hne, Bool.false_or] at he
          exact he
        have HS := hide (hasSuffix_ten s)
        rw [hla] at HS
        clear he hla
        refine (callsIn_wide (n := 3)).1 ?_
        refine callsIn_of_wp_marks Tryz.func82 rfl trivial ?_ rfl
        simp only [Tryz.ntmps82, List.size_toArray, List.length_cons, List.length_nil, Nat.reduceAdd, Nat.reduceSub, Array.replicate_succ, Array.replicate_zero, List.push_toArray, List.append_toArray, List.nil_append, List.cons_append]
        gi_wp2
        refine ⟨trivial, ?_⟩
        refine (callsIn_wide.2 (HS.out _ (by omega))).mono ?_
        rintro e w1 ⟨rfl, rfl⟩
        gi_wp2
        refine ⟨trivial, ?_⟩
        refine (callsIn_wide.2 (lines_any _ _)).mono ?_
        rintro e w1 ⟨rfl, rfl⟩
        gi_wp2
        have hB0 : Below w.heap.size w ((((w.alloc (.cells #[.slice none 0 0] 24)).alloc (.cells #[.int .i64 0] 31)).alloc (.cells #[.slice none 0 0] 24)).alloc (.cells #[.string s] 9)) := ((((Below.refl _ w).alloc (Nat.le_refl _) _).alloc (by simp) _).alloc (by simp; omega) _).alloc (by simp; omega) _
        have b0 : Boxed ((((w.alloc (.cells #[.slice none 0 0] 24)).alloc (.cells #[.int .i64 0] 31)).alloc (.cells #[.slice none 0 0] 24)).alloc (.cells #[.string s] 9)) w.heap.size 24 (.slice none 0 0) := (((Boxed.new w 24 _).alloc _).alloc _).alloc _
        have b1 : Boxed ((((w.alloc (.cells #[.slice none 0 0] 24)).alloc (.cells #[.int .i64 0] 31)).alloc (.cells #[.slice none 0 0] 24)).alloc (.cells #[.string s] 9)) (w.heap.size + 1) 31 (.int .i64 0) := by
          have := Boxed.new (w.alloc (.cells #[.slice none 0 0] 24)) 31 (.int .i64 0)
          rw [World.size_alloc] at this
          exact (this.alloc _).alloc _
        have b2 : Boxed ((((w.alloc (.cells #[.slice none 0 0] 24)).alloc (.cells #[.int .i64 0] 31)).alloc (.cells #[.slice none 0 0] 24)).alloc (.cells #[.string s] 9)) (w.heap.size + 1 + 1) 24 (.slice none 0 0) := by
          have := Boxed.new ((w.alloc (.cells #[.slice none 0 0] 24)).alloc (.cells #[.int .i64 0] 31)) 24 (.slice none 0 0)
          rw [World.size_alloc, World.size_alloc] at this
          exact this.alloc _
        have b3 : Boxed ((((w.alloc (.cells #[.slice none 0 0] 24)).alloc (.cells #[.int .i64 0] 31)).alloc (.cells #[.slice none 0 0] 24)).alloc (.cells #[.string s] 9)) (w.heap.size + 1 + 1 + 1) 9 (.string s) := by
          have := Boxed.new (((w.alloc (.cells #[.slice none 0 0] 24)).alloc (.cells #[.int .i64 0] 31)).alloc (.cells #[.slice none 0 0] 24)) 9 (.string s)
          rw [World.size_alloc, World.size_alloc, World.size_alloc] at this
          exact this
        have hsz : ((((w.alloc (.cells #[.slice none 0 0] 24)).alloc (.cells #[.int .i64 0] 31)).alloc (.cells #[.slice none 0 0] 24)).alloc (.cells #[.string s] 9)).heap.size = w.heap.size + 4 := by simp
        generalize ((((w.alloc (.cells #[.slice none 0 0] 24)).alloc (.cells #[.int .i64 0] 31)).alloc (.cells #[.slice none 0 0] 24)).alloc (.cells #[.string s] 9)) = W0 at hB0 b0 b1 b2 b3 hsz ⊢
        refine wpIn_rangeFunc_ownG rfl (by omega) (gf := 100) (lb := #[.pointer (some ⟨w.heap.size + 1 + 1 + 1, 0, none⟩)]) rfl trivial (enters_of Tryz.func100 (by kernel_rfl) rfl)
          (lines_stops _ (by omega) (w.heap.size + 1 + 1 + 1) s hs W0 (by omega) b3) kpB_t (kpB_b (by omega)) (Below.refl _ _) (fun _ => rfl)
          (PsI s w) (PsX w) (psI_own (by omega)) (psX_own (by omega)) ⟨⟨⟨by simp, by simp, b0, b1, b3⟩, _, b2, World.ownsRow_nil _ _ _ _, trivial⟩, hB0⟩
          (fun x => { tmps := #[.string s, undef, .pointer (some ⟨w.heap.size, 0, none⟩), .pointer (some ⟨w.heap.size + 1, 0, none⟩), .pointer (some ⟨w.heap.size + 1 + 1, 0, none⟩), .string (bs x.1.1), undef, undef, .string s, .int .i64 s.size, .bool false, .string s, .bool true, .bool true, .string s, .bool true, .bool false, .bool false, .string s, .func (.func 100) #[] #[.pointer (some ⟨w.heap.size + 1 + 1 + 1, 0, none⟩)], .string (bs x.1.1), .int .i64 (x.1.2 : Int), undef, undef, undef, undef, undef, undef, undef, undef, undef, undef, undef, undef, undef, undef, undef], defers := [] }) ?assign ?body ?done ?stop
        case assign =>
          intro l x W K hK
          simp only [encL]
          gi_wp2
          exact hK
        case body =>
          rintro l pre x W ⟨⟨⟨hp, hpl, k0, k1, k3⟩, v, k2, hrow, -⟩, hB⟩ hlt
          have hfo := fieldOf_any (bs x.1.1)
          rw [bs_list, bs_size] at hfo
          have hxl := x.2.1
          have HPO := hide hp
          clear hp
          generalize hf : fdL x.1.1 = f at hfo
          generalize hok : okL x.1.1 = ok at hfo
          unfold fv at hfo
          have HFO := hide hfo
          have HF := hide hf
          have HOK := hide hok
          clear hfo hf hok
          gi_wp2
          refine ⟨trivial, ?_⟩
          refine (CallsIn.inRound l (callsIn_wide.2 (HFO.out W (by omega)))).mono ?_
          rintro e w1 ⟨rfl, hb1⟩
          have hB1 := hB.trans (hb1.mono hB.size)
          have j0 := (boxed_below (n₀ := 0) k0 hb1).alloc (.cells #[.string f.1, .string f.2] 68)
          have j1 := (boxed_below (n₀ := 0) k1 hb1).alloc (.cells #[.string f.1, .string f.2] 68)
          have j2 := (boxed_below (n₀ := 0) k2 hb1).alloc (.cells #[.string f.1, .string f.2] 68)
          have j3 := (boxed_below (n₀ := 0) k3 hb1).alloc (.cells #[.string f.1, .string f.2] 68)
          have hR : w.heap.size ≤ w1.heap.size := hB1.size
          have hrow2 := owns_below hrow (hb1.trans ((one_alloc w1 #[.string f.1, .string f.2] 68).mono hb1.size))
          have hB2 := hB1.alloc hR (.cells #[.string f.1, .string f.2] 68)
          have hKO := (keeps_below hb1).trans (KeepsOthers.alloc w1 (.cells #[.string f.1, .string f.2] 68))
          obtain ⟨a, cap, rfl⟩ : ∃ a cap, v = .slice a (pre.map fdX).length cap := Row.slice (Own.row hrow)
          have HL : Hid ((pre.map fdX).length = pre.length) := by unfold Hid; simp
          generalize hLL : pre.map fdX = L at hrow hrow2 k2 j2 HL
          have c0 := j0.cell
          have f0 := j0.frozen
          have c1 := j1.cell
          have f1 := j1.frozen
          have c2 := j2.cell
          have f2 := j2.frozen
          have m0 : (w1.alloc (.cells #[.string f.1, .string f.2] 68)).cell? ⟨w1.heap.size, 0, none⟩ = some (.string f.1) := by go_simp
          have m1 : (w1.alloc (.cells #[.string f.1, .string f.2] 68)).cell? ⟨w1.heap.size, 1, none⟩ = some (.string f.2) := by go_simp
          have hw2 : w1.heap.size + 1 = (w1.alloc (.cells #[.string f.1, .string f.2] 68)).heap.size := by simp
          have hok0 : ok = false ∨ ok = true := by cases ok <;> simp
          rcases hok0 with rfl | rfl
          · gi_wp2
            have e0 := (j0.set (.slice none 0 0)).other (B' := w.heap.size + 1) (by omega) (.int .i64 31)
            have e1 := (j1.other (B' := w.heap.size) (by omega) (.slice none 0 0)).set (.int .i64 31)
            exact ⟨(hKO.trans ((KeepsOthers.setCell _ _ _).trans (KeepsOthers.setCell _ _ _))).from _, ⟨rfl, pre, x, 31, rfl, HPO.out, hpl, Or.inl ⟨HOK.out, rfl⟩, e0, e1⟩, (hB2.setCell (p := ⟨w.heap.size, 0, none⟩) (Nat.le_refl _) _).setCell (p := ⟨w.heap.size + 1, 0, none⟩) (by simp) _⟩
          · by_cases h40 : L.length = 40
            · have h40z : ((L.length : Int) == 40) = true := by rw [h40]; rfl
              gi_wp2
              have e0 := (j0.set (.slice none 0 0)).other (B' := w.heap.size + 1) (by omega) (.int .i64 4)
              have e1 := (j1.other (B' := w.heap.size) (by omega) (.slice none 0 0)).set (.int .i64 4)
              exact ⟨(hKO.trans ((KeepsOthers.setCell _ _ _).trans (KeepsOthers.setCell _ _ _))).from _, ⟨rfl, pre, x, 4, rfl, HPO.out, hpl, Or.inr ⟨HOK.out, by rw [← HL.out]; exact h40, rfl⟩, e0, e1⟩, (hB2.setCell (p := ⟨w.heap.size, 0, none⟩) (Nat.le_refl _) _).setCell (p := ⟨w.heap.size + 1, 0, none⟩) (by simp) _⟩
            · have h40z : ((L.length : Int) == 40) = false := by rw [beq_eq_false_iff_ne]; omega
              have hLm : L.length ≤ 40 := by rw [HL.out]; exact hpl
              obtain ⟨i0, hi0, hz0, hz1, hz2⟩ := info_parts Tryz.info25
              generalize hG : (w1.alloc (.cells #[.string f.1, .string f.2] 68)) = w2 at *
              gi_wp2_with (gi_at_builtin; refine wpListIn_append_own _ rfl _ _ 24 rfl w.heap.size 68 i0 _ 2 32 Tryz.underlying24 hi0 hz0 hz1 hz2 rfl (by decide) _ _ _ rfl (hrow2.alloc (.cells #[.string f.1, .string f.2] 68)) ⟨w2.heap.size, 0, none⟩ 1 1 [.string f.1, .string f.2] rfl rfl (two_new w2 _ _ 68) (fst_one f) (maxLen_of (by omega)) (by omega) (by simp; omega) ?_; intro v' w4 hown' hgrow _; obtain ⟨g', cap', rfl⟩ := ownsRow_succ hown'; obtain ⟨hv1, hv2, hr2, hk2, hb2⟩ := j2.appended (by decide) hrow2 (by omega) (by omega) hown' hgrow; have hc1 := hv1.cell; have hf1 := hv1.frozen)
              have hgr : (w2.alloc (.cells #[.string f.1, .string f.2] 68)).grownBy w4 (Value.slice a L.length cap).ownBlock := hgrow
              have p0 := ((j0.alloc (.cells #[.string f.1, .string f.2] 68)).kept hgr (Boxed.not_row j0 (by decide) hrow2)).other (B' := w.heap.size + 1 + 1) (by omega) (.slice (some ⟨g', 0, none⟩) (L.length + 1) cap')
              have p1 := ((j1.alloc (.cells #[.string f.1, .string f.2] 68)).kept hgr (Boxed.not_row j1 (by decide) hrow2)).other (B' := w.heap.size + 1 + 1) (by omega) (.slice (some ⟨g', 0, none⟩) (L.length + 1) cap')
              have p3 := ((j3.alloc (.cells #[.string f.1, .string f.2] 68)).kept hgr (Boxed.not_row j3 (by decide) hrow2)).other (B' := w.heap.size + 1 + 1) (by omega) (.slice (some ⟨g', 0, none⟩) (L.length + 1) cap')
              have hLx : (pre ++ [x]).map fdX = L ++ [f] := by rw [List.map_append, hLL, ← HF.out]; rfl
              refine ⟨(hKO.trans hk2).from _, p3.trans (Eq.symm k3), ⟨⟨?_, by simp; have := HL.out; omega, p0, p1, p3⟩, _, hv2, ?_, trivial⟩, hB2.trans hb2⟩
              · intro y hy
                rcases List.mem_append.1 hy with hy | hy
                · exact HPO.out y hy
                · obtain rfl : y = x := by simpa using hy
                  exact HOK.out
              · rw [hLx, fcells_append, List.length_append]
                exact hr2
        case done =>
          rintro D ys W hD hys ⟨⟨⟨hp, hpl, k0, k1, k3⟩, v, k2, hrow, -⟩, hB⟩ hK
          have HV : Hid (psU s.data.toList = (ys.map fdX, 0)) := by
            unfold Hid
            rw [HP.out, ← hys, psA_done ys [] hp (by simpa using hpl)]; rfl
          obtain ⟨a, cap, rfl⟩ : ∃ a cap, v = .slice a (ys.map fdX).length cap := Row.slice (Own.row hrow)
          generalize ys.map fdX = L at hrow k2 HV
          have c0 := k0.cell
          have f0 := k0.frozen
          have c1 := k1.cell
          have f1 := k1.frozen
          have c2 := k2.cell
          gi_wp2
          have e0 := (k0.set (.slice a L.length cap)).other (B' := w.heap.size + 1) (by omega) (.int .i64 0)
          have e1 := (k1.other (B' := w.heap.size) (by omega) (.slice a L.length cap)).set (.int .i64 0)
          have hr1 := own_set (z := .slice a L.length cap) k0 (by decide) hrow
          have hr2 := own_set (z := .int .i64 0) (k1.other (B' := w.heap.size) (by omega) (.slice a L.length cap)) (by decide) hr1
          have hB' := (hB.setCell (p := ⟨w.heap.size, 0, none⟩) (Nat.le_refl _) (.slice a L.length cap)).setCell (p := ⟨w.heap.size + 1, 0, none⟩) (by simp) (.int .i64 0)
          have hK' := ((KeepsOthers.setCell W ⟨w.heap.size, 0, none⟩ (.slice a L.length cap)).trans (KeepsOthers.setCell _ ⟨w.heap.size + 1, 0, none⟩ (.int .i64 0))).same D _ hK rfl
          refine ⟨by simp, .inl ⟨_, _, rfl, run_takeDeferred hK', ?_⟩⟩
          have g0 := (put_box (o' := .deferred none) e0 hK' rfl).cell
          have g1 := (put_box (o' := .deferred none) e1 hK' rfl).cell
          refine ⟨.tuple #[.slice a L.length cap, .int .i64 0], ?_, .slice a L.length cap, ?_, ?_, ?_⟩
          · simp [results, Tryz.results82, go_sem, g0, g1]
          · rw [HV.out]
          · rw [HV.out]; exact ownsRow_putObj hr2 _ hK' rfl
          · exact hB'.trans (belowK_b (w := w) (Nat.le_refl _) _ D _ _ (by omega) hK' rfl rfl)
        case stop =>
          rintro D c pre W hD hpre ⟨⟨rfl, q, x, code, rfl, hq, hql, hst, k0, k1⟩, hB⟩ hK
          have HV : Hid (psU s.data.toList = ([], code)) := by
            obtain ⟨r, hr⟩ := hpre
            unfold Hid
            rw [HP.out, ← hr, List.map_append, List.map_append, List.map_append, List.append_assoc]
            refine psA_stop q [] x _ hq (by simpa using hql) ?_
            rcases hst with h | ⟨h1, h2, h3⟩
            · exact Or.inl h
            · exact Or.inr ⟨h1, by simpa using h2, h3⟩
          gi_wp2
          refine ⟨by simp, .inl ⟨_, _, rfl, run_takeDeferred hK, ?_⟩⟩
          have g0 := (put_box (o' := .deferred none) k0 hK rfl).cell
          have g1 := (put_box (o' := .deferred none) k1 hK rfl).cell
          refine ⟨.tuple #[.slice none 0 0, .int .i64 code], ?_, .slice none 0 0, ?_, ?_, ?_⟩
          · simp [results, Tryz.results82, go_sem, g0, g1]
          · rw [HV.out]
          · rw [HV.out]; exact Own.nil _ _
          · exact hB.trans (belowK_b (w := w) (Nat.le_refl _) _ D _ _ (by omega) hK rfl rfl)
      · clear he
        refine (callsIn_wide (n := 3)).1 ?_
        refine callsIn_of_wp_marks Tryz.func82 rfl trivial ?_ rfl
        simp only [Tryz.ntmps82, List.size_toArray, List.length_cons, List.length_nil, Nat.reduceAdd, Nat.reduceSub, Array.replicate_succ, Array.replicate_zero, List.push_toArray, List.append_toArray, List.nil_append, List.cons_append]
        gi_wp2
        refine ⟨trivial, ?_⟩
        gi_wp2
        refine ⟨trivial, ?_⟩
        refine (callsIn_wide.2 (lines_any _ _)).mono ?_
        rintro e w1 ⟨rfl, rfl⟩
        gi_wp2
        have hB0 : Below w.heap.size w ((((w.alloc (.cells #[.slice none 0 0] 24)).alloc (.cells #[.int .i64 0] 31)).alloc (.cells #[.slice none 0 0] 24)).alloc (.cells #[.string s] 9)) := ((((Below.refl _ w).alloc (Nat.le_refl _) _).alloc (by simp) _).alloc (by simp; omega) _).alloc (by simp; omega) _
        have b0 : Boxed ((((w.alloc (.cells #[.slice none 0 0] 24)).alloc (.cells #[.int .i64 0] 31)).alloc (.cells #[.slice none 0 0] 24)).alloc (.cells #[.string s] 9)) w.heap.size 24 (.slice none 0 0) := (((Boxed.new w 24 _).alloc _).alloc _).alloc _
        have b1 : Boxed ((((w.alloc (.cells #[.slice none 0 0] 24)).alloc (.cells #[.int .i64 0] 31)).alloc (.cells #[.slice none 0 0] 24)).alloc (.cells #[.string s] 9)) (w.heap.size + 1) 31 (.int .i64 0) := by
          have := Boxed.new (w.alloc (.cells #[.slice none 0 0] 24)) 31 (.int .i64 0)
          rw [World.size_alloc] at this
          exact (this.alloc _).alloc _
        have b2 : Boxed ((((w.alloc (.cells #[.slice none 0 0] 24)).alloc (.cells #[.int .i64 0] 31)).alloc (.cells #[.slice none 0 0] 24)).alloc (.cells #[.string s] 9)) (w.heap.size + 1 + 1) 24 (.slice none 0 0) := by
          have := Boxed.new ((w.alloc (.cells #[.slice none 0 0] 24)).alloc (.cells #[.int .i64 0] 31)) 24 (.slice none 0 0)
          rw [World.size_alloc, World.size_alloc] at this
          exact this.alloc _
        have b3 : Boxed ((((w.alloc (.cells #[.slice none 0 0] 24)).alloc (.cells #[.int .i64 0] 31)).alloc (.cells #[.slice none 0 0] 24)).alloc (.cells #[.string s] 9)) (w.heap.size + 1 + 1 + 1) 9 (.string s) := by
          have := Boxed.new (((w.alloc (.cells #[.slice none 0 0] 24)).alloc (.cells #[.int .i64 0] 31)).alloc (.cells #[.slice none 0 0] 24)) 9 (.string s)
          rw [World.size_alloc, World.size_alloc, World.size_alloc] at this
          exact this
        have hsz : ((((w.alloc (.cells #[.slice none 0 0] 24)).alloc (.cells #[.int .i64 0] 31)).alloc (.cells #[.slice none 0 0] 24)).alloc (.cells #[.string s] 9)).heap.size = w.heap.size + 4 := by simp
        generalize ((((w.alloc (.cells #[.slice none 0 0] 24)).alloc (.cells #[.int .i64 0] 31)).alloc (.cells #[.slice none 0 0] 24)).alloc (.cells #[.string s] 9)) = W0 at hB0 b0 b1 b2 b3 hsz ⊢
        refine wpIn_rangeFunc_ownG rfl (by omega) (gf := 100) (lb := #[.pointer (some ⟨w.heap.size + 1 + 1 + 1, 0, none⟩)]) rfl trivial (enters_of Tryz.func100 (by kernel_rfl) rfl)
          (lines_stops _ (by omega) (w.heap.size + 1 + 1 + 1) s hs W0 (by omega) b3) kpB_t (kpB_b (by omega)) (Below.refl _ _) (fun _ => rfl)
          (PsI s w) (PsX w) (psI_own (by omega)) (psX_own (by omega)) ⟨⟨⟨by simp, by simp, b0, b1, b3⟩, _, b2, World.ownsRow_nil _ _ _ _, trivial⟩, hB0⟩
          (fun x => { tmps := #[.string s, undef, .pointer (some ⟨w.heap.size, 0, none⟩), .pointer (some ⟨w.heap.size + 1, 0, none⟩), .pointer (some ⟨w.heap.size + 1 + 1, 0, none⟩), .string (bs x.1.1), undef, undef, .string s, .int .i64 s.size, .bool false, .string s, .bool false, .bool false, undef, undef, undef, .bool false, .string s, .func (.func 100) #[] #[.pointer (some ⟨w.heap.size + 1 + 1 + 1, 0, none⟩)], .string (bs x.1.1), .int .i64 (x.1.2 : Int), undef, undef, undef, undef, undef, undef, undef, undef, undef, undef, undef, undef, undef, undef, undef], defers := [] }) ?assign ?body ?done ?stop
        case assign =>
          intro l x W K hK
          simp only [encL]
          gi_wp2
          exact hK
        case body =>
          rintro l pre x W ⟨⟨⟨hp, hpl, k0, k1, k3⟩, v, k2, hrow, -⟩, hB⟩ hlt
          have hfo := fieldOf_any (bs x.1.1)
          rw [bs_list, bs_size] at hfo
          have hxl := x.2.1
          have HPO := hide hp
          clear hp
          generalize hf : fdL x.1.1 = f at hfo
          generalize hok : okL x.1.1 = ok at hfo
          unfold fv at hfo
          have HFO := hide hfo
          have HF := hide hf
          have HOK := hide hok
          clear hfo hf hok
          gi_wp2
          refine ⟨trivial, ?_⟩
          refine (CallsIn.inRound l (callsIn_wide.2 (HFO.out W (by omega)))).mono ?_
          rintro e w1 ⟨rfl, hb1⟩
          have hB1 := hB.trans (hb1.mono hB.size)
          have j0 := (boxed_below (n₀ := 0) k0 hb1).alloc (.cells #[.string f.1, .string f.2] 68)
          have j1 := (boxed_below (n₀ := 0) k1 hb1).alloc (.cells #[.string f.1, .string f.2] 68)
          have j2 := (boxed_below (n₀ := 0) k2 hb1).alloc (.cells #[.string f.1, .string f.2] 68)
          have j3 := (boxed_below (n₀ := 0) k3 hb1).alloc (.cells #[.string f.1, .string f.2] 68)
          have hR : w.heap.size ≤ w1.heap.size := hB1.size
          have hrow2 := owns_below hrow (hb1.trans ((one_alloc w1 #[.string f.1, .string f.2] 68).mono hb1.size))
          have hB2 := hB1.alloc hR (.cells #[.string f.1, .string f.2] 68)
          have hKO := (keeps_below hb1).trans (KeepsOthers.alloc w1 (.cells #[.string f.1, .string f.2] 68))
          obtain ⟨a, cap, rfl⟩ : ∃ a cap, v = .slice a (pre.map fdX).length cap := Row.slice (Own.row hrow)
          have HL : Hid ((pre.map fdX).length = pre.length) := by unfold Hid; simp
          generalize hLL : pre.map fdX = L at hrow hrow2 k2 j2 HL
          have c0 := j0.cell
          have f0 := j0.frozen
          have c1 := j1.cell
          have f1 := j1.frozen
          have c2 := j2.cell
          have f2 := j2.frozen
          have m0 : (w1.alloc (.cells #[.string f.1, .string f.2] 68)).cell? ⟨w1.heap.size, 0, none⟩ = some (.string f.1) := by go_simp
          have m1 : (w1.alloc (.cells #[.string f.1, .string f.2] 68)).cell? ⟨w1.heap.size, 1, none⟩ = some (.string f.2) := by go_simp
          have hw2 : w1.heap.size + 1 = (w1.alloc (.cells #[.string f.1, .string f.2] 68)).heap.size := by simp
          have hok0 : ok = false ∨ ok = true := by cases ok <;> simp
          rcases hok0 with rfl | rfl
          · gi_wp2
            have e0 := (j0.set (.slice none 0 0)).other (B' := w.heap.size + 1) (by omega) (.int .i64 31)
            have e1 := (j1.other (B' := w.heap.size) (by omega) (.slice none 0 0)).set (.int .i64 31)
            exact ⟨(hKO.trans ((KeepsOthers.setCell _ _ _).trans (KeepsOthers.setCell _ _ _))).from _, ⟨rfl, pre, x, 31, rfl, HPO.out, hpl, Or.inl ⟨HOK.out, rfl⟩, e0, e1⟩, (hB2.setCell (p := ⟨w.heap.size, 0, none⟩) (Nat.le_refl _) _).setCell (p := ⟨w.heap.size + 1, 0, none⟩) (by simp) _⟩
          · by_cases h40 : L.length = 40
            · have h40z : ((L.length : Int) == 40) = true := by rw [h40]; rfl
              gi_wp2
              have e0 := (j0.set (.slice none 0 0)).other (B' := w.heap.size + 1) (by omega) (.int .i64 4)
              have e1 := (j1.other (B' := w.heap.size) (by omega) (.slice none 0 0)).set (.int .i64 4)
              exact ⟨(hKO.trans ((KeepsOthers.setCell _ _ _).trans (KeepsOthers.setCell _ _ _))).from _, ⟨rfl, pre, x, 4, rfl, HPO.out, hpl, Or.inr ⟨HOK.out, by rw [← HL.out]; exact h40, rfl⟩, e0, e1⟩, (hB2.setCell (p := ⟨w.heap.size, 0, none⟩) (Nat.le_refl _) _).setCell (p := ⟨w.heap.size + 1, 0, none⟩) (by simp) _⟩
            · have h40z : ((L.length : Int) == 40) = false := by rw [beq_eq_false_iff_ne]; omega
              have hLm : L.length ≤ 40 := by rw [HL.out]; exact hpl
              obtain ⟨i0, hi0, hz0, hz1, hz2⟩ := info_parts Tryz.info25
              generalize hG : (w1.alloc (.cells #[.string f.1, .string f.2] 68)) = w2 at *
              gi_wp2_with (gi_at_builtin; refine wpListIn_append_own _ rfl _ _ 24 rfl w.heap.size 68 i0 _ 2 32 Tryz.underlying24 hi0 hz0 hz1 hz2 rfl (by decide) _ _ _ rfl (hrow2.alloc (.cells #[.string f.1, .string f.2] 68)) ⟨w2.heap.size, 0, none⟩ 1 1 [.string f.1, .string f.2] rfl rfl (two_new w2 _ _ 68) (fst_one f) (maxLen_of (by omega)) (by omega) (by simp; omega) ?_; intro v' w4 hown' hgrow _; obtain ⟨g', cap', rfl⟩ := ownsRow_succ hown'; obtain ⟨hv1, hv2, hr2, hk2, hb2⟩ := j2.appended (by decide) hrow2 (by omega) (by omega) hown' hgrow; have hc1 := hv1.cell; have hf1 := hv1.frozen)
              have hgr : (w2.alloc (.cells #[.string f.1, .string f.2] 68)).grownBy w4 (Value.slice a L.length cap).ownBlock := hgrow
              have p0 := ((j0.alloc (.cells #[.string f.1, .string f.2] 68)).kept hgr (Boxed.not_row j0 (by decide) hrow2)).other (B' := w.heap.size + 1 + 1) (by omega) (.slice (some ⟨g', 0, none⟩) (L.length + 1) cap')
              have p1 := ((j1.alloc (.cells #[.string f.1, .string f.2] 68)).kept hgr (Boxed.not_row j1 (by decide) hrow2)).other (B' := w.heap.size + 1 + 1) (by omega) (.slice (some ⟨g', 0, none⟩) (L.length + 1) cap')
              have p3 := ((j3.alloc (.cells #[.string f.1, .string f.2] 68)).kept hgr (Boxed.not_row j3 (by decide) hrow2)).other (B' := w.heap.size + 1 + 1) (by omega) (.slice (some ⟨g', 0, none⟩) (L.length + 1) cap')
              have hLx : (pre ++ [x]).map fdX = L ++ [f] := by rw [List.map_append, hLL, ← HF.out]; rfl
              refine ⟨(hKO.trans hk2).from _, p3.trans (Eq.symm k3), ⟨⟨?_, by simp; have := HL.out; omega, p0, p1, p3⟩, _, hv2, ?_, trivial⟩, hB2.trans hb2⟩
              · intro y hy
                rcases List.mem_append.1 hy with hy | hy
                · exact HPO.out y hy
                · obtain rfl : y = x := by simpa using hy
                  exact HOK.out
              · rw [hLx, fcells_append, List.length_append]
                exact hr2
        case done =>
          rintro D ys W hD hys ⟨⟨⟨hp, hpl, k0, k1, k3⟩, v, k2, hrow, -⟩, hB⟩ hK
          have HV : Hid (psU s.data.toList = (ys.map fdX, 0)) := by
            unfold Hid
            rw [HP.out, ← hys, psA_done ys [] hp (by simpa using hpl)]; rfl
          obtain ⟨a, cap, rfl⟩ : ∃ a cap, v = .slice a (ys.map fdX).length cap := Row.slice (Own.row hrow)
          generalize ys.map fdX = L at hrow k2 HV
          have c0 := k0.cell
          have f0 := k0.frozen
          have c1 := k1.cell
          have f1 := k1.frozen
          have c2 := k2.cell
          gi_wp2
          have e0 := (k0.set (.slice a L.length cap)).other (B' := w.heap.size + 1) (by omega) (.int .i64 0)
          have e1 := (k1.other (B' := w.heap.size) (by omega) (.slice a L.length cap)).set (.int .i64 0)
          have hr1 := own_set (z := .slice a L.length cap) k0 (by decide) hrow
          have hr2 := own_set (z := .int .i64 0) (k1.other (B' := w.heap.size) (by omega) (.slice a L.length cap)) (by decide) hr1
          have hB' := (hB.setCell (p := ⟨w.heap.size, 0, none⟩) (Nat.le_refl _) (.slice a L.length cap)).setCell (p := ⟨w.heap.size + 1, 0, none⟩) (by simp) (.int .i64 0)
          have hK' := ((KeepsOthers.setCell W ⟨w.heap.size, 0, none⟩ (.slice a L.length cap)).trans (KeepsOthers.setCell _ ⟨w.heap.size + 1, 0, none⟩ (.int .i64 0))).same D _ hK rfl
          refine ⟨by simp, .inl ⟨_, _, rfl, run_takeDeferred hK', ?_⟩⟩
          have g0 := (put_box (o' := .deferred none) e0 hK' rfl).cell
          have g1 := (put_box (o' := .deferred none) e1 hK' rfl).cell
          refine ⟨.tuple #[.slice a L.length cap, .int .i64 0], ?_, .slice a L.length cap, ?_, ?_, ?_⟩
          · simp [results, Tryz.results82, go_sem, g0, g1]
          · rw [HV.out]
          · rw [HV.out]; exact ownsRow_putObj hr2 _ hK' rfl
          · exact hB'.trans (belowK_b (w := w) (Nat.le_refl _) _ D _ _ (by omega) hK' rfl rfl)
        case stop =>
          rintro D c pre W hD hpre ⟨⟨rfl, q, x, code, rfl, hq, hql, hst, k0, k1⟩, hB⟩ hK
          have HV : Hid (psU s.data.toList = ([], code)) := by
            obtain ⟨r, hr⟩ := hpre
            unfold Hid
            rw [HP.out, ← hr, List.map_append, List.map_append, List.map_append, List.append_assoc]
            refine psA_stop q [] x _ hq (by simpa using hql) ?_
            rcases hst with h | ⟨h1, h2, h3⟩
            · exact Or.inl h
            · exact Or.inr ⟨h1, by simpa using h2, h3⟩
          gi_wp2
          refine ⟨by simp, .inl ⟨_, _, rfl, run_takeDeferred hK, ?_⟩⟩
          have g0 := (put_box (o' := .deferred none) k0 hK rfl).cell
          have g1 := (put_box (o' := .deferred none) k1 hK rfl).cell
          refine ⟨.tuple #[.slice none 0 0, .int .i64 code], ?_, .slice none 0 0, ?_, ?_, ?_⟩
          · simp [results, Tryz.results82, go_sem, g0, g1]
          · rw [HV.out]
          · rw [HV.out]; exact Own.nil _ _
          · exact hB.trans (belowK_b (w := w) (Nat.le_refl _) _ D _ _ (by omega) hK rfl rfl)

end Go.Proofs.YtmpijlaidnhpnaaGreat.Hd
