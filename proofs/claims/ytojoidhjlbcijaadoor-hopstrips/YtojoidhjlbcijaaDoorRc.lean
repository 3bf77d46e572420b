/- The walk of what keeps the words that a row tells. -/
import Derived.Test.YtojoidhjlbcijaaDoorRb
import Derived.Test.YtojoidhjlbcijaaDoorSa
import Derived.Test.YtojoidhjlbcijaaDoorMw
import Derived.RangeFuncWrites
namespace Go.Proofs.YtojoidhjlbcijaaDoor
set_option linter.unusedVariables false
set_option linter.unusedSimpArgs false
open Go.RowKit Go.Shelf Go.Maps

attribute [local go_sem] Oper.semAt_some

theorem splitSeq_any (s t : ByteArray) (w : World) :
    Calls Tryd.prog 75 #[.string s, .string t, .int .i64 0] w fun e w' => e = .returned (.func (.func 81) #[] #[.pointer (some ⟨w.heap.size + 1, 0, none⟩), .pointer (some ⟨w.heap.size, 0, none⟩), .pointer (some ⟨w.heap.size + 1 + 1, 0, none⟩)]) ∧
      w' = ((w.alloc (.cells #[.string s] 9)).alloc (.cells #[.string t] 9)).alloc (.cells #[.int .i64 0] 3) := by
  go_enter Tryd.func75, Tryd.ntmps75
  go_wp2_with fail
  go_ret
  exact ⟨rfl, rfl⟩
theorem SplitSeq_any (s t : ByteArray) (w : World) :
    Calls Tryd.prog 53 #[.string s, .string t] w fun e w' => e = .returned (.func (.func 81) #[] #[.pointer (some ⟨w.heap.size + 1, 0, none⟩), .pointer (some ⟨w.heap.size, 0, none⟩), .pointer (some ⟨w.heap.size + 1 + 1, 0, none⟩)]) ∧
      w' = ((w.alloc (.cells #[.string s] 9)).alloc (.cells #[.string t] 9)).alloc (.cells #[.int .i64 0] 3) := by
  go_enter Tryd.func53, Tryd.ntmps53
  go_wp2_with fail
  refine (splitSeq_any s t w).mono ?_
  rintro e w1 ⟨rfl, rfl⟩
  go_wp2_with fail
  go_ret
  exact ⟨rfl, rfl⟩

theorem Kp3.trans {b : Nat} {X Y Z : World} (h : Kp3 b X Y) (k : Kp3 b Y Z) : Kp3 b X Z := ⟨k.k0.trans h.k0, k.k1.trans h.k1, k.k2.trans h.k2⟩
theorem Kp3.put {b B : Nat} (hb : b + 1 + 1 < B) : ∀ (W : World) (l : Nat) (o o' : Obj), B ≤ l → W.heap[l]? = some o → Kp3 b W (W.putObj l o') :=
  fun W l o o' hl _ => ⟨World.putObj_heap_other (by omega), World.putObj_heap_other (by omega), World.putObj_heap_other (by omega)⟩
theorem Trio.below {b : Nat} {c : UInt8} {s : ByteArray} {w W : World} (h : Trio b c s w) (hb : Below w.heap.size w W) : Trio b c s W :=
  ⟨boxed_below (n₀ := 0) h.h0 hb, boxed_below (n₀ := 0) h.h1 hb, boxed_below (n₀ := 0) h.h2 hb⟩
theorem splits (n : Nat) (hn : 1 ≤ n) (b : Nat) (c : UInt8) (s : ByteArray) (hs : s.size ≤ 100000) :
    Hands Fence.wide n Tryd.prog 81 #[.pointer (some ⟨b + 1, 0, none⟩), .pointer (some ⟨b, 0, none⟩), .pointer (some ⟨b + 1 + 1, 0, none⟩)] encP b (Kp3 b) (Trio b c s) (fun xs : List Pt => xs.map Subtype.val = splB c s.data.toList) (splB c s.data.toList).length :=
  fun l J W hC h1 h2 hY h0 => split_in n hn l b c s hs J h1 h2 hY W hC h0

/-- What is kept between two parts: the words that came lie in the map. -/
def TkM (w : World) (n₀ b S M : Nat) (pre : List Pt) (W : World) : Prop :=
  (((∃ u, Boxed W b 9 u) ∧ (∃ u, Boxed W (b + 1) 9 u) ∧ (∃ u, Boxed W (b + 1 + 1) 3 u) ∧ Boxed W S 45 (.map (some M))) ∧
    OwnM W M pre.length ((pre.map Subtype.val).map wdL)) ∧ Below n₀ w W
theorem tkM_own {w : World} {n₀ b S M B : Nat} (hB : n₀ ≤ B) (hM : M < B) (hn : n₀ ≤ w.heap.size) : OwnFrom B (TkM w n₀ b S M) :=
  OwnFrom.and (OwnFrom.and (fun s A C row hs hg hr => ⟨hs.1.imp (fun u h => boxed_grown h hg (fun r e => (hr r e).2)), hs.2.1.imp (fun u h => boxed_grown h hg (fun r e => (hr r e).2)), hs.2.2.1.imp (fun u h => boxed_grown h hg (fun r e => (hr r e).2)), boxed_grown hs.2.2.2 hg (fun r e => (hr r e).2)⟩)
    (fun s A C row hs hg hr => World.ownsMap.kept hs hg (fun e => by have := (hr M e.symm).1; omega))) (ownFrom_below hn hB)
theorem tkM_set {w : World} {n₀ b S M : Nat} (hS : S ≠ b) (hM : M ≠ b) (hb : n₀ ≤ b) (pre : List Pt) (A : World) (z : Value) (h : TkM w n₀ b S M pre A) : TkM w n₀ b S M pre (A.setCell ⟨b, 0, none⟩ z) := by
  obtain ⟨⟨⟨⟨u3, k3⟩, ⟨u4, k4⟩, ⟨u5, k5⟩, kS⟩, hm⟩, hB⟩ := h
  exact ⟨⟨⟨⟨_, k3.set z⟩, ⟨_, k4.other (by omega) _⟩, ⟨_, k5.other (by omega) _⟩, kS.other (by omega) _⟩, World.ownsMap.setCell hm (by simp; omega) z⟩, hB.setCell (p := ⟨b, 0, none⟩) hb _⟩

theorem grownBy_put (W : World) (D : Nat) (hD : D < W.heap.size) (o : Obj) : W.grownBy (W.putObj D o) (some D) :=
  ⟨rfl, rfl, rfl, by simp [World.putObj], fun k hk hne => World.putObj_heap_other (fun e => hne (by rw [e]))⟩

/-- All fields are short. -/
def Sm (L : List Fd) : Prop := ∀ f ∈ L, f.1.size ≤ 1010 ∧ f.2.size ≤ 1010
theorem Sm.sh {L : List Fd} (h : Sm L) : Sh L := fun f hf => by have := h f hf; omega
theorem Sm.join {L : List Fd} (h : Sm L) (n : ByteArray) (hl : L.length ≤ 50) : (joinS (allF n L)).size ≤ 50600 := by
  have h1 := joinS_small (L := allF n L) (by
    intro s hs
    obtain ⟨f, hf, rfl⟩ := List.mem_map.1 hs
    exact (h f (List.mem_filter.1 hf).1).2)
  have h2 := all_le n L
  omega

set_option maxRecDepth 100000 in
set_option maxHeartbeats 4000000 in
theorem words_any (L : List Fd) (v : Value) (w : World) (hr : Row w v L) (hl : L.length ≤ 50) (hs : Sm L) :
    Calls Tryd.prog 30 #[v] w fun e w' => ∃ n, e = .returned (.map (some w.heap.size)) ∧ n ≤ 60000 ∧ OwnM w' w.heap.size n (wds L) ∧ Below w.heap.size w w' := by
  have hsz : (joinS (allF connS L)).size ≤ 50600 := hs.join connS hl
  have hmm := @run_makeMap Tryd.prog
  have hm0 : OwnM (w.alloc (.map #[] 0)) w.heap.size 0 [] := World.ownsMap_made w Tryd.prog 9 unitElem
  have hb0 : Below w.heap.size w (w.alloc (.map #[] 0)) := (Below.refl _ _).alloc (Nat.le_refl _) _
  have hm1 : OwnM ((w.alloc (.map #[] 0)).alloc (.cells #[.map (some w.heap.size)] 45)) w.heap.size 0 [] := World.ownsMap.alloc hm0 _
  have hb1 := hb0.alloc hb0.size (.cells #[.map (some w.heap.size)] 45)
  have hS : Boxed ((w.alloc (.map #[] 0)).alloc (.cells #[.map (some w.heap.size)] 45)) (w.heap.size + 1) 45 (.map (some w.heap.size)) := by
    have := Boxed.new (w.alloc (.map #[] 0)) 45 (.map (some w.heap.size))
    rw [World.size_alloc] at this
    exact this
  have hz1 : ((w.alloc (.map #[] 0)).alloc (.cells #[.map (some w.heap.size)] 45)).heap.size = w.heap.size + 2 := by simp
  have hr1 := hr.below hb1
  have hj := joined_any L v connS ((w.alloc (.map #[] 0)).alloc (.cells #[.map (some w.heap.size)] 45)) hr1 (by omega) hs.sh (by decide)
  refine (callsIn_wide (n := 3)).1 ?_
  refine callsIn_of_wp_marks Tryd.func30 rfl trivial ?_ rfl
  simp only [Tryd.ntmps30, List.size_toArray, List.length_cons, List.length_nil, Nat.reduceAdd, Nat.reduceSub, Array.replicate_succ, Array.replicate_zero, List.push_toArray, List.append_toArray, List.nil_append, List.cons_append]
  have hWD : wds L = wsV (joinS (allF connS L)).data.toList := rfl
  generalize hs0 : joinS (allF connS L) = s at *
  generalize hasB connS L = hb at *
  have HJ := hide hj
  clear hj hs hr hr1 hs0
  gi_wp2
  refine ⟨trivial, ?_⟩
  refine (callsIn_wide.2 HJ.out).mono ?_
  rintro e w1 ⟨rfl, hbj⟩
  have hb1' := hb1.trans (hbj.mono hb1.size)
  have hS1 := boxed_below (n₀ := 0) hS hbj
  have hm1' : OwnM w1 w.heap.size 0 [] := World.ownsMap.kept hm1 (below_grown hbj none) (by simp)
  have hz2 := hbj.size
  rw [hz1] at hz2
  clear HJ hm0 hm1 hb0 hS hbj hz1
  generalize hw0 : ((w.alloc (.map #[] 0)).alloc (.cells #[.map (some w.heap.size)] 45)) = w0 at *
  gi_wp2
  refine ⟨trivial, ?_⟩
  refine (callsIn_wide.2 (SplitSeq_any _ _ _)).mono ?_
  rintro e w2 ⟨rfl, rfl⟩
  gi_wp2
  obtain ⟨b, hbq⟩ : ∃ b, w1.heap.size = b := ⟨_, rfl⟩
  rw [hbq] at hz2 ⊢
  have hB0 : Below w.heap.size w (((w1.alloc (.cells #[.string s] 9)).alloc (.cells #[.string ⟨#[44]⟩] 9)).alloc (.cells #[.int .i64 0] 3)) :=
    ((hb1'.alloc (by omega) _).alloc (by simp; omega) _).alloc (by simp; omega) _
  have k0 : Boxed (((w1.alloc (.cells #[.string s] 9)).alloc (.cells #[.string ⟨#[44]⟩] 9)).alloc (.cells #[.int .i64 0] 3)) b 9 (.string s) := by
    have := Boxed.new w1 9 (.string s)
    rw [hbq] at this
    exact (this.alloc _).alloc _
  have k1 : Boxed (((w1.alloc (.cells #[.string s] 9)).alloc (.cells #[.string ⟨#[44]⟩] 9)).alloc (.cells #[.int .i64 0] 3)) (b + 1) 9 (.string ⟨#[44]⟩) := by
    have := Boxed.new (w1.alloc (.cells #[.string s] 9)) 9 (.string ⟨#[44]⟩)
    rw [World.size_alloc, hbq] at this
    exact this.alloc _
  have k2 : Boxed (((w1.alloc (.cells #[.string s] 9)).alloc (.cells #[.string ⟨#[44]⟩] 9)).alloc (.cells #[.int .i64 0] 3)) (b + 1 + 1) 3 (.int .i64 0) := by
    have := Boxed.new ((w1.alloc (.cells #[.string s] 9)).alloc (.cells #[.string ⟨#[44]⟩] 9)) 3 (.int .i64 0)
    rw [World.size_alloc, World.size_alloc, hbq] at this
    exact this
  have kS : Boxed (((w1.alloc (.cells #[.string s] 9)).alloc (.cells #[.string ⟨#[44]⟩] 9)).alloc (.cells #[.int .i64 0] 3)) (w.heap.size + 1) 45 (.map (some w.heap.size)) := ((hS1.alloc _).alloc _).alloc _
  have kM : OwnM (((w1.alloc (.cells #[.string s] 9)).alloc (.cells #[.string ⟨#[44]⟩] 9)).alloc (.cells #[.int .i64 0] 3)) w.heap.size 0 [] := ((World.ownsMap.alloc hm1' _).alloc _).alloc _
  have hz3 : (((w1.alloc (.cells #[.string s] 9)).alloc (.cells #[.string ⟨#[44]⟩] 9)).alloc (.cells #[.int .i64 0] 3)).heap.size = b + 3 := by simp [hbq]
  generalize (((w1.alloc (.cells #[.string s] 9)).alloc (.cells #[.string ⟨#[44]⟩] 9)).alloc (.cells #[.int .i64 0] 3)) = W0 at hB0 k0 k1 k2 kS kM hz3 ⊢
  have hTr : Trio b 44 s W0 := ⟨k0, k1, k2⟩
  clear hmm
  refine over_cell rfl (by omega) (gf := 81) (lb := #[.pointer (some ⟨b + 1, 0, none⟩), .pointer (some ⟨b, 0, none⟩), .pointer (some ⟨b + 1 + 1, 0, none⟩)]) rfl trivial (enters_of Tryd.func81 (by kernel_rfl) rfl)
    (splits _ (by omega) b 44 s (by omega)) (by omega) Kp3.trans (Kp3.put (by omega)) (fun W hW => hTr.below hW) (fun _ => rfl)
    (TkM w w.heap.size b (w.heap.size + 1) w.heap.size) (tkM_own (by omega) (by omega) (Nat.le_refl _)) (tkM_set (by omega) (by omega) (by omega)) ⟨⟨⟨⟨_, k0⟩, ⟨_, k1⟩, ⟨_, k2⟩, kS⟩, kM⟩, hB0⟩
    (fun x => { tmps := #[v, undef, .map none, .pointer (some ⟨w.heap.size + 1, 0, none⟩), .string s, .bool hb, .string (bs x.1), .map (some w.heap.size), .tuple #[.string s, .bool hb], v,
          .tuple #[.string s, .bool hb], .string s, .bool hb, .string s, .func (.func 81) #[] #[.pointer (some ⟨b + 1, 0, none⟩), .pointer (some ⟨b, 0, none⟩), .pointer (some ⟨b + 1 + 1, 0, none⟩)],
          .string (bs x.1), undef, undef, undef, undef, undef], defers := [] }) ?assign ?body ?done
  case assign =>
    intro l x W K hK
    simp only [encP]
    gi_wp2
    exact hK
  case body =>
    rintro l pre x W ⟨⟨⟨⟨u3, k3⟩, ⟨u4, k4⟩, ⟨u5, k5⟩, kS⟩, hm⟩, hB⟩ hlt
    have hpl : pre.length ≤ 60000 := by
      have h2 := splB_len 44 s.data.toList
      rw [size_list] at h2
      omega
    have hx1 : (bs x.1).size ≤ 1000000 := by rw [bs_size]; have := x.2; omega
    have hts := trimS_size (bs x.1)
    have HQ : Hid (((pre ++ [x]).map Subtype.val).map wdL = (pre.map Subtype.val).map wdL ++ [lowL (trimS (bs x.1)).data.toList]) := by
      unfold Hid; rw [trimS_list, bs_list, List.map_append, List.map_append]; rfl
    have hmx : Tryd.prog.follows .mixedOrders = true := by kernel_rfl
    have c0 := kS.cell
    gi_wp2
    gi_region_with_o (first
      | (refine ⟨trivial, ?_⟩; refine (CallsIn.inRound l (callsIn_wide.2 (trim_any (bs x.1) _ hx1))).mono ?_; rintro e w3 ⟨rfl, hb3⟩; have c3 := (boxed_below (n₀ := 0) (W := W.drew) kS hb3).cell; have m3 : OwnM w3 w.heap.size pre.length ((pre.map Subtype.val).map wdL) := World.ownsMap.kept (w := W.drew) hm (below_grown hb3 none) (by simp); have g3 := below_grown hb3 (some w.heap.size))
      | (refine ⟨trivial, ?_⟩; refine (CallsIn.inRound l (callsIn_wide.2 (names_add (trimS (bs x.1)) w.heap.size pre.length ((pre.map Subtype.val).map wdL) _ (by omega) (by omega) m3))).mono ?_; rintro e w4 ⟨rfl, m4, g4⟩))
    all_goals gi_wp2
    all_goals
      have g0 : W.grownBy w3 (some w.heap.size) := ⟨g3.os, g3.tape, g3.output, g3.size, g3.block⟩
      have gA := g0.trans g4
      have j3 := k3.kept gA (fun e => by have := Option.some.inj e; omega)
      have j4 := k4.kept gA (fun e => by have := Option.some.inj e; omega)
      have j5 := k5.kept gA (fun e => by have := Option.some.inj e; omega)
      have jS := kS.kept gA (fun e => by have := Option.some.inj e; omega)
      have hbA : Below w.heap.size w w4 := hB.grown gA hB.size (fun j e => by have := Option.some.inj e; omega)
      have hKF : KeepsFrom W0.heap.size W w4 := KeepsFrom.of_grownBy gA (fun j e => by have := Option.some.inj e; omega)
      rw [← HQ.out] at m4
      refine ⟨hKF, ⟨j3.trans (Eq.symm k3), j4.trans (Eq.symm k4), j5.trans (Eq.symm k5)⟩, ⟨⟨⟨_, j3⟩, ⟨_, j4⟩, ⟨_, j5⟩, jS⟩, ?_⟩, hbA⟩
      rw [List.length_append]
      exact m4
  case done =>
    rintro D ys W hD hys ⟨⟨⟨⟨u3, k3⟩, ⟨u4, k4⟩, ⟨u5, k5⟩, kS⟩, hm⟩, hB⟩ hK
    have c0 := kS.cell
    gi_wp2
    refine ⟨by simp, .inl ⟨_, _, rfl, run_takeDeferred hK, ?_⟩⟩
    refine ⟨.map (some w.heap.size), by simp [results, Tryd.results30, go_sem], ys.length, rfl, ?_, ?_, ?_⟩
    · have h2 := splB_len 44 s.data.toList
      rw [size_list, ← hys, List.length_map] at h2
      omega
    · rw [hWD, wsV, ← hys]
      exact World.ownsMap.kept hm (grownBy_put W D (by have := (Array.getElem?_eq_some_iff.1 hK).1; omega) _) (fun e => by have := Option.some.inj e; omega)
    · exact hB.trans (belowK_b (w := w) (Nat.le_refl _) _ D _ _ (by omega) hK rfl rfl)

end Go.Proofs.YtojoidhjlbcijaaDoor
