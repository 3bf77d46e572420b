/- The walk of what takes the parts of a text that are to be taken, as pairs. -/
import Derived.Test.YtgnpeggffeoenaaDoorRb
import Derived.Test.YtgnpeggffeoenaaDoorFp
import Derived.Test.YtgnpeggffeoenaaDoorPb
namespace Go.Proofs.YtgnpeggffeoenaaDoor
set_option linter.unusedVariables false
set_option linter.unusedSimpArgs false
open Go.RowKit Go.Shelf

attribute [local go_sem] Oper.semAt_some

theorem splitSeq_any (s t : ByteArray) (w : World) :
    Calls Tryd.prog 63 #[.string s, .string t, .int .i64 0] w fun e w' => e = .returned (.func (.func 69) #[] #[.pointer (some ⟨w.heap.size + 1, 0, none⟩), .pointer (some ⟨w.heap.size, 0, none⟩), .pointer (some ⟨w.heap.size + 1 + 1, 0, none⟩)]) ∧
      w' = ((w.alloc (.cells #[.string s] 9)).alloc (.cells #[.string t] 9)).alloc (.cells #[.int .i64 0] 3) := by
  go_enter Tryd.func63, Tryd.ntmps63
  go_wp2_with fail
  go_ret
  exact ⟨rfl, rfl⟩
theorem SplitSeq_any (s t : ByteArray) (w : World) :
    Calls Tryd.prog 47 #[.string s, .string t] w fun e w' => e = .returned (.func (.func 69) #[] #[.pointer (some ⟨w.heap.size + 1, 0, none⟩), .pointer (some ⟨w.heap.size, 0, none⟩), .pointer (some ⟨w.heap.size + 1 + 1, 0, none⟩)]) ∧
      w' = ((w.alloc (.cells #[.string s] 9)).alloc (.cells #[.string t] 9)).alloc (.cells #[.int .i64 0] 3) := by
  go_enter Tryd.func47, Tryd.ntmps47
  go_wp2_with fail
  refine (splitSeq_any s t w).mono ?_
  rintro e w1 ⟨rfl, rfl⟩
  go_wp2_with fail
  go_ret
  exact ⟨rfl, rfl⟩

theorem Kp3.trans {b : Nat} {X Y Z : World} (h : Kp3 b X Y) (k : Kp3 b Y Z) : Kp3 b X Z := ⟨k.k0.trans h.k0, k.k1.trans h.k1, k.k2.trans h.k2⟩
theorem Kp3.put {b B : Nat} (hb : b + 1 + 1 < B) : ∀ (W : World) (l : Nat) (o o' : Obj), B ≤ l → W.heap[l]? = some o → Kp3 b W (W.putObj l o') :=
  fun W l o o' hl _ => ⟨World.putObj_heap_other (by omega), World.putObj_heap_other (by omega), World.putObj_heap_other (by omega)⟩
theorem Trio.below {b : Nat} {c : UInt8} {s : ByteArray} {w W : World} (h : Trio b c s w) (hb : Below w.heap.size w W) : Trio b c s W :=
  ⟨boxed_below (n₀ := 0) h.h0 hb, boxed_below (n₀ := 0) h.h1 hb, boxed_below (n₀ := 0) h.h2 hb⟩
theorem splits (n : Nat) (hn : 1 ≤ n) (b : Nat) (c : UInt8) (s : ByteArray) (hs : s.size ≤ 10000) :
    Hands Fence.wide n Tryd.prog 69 #[.pointer (some ⟨b + 1, 0, none⟩), .pointer (some ⟨b, 0, none⟩), .pointer (some ⟨b + 1 + 1, 0, none⟩)] encP b (Kp3 b) (Trio b c s) (fun xs : List Pt => xs.map Subtype.val = splB c s.data.toList) (splB c s.data.toList).length :=
  fun l J W hC h1 h2 hY h0 => split_in n hn l b c s hs J h1 h2 hY W hC h0

/-- What is kept between two parts: what was taken lies in the row. -/
def TkI (w : World) (g : Nat) (rv : List UInt8 → Fd) (ro : List UInt8 → Bool) (pre : List Pt) (W : World) : Prop :=
  ((Boxed W w.heap.size 48 (.func (.func g) #[] #[]) ∧ (∃ u, Boxed W (w.heap.size + 1 + 1) 9 u) ∧ (∃ u, Boxed W (w.heap.size + 1 + 1 + 1) 9 u) ∧ (∃ u, Boxed W (w.heap.size + 1 + 1 + 1 + 1) 3 u)) ∧
    ∃ v, Boxed W (w.heap.size + 1) 23 v ∧ W.ownsRow w.heap.size 37 2 v (((pre.map Subtype.val).filter ro).map rv).length (fcells (((pre.map Subtype.val).filter ro).map rv)) ∧ True) ∧ Below w.heap.size w W
theorem tkI_own {w : World} {g : Nat} {rv : List UInt8 → Fd} {ro : List UInt8 → Bool} {B : Nat} (hB : w.heap.size ≤ B) : OwnFrom B (TkI w g rv ro) :=
  OwnFrom.and (Own.from (fun s A C row hs hg hr => ⟨⟨boxed_grown hs.1.1 hg hr, hs.1.2.1.imp (fun u h => boxed_grown h hg hr), hs.1.2.2.1.imp (fun u h => boxed_grown h hg hr), hs.1.2.2.2.imp (fun u h => boxed_grown h hg hr)⟩,
    holdsRow_own w.heap.size (w.heap.size + 1) 23 37 2 (fun pre : List Pt => (((pre.map Subtype.val).filter ro).map rv).length) (fun pre => fcells (((pre.map Subtype.val).filter ro).map rv)) (fun _ _ => True) s A C row hs.2 hg hr⟩) _) (ownFrom_below (Nat.le_refl _) hB)
theorem tkI_set {w : World} {g : Nat} {rv : List UInt8 → Fd} {ro : List UInt8 → Bool} (pre : List Pt) (A : World) (z : Value) (h : TkI w g rv ro pre A) : TkI w g rv ro pre (A.setCell ⟨w.heap.size + 1 + 1, 0, none⟩ z) := by
  obtain ⟨⟨⟨k0, ⟨u3, k3⟩, ⟨u4, k4⟩, ⟨u5, k5⟩⟩, v, k1, hrow, -⟩, hB⟩ := h
  exact ⟨⟨⟨k0.other (by omega) _, ⟨_, k3.set z⟩, ⟨_, k4.other (by omega) _⟩, ⟨_, k5.other (by omega) _⟩⟩, v, k1.other (by omega) _, own_set k3 (by decide) hrow, trivial⟩, hB.setCell (p := ⟨w.heap.size + 1 + 1, 0, none⟩) (by simp; omega) _⟩

set_option maxRecDepth 100000 in
set_option maxHeartbeats 4000000 in
theorem taken_pairs (g : Nat) (eg : ∀ args w, (callFunc g args).run Tryd.prog w = .ok (.enter g args) w) (rv : List UInt8 → Fd) (ro : List UInt8 → Bool) (s : ByteArray) (c : UInt8) (w : World) (hs : s.size ≤ 10000) (hT : Tabs w)
    (hread : ∀ (x : List UInt8) W, x.length ≤ 10000 → Tabs W → Calls Tryd.prog g #[.string (bs x)] W fun e w' => e = .returned (.tuple #[fv (rv x), .bool (ro x)]) ∧ Below W.heap.size W w') :
    Calls Tryd.prog 25 #[.string s, .string ⟨#[c]⟩, .func (.func g) #[] #[]] w fun e w' => ∃ v, e = .returned v ∧ Own w' w.heap.size v (((splB c s.data.toList).filter ro).map rv) ∧ Below w.heap.size w w' := by
  have HR := hide hread
  have HT := hide hT
  clear hread hT
  refine (callsIn_wide (n := 3)).1 ?_
  refine callsIn_of_wp_marks Tryd.func25 rfl trivial ?_ rfl
  simp only [Tryd.ntmps25, List.size_toArray, List.length_cons, List.length_nil, Nat.reduceAdd, Nat.reduceSub, Array.replicate_succ, Array.replicate_zero, List.push_toArray, List.append_toArray, List.nil_append, List.cons_append]
  gi_wp2
  refine ⟨trivial, ?_⟩
  refine (callsIn_wide.2 (SplitSeq_any _ _ _)).mono ?_
  rintro e w1 ⟨rfl, rfl⟩
  gi_wp2
  have hB0 : Below w.heap.size w (((((w.alloc (.cells #[.func (.func g) #[] #[]] 48)).alloc (.cells #[.slice none 0 0] 23)).alloc (.cells #[.string s] 9)).alloc (.cells #[.string ⟨#[c]⟩] 9)).alloc (.cells #[.int .i64 0] 3)) :=
    (((((Below.refl _ w).alloc (Nat.le_refl _) _).alloc (by simp) _).alloc (by simp; omega) _).alloc (by simp; omega) _).alloc (by simp; omega) _
  have b0 : Boxed (((((w.alloc (.cells #[.func (.func g) #[] #[]] 48)).alloc (.cells #[.slice none 0 0] 23)).alloc (.cells #[.string s] 9)).alloc (.cells #[.string ⟨#[c]⟩] 9)).alloc (.cells #[.int .i64 0] 3)) w.heap.size 48 (.func (.func g) #[] #[]) := ((((Boxed.new w 48 _).alloc _).alloc _).alloc _).alloc _
  have b1 : Boxed (((((w.alloc (.cells #[.func (.func g) #[] #[]] 48)).alloc (.cells #[.slice none 0 0] 23)).alloc (.cells #[.string s] 9)).alloc (.cells #[.string ⟨#[c]⟩] 9)).alloc (.cells #[.int .i64 0] 3)) (w.heap.size + 1) 23 (.slice none 0 0) := by
    have := Boxed.new (w.alloc (.cells #[.func (.func g) #[] #[]] 48)) 23 (.slice none 0 0)
    rw [World.size_alloc] at this
    exact ((this.alloc _).alloc _).alloc _
  have b2 : Boxed (((((w.alloc (.cells #[.func (.func g) #[] #[]] 48)).alloc (.cells #[.slice none 0 0] 23)).alloc (.cells #[.string s] 9)).alloc (.cells #[.string ⟨#[c]⟩] 9)).alloc (.cells #[.int .i64 0] 3)) (w.heap.size + 1 + 1) 9 (.string s) := by
    have := Boxed.new ((w.alloc (.cells #[.func (.func g) #[] #[]] 48)).alloc (.cells #[.slice none 0 0] 23)) 9 (.string s)
    rw [World.size_alloc, World.size_alloc] at this
    exact (this.alloc _).alloc _
  have b3 : Boxed (((((w.alloc (.cells #[.func (.func g) #[] #[]] 48)).alloc (.cells #[.slice none 0 0] 23)).alloc (.cells #[.string s] 9)).alloc (.cells #[.string ⟨#[c]⟩] 9)).alloc (.cells #[.int .i64 0] 3)) (w.heap.size + 1 + 1 + 1) 9 (.string ⟨#[c]⟩) := by
    have := Boxed.new (((w.alloc (.cells #[.func (.func g) #[] #[]] 48)).alloc (.cells #[.slice none 0 0] 23)).alloc (.cells #[.string s] 9)) 9 (.string ⟨#[c]⟩)
    rw [World.size_alloc, World.size_alloc, World.size_alloc] at this
    exact this.alloc _
  have b4 : Boxed (((((w.alloc (.cells #[.func (.func g) #[] #[]] 48)).alloc (.cells #[.slice none 0 0] 23)).alloc (.cells #[.string s] 9)).alloc (.cells #[.string ⟨#[c]⟩] 9)).alloc (.cells #[.int .i64 0] 3)) (w.heap.size + 1 + 1 + 1 + 1) 3 (.int .i64 0) := by
    have := Boxed.new ((((w.alloc (.cells #[.func (.func g) #[] #[]] 48)).alloc (.cells #[.slice none 0 0] 23)).alloc (.cells #[.string s] 9)).alloc (.cells #[.string ⟨#[c]⟩] 9)) 3 (.int .i64 0)
    rw [World.size_alloc, World.size_alloc, World.size_alloc, World.size_alloc] at this
    exact this
  have hsz : (((((w.alloc (.cells #[.func (.func g) #[] #[]] 48)).alloc (.cells #[.slice none 0 0] 23)).alloc (.cells #[.string s] 9)).alloc (.cells #[.string ⟨#[c]⟩] 9)).alloc (.cells #[.int .i64 0] 3)).heap.size = w.heap.size + 5 := by simp
  generalize (((((w.alloc (.cells #[.func (.func g) #[] #[]] 48)).alloc (.cells #[.slice none 0 0] 23)).alloc (.cells #[.string s] 9)).alloc (.cells #[.string ⟨#[c]⟩] 9)).alloc (.cells #[.int .i64 0] 3)) = W0 at hB0 b0 b1 b2 b3 b4 hsz ⊢
  have hTr : Trio (w.heap.size + 1 + 1) c s W0 := ⟨b2, b3, b4⟩
  refine over_cell rfl (by omega) (gf := 69) (lb := #[.pointer (some ⟨w.heap.size + 1 + 1 + 1, 0, none⟩), .pointer (some ⟨w.heap.size + 1 + 1, 0, none⟩), .pointer (some ⟨w.heap.size + 1 + 1 + 1 + 1, 0, none⟩)]) rfl trivial (enters_of Tryd.func69 (by kernel_rfl) rfl)
    (splits _ (by omega) (w.heap.size + 1 + 1) c s hs) (by omega) Kp3.trans (Kp3.put (by omega)) (fun W hW => hTr.below hW) (fun _ => rfl)
    (TkI w g rv ro) (tkI_own (by omega)) tkI_set ⟨⟨⟨b0, ⟨_, b2⟩, ⟨_, b3⟩, ⟨_, b4⟩⟩, _, b1, World.ownsRow_nil _ _ _ _, trivial⟩, hB0⟩
    (fun x => { tmps := #[.string s, .string ⟨#[c]⟩, .func (.func g) #[] #[], undef, undef, .pointer (some ⟨w.heap.size, 0, none⟩), .slice none 0 0, .pointer (some ⟨w.heap.size + 1, 0, none⟩), .string (bs x.1), undef, undef, .string s, .string ⟨#[c]⟩, .func (.func 69) #[] #[.pointer (some ⟨w.heap.size + 1 + 1 + 1, 0, none⟩), .pointer (some ⟨w.heap.size + 1 + 1, 0, none⟩), .pointer (some ⟨w.heap.size + 1 + 1 + 1 + 1, 0, none⟩)], .string (bs x.1), undef, undef, undef, undef, undef, undef, undef, undef, undef, undef, undef, undef], defers := [] }) ?assign ?body ?done
  case assign =>
    intro l x W K hK
    simp only [encP]
    gi_wp2
    exact hK
  case body =>
    rintro l pre x W ⟨⟨⟨k0, ⟨u3, k3⟩, ⟨u4, k4⟩, ⟨u5, k5⟩⟩, v, k1, hrow, -⟩, hB⟩ hlt
    have hfo := HR.out x.1 W x.2 (HT.out.below hB)
    have HLN : Hid ((((pre.map Subtype.val).filter ro).map rv).length ≤ 10000) := by
      unfold Hid
      rw [List.length_map]
      have h1 := List.length_filter_le ro (pre.map Subtype.val)
      have h2 := splB_len c s.data.toList
      rw [size_list] at h2
      rw [List.length_map] at h1
      omega
    clear hlt
    generalize hf : rv x.1 = f at hfo
    generalize hok : ro x.1 = ok at hfo
    unfold fv at hfo
    have HFO := hide hfo
    have HF := hide hf
    have HOK := hide hok
    clear hfo hf hok
    have c0 := k0.cell
    gi_wp2
    refine ⟨trivial, ?_⟩
    refine (CallsIn.inRound l (callsIn_wide.2 HFO.out)).mono ?_
    rintro e w1 ⟨rfl, hb1⟩
    have hB1 := hB.trans (hb1.mono hB.size)
    have j0 := (boxed_below (n₀ := 0) k0 hb1).alloc (.cells #[.string f.1, .string f.2] 37)
    have j1 := (boxed_below (n₀ := 0) k1 hb1).alloc (.cells #[.string f.1, .string f.2] 37)
    have j3 := (boxed_below (n₀ := 0) k3 hb1).alloc (.cells #[.string f.1, .string f.2] 37)
    have j4 := (boxed_below (n₀ := 0) k4 hb1).alloc (.cells #[.string f.1, .string f.2] 37)
    have j5 := (boxed_below (n₀ := 0) k5 hb1).alloc (.cells #[.string f.1, .string f.2] 37)
    have hR : w.heap.size ≤ w1.heap.size := hB1.size
    have hrow2 := owns_below hrow (hb1.trans ((one_alloc w1 #[.string f.1, .string f.2] 37).mono hb1.size))
    have hB2 := hB1.alloc hR (.cells #[.string f.1, .string f.2] 37)
    have hKO := (keeps_below hb1).trans (KeepsOthers.alloc w1 (.cells #[.string f.1, .string f.2] 37))
    obtain ⟨a, cap, rfl⟩ : ∃ a cap, v = .slice a (((pre.map Subtype.val).filter ro).map rv).length cap := Row.slice (Own.row hrow)
    have HLL : Hid (((((pre ++ [x]).map Subtype.val).filter ro).map rv) = (((pre.map Subtype.val).filter ro).map rv) ++ (if ok then [f] else [])) := by
      unfold Hid
      rw [← HOK.out, ← HF.out]
      rw [List.map_append, List.filter_append, List.map_append]
      congr 1
      simp only [List.map_cons, List.map_nil, List.filter_cons, List.filter_nil]
      cases ro x.1 <;> rfl
    generalize ((pre.map Subtype.val).filter ro).map rv = L at hrow hrow2 k1 j1 HLL HLN
    have m0 : (w1.alloc (.cells #[.string f.1, .string f.2] 37)).cell? ⟨w1.heap.size, 0, none⟩ = some (.string f.1) := by go_simp
    have m1 : (w1.alloc (.cells #[.string f.1, .string f.2] 37)).cell? ⟨w1.heap.size, 1, none⟩ = some (.string f.2) := by go_simp
    have hok0 : ok = false ∨ ok = true := by cases ok <;> simp
    have hl1 : L.length ≤ 10000 := HLN.out
    rcases hok0 with rfl | rfl
    · have HL2 : Hid ((((pre ++ [x]).map Subtype.val).filter ro).map rv = L) := by unfold Hid; have h := HLL.out; rw [h]; simp
      clear HLL
      gi_wp2
      show KeepsFrom _ W _ ∧ Kp3 _ W _ ∧ TkI w g rv ro (pre ++ [x]) _
      refine ⟨hKO.from _, ⟨j3.trans (Eq.symm k3), j4.trans (Eq.symm k4), j5.trans (Eq.symm k5)⟩, ⟨⟨j0, ⟨_, j3⟩, ⟨_, j4⟩, ⟨_, j5⟩⟩, _, j1, ?_, trivial⟩, hB2⟩
      rw [HL2.out]; exact hrow2
    · have HL2 : Hid ((((pre ++ [x]).map Subtype.val).filter ro).map rv = L ++ [f]) := by unfold Hid; have h := HLL.out; rw [h]; simp
      clear HLL
      have c1 := j1.cell
      have f1 := j1.frozen
      obtain ⟨i0, hi0, hz0, hz1, hz2⟩ := info_parts Tryd.info37
      generalize hG : (w1.alloc (.cells #[.string f.1, .string f.2] 37)) = w2 at *
      have hR2 : w.heap.size ≤ w2.heap.size := hB2.size
      gi_wp2_with (gi_at_builtin; refine wpListIn_append_own _ rfl _ _ 23 rfl w.heap.size 37 i0 _ 2 32 Tryd.underlying23 hi0 hz0 hz1 hz2 rfl (by decide) _ _ _ rfl (hrow2.alloc (.cells #[.string f.1, .string f.2] 37)) ⟨w2.heap.size, 0, none⟩ 1 1 [.string f.1, .string f.2] rfl rfl (two_new w2 _ _ 37) (fst_one f) (maxLen_of (by omega)) (by omega) (by simp; omega) ?_; intro v' w4 hown' hgrow _; obtain ⟨g', cap', rfl⟩ := ownsRow_succ hown'; obtain ⟨hv1, hv2, hr2, hk2, hb2⟩ := j1.appended (by decide) hrow2 (by omega) (by omega) hown' hgrow; have hc1 := hv1.cell; have hf1 := hv1.frozen)
      have hgr : (w2.alloc (.cells #[.string f.1, .string f.2] 37)).grownBy w4 (Value.slice a L.length cap).ownBlock := hgrow
      have p0 := ((j0.alloc (.cells #[.string f.1, .string f.2] 37)).kept hgr (Boxed.not_row j0 (by decide) hrow2)).other (B' := w.heap.size + 1) (by omega) (.slice (some ⟨g', 0, none⟩) (L.length + 1) cap')
      have p3 := ((j3.alloc (.cells #[.string f.1, .string f.2] 37)).kept hgr (Boxed.not_row j3 (by decide) hrow2)).other (B' := w.heap.size + 1) (by omega) (.slice (some ⟨g', 0, none⟩) (L.length + 1) cap')
      have p4 := ((j4.alloc (.cells #[.string f.1, .string f.2] 37)).kept hgr (Boxed.not_row j4 (by decide) hrow2)).other (B' := w.heap.size + 1) (by omega) (.slice (some ⟨g', 0, none⟩) (L.length + 1) cap')
      have p5 := ((j5.alloc (.cells #[.string f.1, .string f.2] 37)).kept hgr (Boxed.not_row j5 (by decide) hrow2)).other (B' := w.heap.size + 1) (by omega) (.slice (some ⟨g', 0, none⟩) (L.length + 1) cap')
      show KeepsFrom _ W _ ∧ Kp3 _ W _ ∧ TkI w g rv ro (pre ++ [x]) _
      refine ⟨(hKO.trans hk2).from _, ⟨p3.trans (Eq.symm k3), p4.trans (Eq.symm k4), p5.trans (Eq.symm k5)⟩, ⟨⟨p0, ⟨_, p3⟩, ⟨_, p4⟩, ⟨_, p5⟩⟩, _, hv2, ?_, trivial⟩, hB2.trans hb2⟩
      rw [HL2.out, fcells_append, List.length_append]
      exact hr2
  case done =>
    rintro D ys W hD hys ⟨⟨⟨k0, ⟨u3, k3⟩, ⟨u4, k4⟩, ⟨u5, k5⟩⟩, v, k1, hrow, -⟩, hB⟩ hK
    rw [hys] at hrow
    have c1 := k1.cell
    gi_wp2
    refine ⟨by simp, .inl ⟨_, _, rfl, run_takeDeferred hK, ?_⟩⟩
    refine ⟨v, by simp [results, Tryd.results25, go_sem], v, rfl, ownsRow_putObj hrow _ hK rfl, ?_⟩
    exact hB.trans (belowK_b (w := w) (Nat.le_refl _) _ D _ _ (by omega) hK rfl rfl)

end Go.Proofs.YtgnpeggffeoenaaDoor
