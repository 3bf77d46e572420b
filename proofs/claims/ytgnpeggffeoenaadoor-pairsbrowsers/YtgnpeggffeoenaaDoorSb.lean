/- The walk of what takes the parts of a text that are to be taken, as languages, and of Languages. -/
import Derived.Test.YtgnpeggffeoenaaDoorRc
import Derived.Test.YtgnpeggffeoenaaDoorSa
import Derived.Test.YtgnpeggffeoenaaDoorWl
import Derived.RangeFuncWrites
namespace Go.Proofs.YtgnpeggffeoenaaDoor
set_option linter.unusedVariables false
set_option linter.unusedSimpArgs false
open Go.RowKit Go.Shelf Go.Maps

attribute [local go_sem] Oper.semAt_some

def setD (ps : List (List UInt8)) : DataW Unit := setOf (.agg []) (ps.map fun p => .string (lP p))
theorem setD_nil : setD [] = .map [] := rfl
theorem setD_snoc (ps : List (List UInt8)) (x : List UInt8) : setD (ps ++ [x]) = (setD ps).put (.string (lP x)) (.agg []) := by
  unfold setD setOf; rw [List.map_append, List.foldl_append]; rfl
theorem setD_has (ps : List (List UInt8)) (l : List UInt8) : has (setD ps) (.string l) = decide (l ∈ ps.map lP) := by
  unfold setD
  rw [has_setOf _ _ _ (fun x hx => by obtain ⟨p, _, rfl⟩ := List.mem_map.1 hx; trivial)]
  rw [Bool.eq_iff_iff, List.any_eq_true, decide_eq_true_eq]
  constructor
  · rintro ⟨x, hx, h⟩
    obtain ⟨p, hp, rfl⟩ := List.mem_map.1 hx
    have : lP p = l := by simpa [Lit.sameKey] using h
    exact List.mem_map.2 ⟨p, hp, this⟩
  · intro h
    obtain ⟨p, hp, rfl⟩ := List.mem_map.1 h
    exact ⟨_, List.mem_map.2 ⟨p, hp, rfl⟩, by simp [Lit.sameKey]⟩
def okL (ps : List (List UInt8)) (x : List UInt8) : Bool := !(lP x).isEmpty && !has (setD ps) (.string (lP x))
theorem add_next (ps : List (List UInt8)) (x : List UInt8) : (ps ++ [x]).foldl addL [] = ps.foldl addL [] ++ (if okL ps x then [lP x] else []) := by
  rw [List.foldl_append, List.foldl_cons, List.foldl_nil, addL, okL, setD_has]
  by_cases h0 : lP x = []
  · rw [if_pos (Or.inl h0), h0]; simp
  · have hm := add_mem h0 ps
    by_cases h1 : lP x ∈ ps.foldl addL []
    · rw [if_pos (Or.inr h1), decide_eq_true (hm.1 h1)]; simp
    · rw [if_neg (by rintro (h | h); exact h0 h; exact h1 h), decide_eq_false (fun h => h1 (hm.2 h))]
      have : (lP x).isEmpty = false := by simpa using h0
      rw [this]; simp
theorem add_count (ps : List (List UInt8)) : (ps.foldl addL []).length ≤ ps.length := by
  have H : ∀ (ps acc : List (List UInt8)), (ps.foldl addL acc).length ≤ acc.length + ps.length := by
    intro ps
    induction ps with
    | nil => intro acc; simp
    | cons p ps ih =>
      intro acc
      rw [List.foldl_cons]
      have h := ih (addL acc p)
      have h2 : (addL acc p).length ≤ acc.length + 1 := by unfold addL; split <;> simp
      simp; omega
  have := H ps []
  simpa using this

theorem row_off {W : World} {base e : Nat} {size k : Nat} {v : Value} {xs : List Value} (h : W.ownsRow base e size v k xs) {B : Nat} (hB : B < base) : v.ownBlock = none ∨ v.ownBlock ≠ some B :=
  Or.inr (fun e' => by have := (World.ownsRow.lt h B e').1; omega)
theorem ne_row {W : World} {base e : Nat} {size k : Nat} {v : Value} {xs : List Value} (h : W.ownsRow base e size v k xs) {B : Nat} (hB : B < base) : some B ≠ v.ownBlock :=
  fun e' => by have := (World.ownsRow.lt h B e'.symm).1; omega

theorem row_mono {W : World} {base base' e : Nat} {size k : Nat} {v : Value} {xs : List Value} (h : W.ownsRow base e size v k xs) (hb : base' ≤ base) : W.ownsRow base' e size v k xs := by
  refine ⟨h.1, ?_⟩
  rcases h.2 with h | ⟨g, cap, cur, h1, h2, h3⟩
  · exact Or.inl h
  · exact Or.inr ⟨g, cap, cur, h1, Nat.le_trans hb h2, h3⟩
/-- What is kept between two parts: what was taken lies in the row, all that came in the set. -/
def TkS (w : World) (n₀ S M : Nat) (pre : List Pt) (W : World) : Prop :=
  (((Boxed W w.heap.size 61 (.func (.func 44) #[] #[.pointer (some ⟨S, 0, none⟩)]) ∧ (∃ u, Boxed W (w.heap.size + 1 + 1) 9 u) ∧ (∃ u, Boxed W (w.heap.size + 1 + 1 + 1) 9 u) ∧ (∃ u, Boxed W (w.heap.size + 1 + 1 + 1 + 1) 3 u) ∧ Boxed W S 57 (.map (some M))) ∧
    ∃ v, Boxed W (w.heap.size + 1) 33 v ∧ W.ownsRow (w.heap.size + 5) 9 1 v ((pre.map Subtype.val).foldl addL []).length (strs ((pre.map Subtype.val).foldl addL [])) ∧ True) ∧
    W.ownsMap Tryd.prog 9 unitElem M pre.length (setD (pre.map Subtype.val))) ∧ Below n₀ w W
theorem tkS_own {w : World} {n₀ S M B : Nat} (hB : n₀ ≤ B) (hM : M < B) (hn : n₀ ≤ w.heap.size) : OwnFrom B (TkS w n₀ S M) :=
  OwnFrom.and (OwnFrom.and (Own.from (fun s A C row hs hg hr => ⟨⟨boxed_grown hs.1.1 hg hr, hs.1.2.1.imp (fun u h => boxed_grown h hg hr), hs.1.2.2.1.imp (fun u h => boxed_grown h hg hr), hs.1.2.2.2.1.imp (fun u h => boxed_grown h hg hr), boxed_grown hs.1.2.2.2.2 hg hr⟩,
    holdsRow_own (w.heap.size + 5) (w.heap.size + 1) 33 9 1 (fun pre : List Pt => ((pre.map Subtype.val).foldl addL []).length) (fun pre => strs ((pre.map Subtype.val).foldl addL [])) (fun _ _ => True) s A C row hs.2 hg hr⟩) _)
    (fun s A C row hs hg hr => hs.kept hg (fun e => by have := (hr M e.symm).1; omega))) (ownFrom_below hn hB)
theorem tkS_set {w : World} {n₀ S M : Nat} (hS : S < w.heap.size) (hM : M < w.heap.size) (hn : n₀ ≤ w.heap.size) (pre : List Pt) (A : World) (z : Value) (h : TkS w n₀ S M pre A) : TkS w n₀ S M pre (A.setCell ⟨w.heap.size + 1 + 1, 0, none⟩ z) := by
  obtain ⟨⟨⟨⟨k0, ⟨u3, k3⟩, ⟨u4, k4⟩, ⟨u5, k5⟩, kS⟩, v, k1, hrow, -⟩, hm⟩, hB⟩ := h
  exact ⟨⟨⟨⟨k0.other (by omega) _, ⟨_, k3.set z⟩, ⟨_, k4.other (by omega) _⟩, ⟨_, k5.other (by omega) _⟩, kS.other (by omega) _⟩, v, k1.other (by omega) _, hrow.kept (grownBy_setCell' A _ z) (row_off hrow (by omega)), trivial⟩, hm.setCell (by simp; omega) z⟩, hB.setCell (p := ⟨w.heap.size + 1 + 1, 0, none⟩) (by simp; omega) _⟩


set_option maxRecDepth 100000 in
set_option maxHeartbeats 4000000 in
theorem taken_langs (S M n₀ : Nat) (s : ByteArray) (w : World) (hs : s.size ≤ 10000) (hn : n₀ ≤ w.heap.size) (hnM : n₀ ≤ M) (hSw : S < w.heap.size) (hMw : M < w.heap.size) (hne : S ≠ M)
    (hS : Boxed w S 57 (.map (some M))) (hm0 : w.ownsMap Tryd.prog 9 (unitElem (H := Unit)) M 0 (.map [])) :
    Calls Tryd.prog 43 #[.string s, .string ⟨#[44]⟩, .func (.func 44) #[] #[.pointer (some ⟨S, 0, none⟩)]] w fun e w' => ∃ v, e = .returned v ∧ w'.ownsRow n₀ 9 1 v (lgL s.data.toList).length (strs (lgL s.data.toList)) ∧ Below n₀ w w' := by
  refine (callsIn_wide (n := 3)).1 ?_
  refine callsIn_of_wp_marks Tryd.func43 rfl trivial ?_ rfl
  simp only [Tryd.ntmps43, List.size_toArray, List.length_cons, List.length_nil, Nat.reduceAdd, Nat.reduceSub, Array.replicate_succ, Array.replicate_zero, List.push_toArray, List.append_toArray, List.nil_append, List.cons_append]
  gi_wp2
  refine ⟨trivial, ?_⟩
  refine (callsIn_wide.2 (SplitSeq_any _ _ _)).mono ?_
  rintro e w1 ⟨rfl, rfl⟩
  gi_wp2
  have hB0 : Below w.heap.size w (((((w.alloc (.cells #[.func (.func 44) #[] #[.pointer (some ⟨S, 0, none⟩)]] 61)).alloc (.cells #[.slice none 0 0] 33)).alloc (.cells #[.string s] 9)).alloc (.cells #[.string ⟨#[44]⟩] 9)).alloc (.cells #[.int .i64 0] 3)) :=
    (((((Below.refl _ w).alloc (Nat.le_refl _) _).alloc (by simp) _).alloc (by simp; omega) _).alloc (by simp; omega) _).alloc (by simp; omega) _
  have b0 : Boxed (((((w.alloc (.cells #[.func (.func 44) #[] #[.pointer (some ⟨S, 0, none⟩)]] 61)).alloc (.cells #[.slice none 0 0] 33)).alloc (.cells #[.string s] 9)).alloc (.cells #[.string ⟨#[44]⟩] 9)).alloc (.cells #[.int .i64 0] 3)) w.heap.size 61 (.func (.func 44) #[] #[.pointer (some ⟨S, 0, none⟩)]) := ((((Boxed.new w 61 _).alloc _).alloc _).alloc _).alloc _
  have b1 : Boxed (((((w.alloc (.cells #[.func (.func 44) #[] #[.pointer (some ⟨S, 0, none⟩)]] 61)).alloc (.cells #[.slice none 0 0] 33)).alloc (.cells #[.string s] 9)).alloc (.cells #[.string ⟨#[44]⟩] 9)).alloc (.cells #[.int .i64 0] 3)) (w.heap.size + 1) 33 (.slice none 0 0) := by
    have := Boxed.new (w.alloc (.cells #[.func (.func 44) #[] #[.pointer (some ⟨S, 0, none⟩)]] 61)) 33 (.slice none 0 0)
    rw [World.size_alloc] at this
    exact ((this.alloc _).alloc _).alloc _
  have b2 : Boxed (((((w.alloc (.cells #[.func (.func 44) #[] #[.pointer (some ⟨S, 0, none⟩)]] 61)).alloc (.cells #[.slice none 0 0] 33)).alloc (.cells #[.string s] 9)).alloc (.cells #[.string ⟨#[44]⟩] 9)).alloc (.cells #[.int .i64 0] 3)) (w.heap.size + 1 + 1) 9 (.string s) := by
    have := Boxed.new ((w.alloc (.cells #[.func (.func 44) #[] #[.pointer (some ⟨S, 0, none⟩)]] 61)).alloc (.cells #[.slice none 0 0] 33)) 9 (.string s)
    rw [World.size_alloc, World.size_alloc] at this
    exact (this.alloc _).alloc _
  have b3 : Boxed (((((w.alloc (.cells #[.func (.func 44) #[] #[.pointer (some ⟨S, 0, none⟩)]] 61)).alloc (.cells #[.slice none 0 0] 33)).alloc (.cells #[.string s] 9)).alloc (.cells #[.string ⟨#[44]⟩] 9)).alloc (.cells #[.int .i64 0] 3)) (w.heap.size + 1 + 1 + 1) 9 (.string ⟨#[44]⟩) := by
    have := Boxed.new (((w.alloc (.cells #[.func (.func 44) #[] #[.pointer (some ⟨S, 0, none⟩)]] 61)).alloc (.cells #[.slice none 0 0] 33)).alloc (.cells #[.string s] 9)) 9 (.string ⟨#[44]⟩)
    rw [World.size_alloc, World.size_alloc, World.size_alloc] at this
    exact this.alloc _
  have b4 : Boxed (((((w.alloc (.cells #[.func (.func 44) #[] #[.pointer (some ⟨S, 0, none⟩)]] 61)).alloc (.cells #[.slice none 0 0] 33)).alloc (.cells #[.string s] 9)).alloc (.cells #[.string ⟨#[44]⟩] 9)).alloc (.cells #[.int .i64 0] 3)) (w.heap.size + 1 + 1 + 1 + 1) 3 (.int .i64 0) := by
    have := Boxed.new ((((w.alloc (.cells #[.func (.func 44) #[] #[.pointer (some ⟨S, 0, none⟩)]] 61)).alloc (.cells #[.slice none 0 0] 33)).alloc (.cells #[.string s] 9)).alloc (.cells #[.string ⟨#[44]⟩] 9)) 3 (.int .i64 0)
    rw [World.size_alloc, World.size_alloc, World.size_alloc, World.size_alloc] at this
    exact this
  have bS : Boxed (((((w.alloc (.cells #[.func (.func 44) #[] #[.pointer (some ⟨S, 0, none⟩)]] 61)).alloc (.cells #[.slice none 0 0] 33)).alloc (.cells #[.string s] 9)).alloc (.cells #[.string ⟨#[44]⟩] 9)).alloc (.cells #[.int .i64 0] 3)) S 57 (.map (some M)) := ((((hS.alloc _).alloc _).alloc _).alloc _).alloc _
  have bM : World.ownsMap (H := Unit) (((((w.alloc (.cells #[.func (.func 44) #[] #[.pointer (some ⟨S, 0, none⟩)]] 61)).alloc (.cells #[.slice none 0 0] 33)).alloc (.cells #[.string s] 9)).alloc (.cells #[.string ⟨#[44]⟩] 9)).alloc (.cells #[.int .i64 0] 3)) Tryd.prog 9 unitElem M 0 (.map []) := ((((hm0.alloc _).alloc _).alloc _).alloc _).alloc _
  have hsz : ((((((w.alloc (.cells #[.func (.func 44) #[] #[.pointer (some ⟨S, 0, none⟩)]] 61)).alloc (.cells #[.slice none 0 0] 33)).alloc (.cells #[.string s] 9)).alloc (.cells #[.string ⟨#[44]⟩] 9)).alloc (.cells #[.int .i64 0] 3))).heap.size = w.heap.size + 5 := by simp
  generalize (((((w.alloc (.cells #[.func (.func 44) #[] #[.pointer (some ⟨S, 0, none⟩)]] 61)).alloc (.cells #[.slice none 0 0] 33)).alloc (.cells #[.string s] 9)).alloc (.cells #[.string ⟨#[44]⟩] 9)).alloc (.cells #[.int .i64 0] 3)) = W0 at hB0 b0 b1 b2 b3 b4 bS bM hsz ⊢
  have hTr : Trio (w.heap.size + 1 + 1) 44 s W0 := ⟨b2, b3, b4⟩
  have hBn : Below n₀ w W0 := hB0.mono hn
  refine over_cell rfl (by omega) (gf := 69) (lb := #[.pointer (some ⟨w.heap.size + 1 + 1 + 1, 0, none⟩), .pointer (some ⟨w.heap.size + 1 + 1, 0, none⟩), .pointer (some ⟨w.heap.size + 1 + 1 + 1 + 1, 0, none⟩)]) rfl trivial (enters_of Tryd.func69 (by kernel_rfl) rfl)
    (splits _ (by omega) (w.heap.size + 1 + 1) 44 s hs) (by omega) Kp3.trans (Kp3.put (by omega)) (fun W hW => hTr.below hW) (fun _ => rfl)
    (TkS w n₀ S M) (tkS_own (by omega) (by omega) hn) (tkS_set hSw hMw hn) ⟨⟨⟨⟨b0, ⟨_, b2⟩, ⟨_, b3⟩, ⟨_, b4⟩, bS⟩, _, b1, World.ownsRow_nil _ _ _ _, trivial⟩, bM⟩, hBn⟩
    (fun x => { tmps := #[.string s, .string ⟨#[44]⟩, .func (.func 44) #[] #[.pointer (some ⟨S, 0, none⟩)], undef, undef, .pointer (some ⟨w.heap.size, 0, none⟩), .slice none 0 0, .pointer (some ⟨w.heap.size + 1, 0, none⟩), .string (bs x.1), undef, undef, .string s, .string ⟨#[44]⟩, .func (.func 69) #[] #[.pointer (some ⟨w.heap.size + 1 + 1 + 1, 0, none⟩), .pointer (some ⟨w.heap.size + 1 + 1, 0, none⟩), .pointer (some ⟨w.heap.size + 1 + 1 + 1 + 1, 0, none⟩)], .string (bs x.1), undef, undef, undef, undef, undef, undef, undef, undef, undef, undef, undef, undef], defers := [] }) ?assign ?body ?done
  case assign =>
    intro l x W K hK
    simp only [encP]
    gi_wp2
    exact hK
  case body =>
    rintro l pre x W ⟨⟨⟨⟨k0, ⟨u3, k3⟩, ⟨u4, k4⟩, ⟨u5, k5⟩, kS⟩, v, k1, hrow, -⟩, hm⟩, hB⟩ hlt
    have hpl : pre.length ≤ 10001 := by
      have h2 := splB_len 44 s.data.toList
      rw [size_list] at h2
      omega
    have hll : ((pre.map Subtype.val).foldl addL []).length ≤ 10001 := by
      have := add_count (pre.map Subtype.val)
      rw [List.length_map] at this; omega
    have hfo := lang1_any x.1 S M pre.length (setD (pre.map Subtype.val)) W x.2 kS.cell (by omega) hm hne
    rw [← setD_snoc] at hfo
    have HN := hide (add_next (pre.map Subtype.val) x.1)
    have HL1 : Hid ((pre ++ [x]).map Subtype.val = pre.map Subtype.val ++ [x.1]) := by unfold Hid; rw [List.map_append]; rfl
    have HP : Hid ((pre ++ [x]).length = pre.length + 1) := by unfold Hid; simp
    change Calls _ _ _ _ (fun e w' => e = .returned (.tuple #[.string (bs (lP x.1)), .bool (okL (pre.map Subtype.val) x.1)]) ∧ _) at hfo
    have hwn : n₀ ≤ W.heap.size := by have := hB.size; omega
    generalize okL (pre.map Subtype.val) x.1 = ok at hfo HN
    generalize (pre.map Subtype.val).foldl addL [] = L at hrow HN hll
    have HFO := hide hfo
    clear hfo hlt
    have c0 := k0.cell
    gi_wp2
    refine ⟨trivial, ?_⟩
    refine (CallsIn.inRound l (callsIn_wide.2 HFO.out)).mono ?_
    rintro e w1 ⟨rfl, hm1, hg1⟩
    have hb1 : Below n₀ w w1 := hB.grown hg1 hwn (fun j e => by cases e; exact hnM)
    have j0 := k0.kept hg1 (fun e => by cases e; omega)
    have j1 := k1.kept hg1 (fun e => by cases e; omega)
    have j3 := k3.kept hg1 (fun e => by cases e; omega)
    have j4 := k4.kept hg1 (fun e => by cases e; omega)
    have j5 := k5.kept hg1 (fun e => by cases e; omega)
    have jS := kS.kept hg1 (fun e => by cases e; omega)
    have hrow1 := hrow.kept hg1 (row_off hrow (by omega))
    have hKF : KeepsFrom W0.heap.size W w1 := KeepsFrom.of_grownBy hg1 (fun j e => by cases e; omega)
    obtain ⟨a, cap, rfl, -, -⟩ := row_shape hrow1
    have hsz1 := hg1.size
    have hok0 : ok = false ∨ ok = true := by cases ok <;> simp
    rcases hok0 with rfl | rfl
    · have HL2 : Hid (((pre ++ [x]).map Subtype.val).foldl addL [] = L) := by unfold Hid; rw [HL1.out, HN.out]; simp
      gi_wp2
      show KeepsFrom _ W _ ∧ Kp3 _ W _ ∧ TkS w n₀ S M (pre ++ [x]) _
      refine ⟨hKF, ⟨j3.trans (Eq.symm k3), j4.trans (Eq.symm k4), j5.trans (Eq.symm k5)⟩, ⟨⟨⟨j0, ⟨_, j3⟩, ⟨_, j4⟩, ⟨_, j5⟩, jS⟩, _, j1, ?_, trivial⟩, ?_⟩, hb1⟩
      · rw [HL2.out]; exact hrow1
      · rw [HL1.out, HP.out]; exact hm1
    · have HL2 : Hid (((pre ++ [x]).map Subtype.val).foldl addL [] = L ++ [lP x.1]) := by unfold Hid; rw [HL1.out, HN.out]; simp
      have c1 := j1.cell
      have f1 := j1.frozen
      obtain ⟨i0, hi0, hz0, hz1, hz2⟩ := info_parts Tryd.info9
      generalize hz : bs (lP x.1) = z at *
      have hj5 := j5.lt
      gi_wp2_with (gi_at_builtin; refine wpListIn_append_own _ rfl _ _ 33 rfl (w.heap.size + 5) 9 i0 _ 1 16 Tryd.underlying33 hi0 hz0 hz1 hz2 rfl (by decide) _ _ _ rfl (hrow1.alloc (.cells #[.string z] 9)) ⟨w1.heap.size, 0, none⟩ 1 1 [.string z] rfl rfl (cell_one_new _ _ _) (by intro u hu; simp at hu; subst hu; rfl) (maxLen_of (by omega)) (by omega) (by simp; omega) ?_; intro v' w4 hown' hgrow _; obtain ⟨g', cap', rfl⟩ := ownsRow_succ hown'; obtain ⟨hv1, hv2, -, hk2, hb2⟩ := j1.appended (n₀ := n₀) (by decide) (row_mono hrow1 (by omega)) (by omega) (by omega) (row_mono hown' (by omega)) hgrow; have hc1 := hv1.cell; have hf1 := hv1.frozen)
      have hgr : (w1.alloc (.cells #[.string z] 9)).grownBy w4 (Value.slice a L.length cap).ownBlock := hgrow
      have p0 := ((j0.alloc (.cells #[.string z] 9)).kept hgr (ne_row hrow1 (by omega))).other (B' := w.heap.size + 1) (by omega) (.slice (some ⟨g', 0, none⟩) (L.length + 1) cap')
      have p3 := ((j3.alloc (.cells #[.string z] 9)).kept hgr (ne_row hrow1 (by omega))).other (B' := w.heap.size + 1) (by omega) (.slice (some ⟨g', 0, none⟩) (L.length + 1) cap')
      have p4 := ((j4.alloc (.cells #[.string z] 9)).kept hgr (ne_row hrow1 (by omega))).other (B' := w.heap.size + 1) (by omega) (.slice (some ⟨g', 0, none⟩) (L.length + 1) cap')
      have p5 := ((j5.alloc (.cells #[.string z] 9)).kept hgr (ne_row hrow1 (by omega))).other (B' := w.heap.size + 1) (by omega) (.slice (some ⟨g', 0, none⟩) (L.length + 1) cap')
      have pS := ((jS.alloc (.cells #[.string z] 9)).kept hgr (ne_row hrow1 (by omega))).other (B' := w.heap.size + 1) (by omega) (.slice (some ⟨g', 0, none⟩) (L.length + 1) cap')
      have pM := ((hm1.alloc (.cells #[.string z] 9)).kept hgr (ne_row hrow1 (by omega))).setCell (a := ⟨w.heap.size + 1, 0, none⟩) (by simp; omega) (.slice (some ⟨g', 0, none⟩) (L.length + 1) cap')
      have pR := hown'.kept (grownBy_setCell' w4 (w.heap.size + 1) (.slice (some ⟨g', 0, none⟩) (L.length + 1) cap')) (row_off hown' (by omega))
      show KeepsFrom _ W _ ∧ Kp3 _ W _ ∧ TkS w n₀ S M (pre ++ [x]) _
      refine ⟨hKF.trans (hk2.from _), ⟨p3.trans (Eq.symm k3), p4.trans (Eq.symm k4), p5.trans (Eq.symm k5)⟩, ⟨⟨⟨p0, ⟨_, p3⟩, ⟨_, p4⟩, ⟨_, p5⟩, pS⟩, _, hv2, ?_, trivial⟩, ?_⟩, hb1.trans hb2⟩
      · rw [HL2.out, strs_append, List.length_append]
        rw [show strs [lP x.1] = [.string z] from by rw [← hz]; rfl]
        exact pR
      · rw [HL1.out, HP.out]; exact pM
  case done =>
    rintro D ys W hD hys ⟨⟨⟨⟨k0, ⟨u3, k3⟩, ⟨u4, k4⟩, ⟨u5, k5⟩, kS⟩, v, k1, hrow, -⟩, hm⟩, hB⟩ hK
    rw [hys] at hrow
    have c1 := k1.cell
    gi_wp2
    refine ⟨by simp, .inl ⟨_, _, rfl, run_takeDeferred hK, ?_⟩⟩
    refine ⟨v, by simp [results, Tryd.results43, go_sem], v, rfl, ownsRow_putObj (row_mono hrow (by omega)) _ hK rfl, ?_⟩
    exact hB.trans (belowK_b (w := w) hn _ D _ _ (by omega) hK rfl rfl)

set_option maxRecDepth 100000 in
set_option maxHeartbeats 1000000 in
theorem languages_any (s : ByteArray) (w : World) (hs : s.size ≤ 10000) :
    Calls Tryd.prog 20 #[.string s] w fun e w' => ∃ v, e = .returned v ∧ w'.ownsRow w.heap.size 9 1 v (lgL s.data.toList).length (strs (lgL s.data.toList)) ∧ Below w.heap.size w w' := by
  have hmm := @run_makeMap Tryd.prog
  have hm0 : (w.alloc (.map #[] 0)).ownsMap Tryd.prog 9 (unitElem (H := Unit)) w.heap.size 0 (.map []) := World.ownsMap_made w Tryd.prog 9 unitElem
  have hb0 : Below w.heap.size w (w.alloc (.map #[] 0)) := (Below.refl _ _).alloc (Nat.le_refl _) _
  have hm1 := hm0.alloc (.cells #[.map (some w.heap.size)] 57)
  have hb1 := hb0.alloc hb0.size (.cells #[.map (some w.heap.size)] 57)
  have hS : Boxed ((w.alloc (.map #[] 0)).alloc (.cells #[.map (some w.heap.size)] 57)) (w.heap.size + 1) 57 (.map (some w.heap.size)) := by
    have := Boxed.new (w.alloc (.map #[] 0)) 57 (.map (some w.heap.size))
    rw [World.size_alloc] at this
    exact this
  have hsz : ((w.alloc (.map #[] 0)).alloc (.cells #[.map (some w.heap.size)] 57)).heap.size = w.heap.size + 2 := by simp
  have hc := taken_langs (w.heap.size + 1) w.heap.size w.heap.size s _ hs (by omega) (Nat.le_refl _) (by omega) (by omega) (by omega) hS hm1
  clear hm0 hm1 hb0 hS hsz
  go_enter Tryd.func20, Tryd.ntmps20
  go_wp2_with fail
  refine hc.mono ?_
  rintro e w1 ⟨v, rfl, ho, hb⟩
  go_wp2_with fail
  go_ret
  exact ⟨v, rfl, ho, hb1.trans hb⟩

end Go.Proofs.YtgnpeggffeoenaaDoor
