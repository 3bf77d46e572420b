/- The walk of what tells where a head ends. -/
import Derived.Test.YteeipaijdoneeaaIt
import Derived.RangeFuncBox
namespace Go.Proofs.Yteeipaijdoneeaa
set_option linter.unusedVariables false
set_option linter.unusedSimpArgs false
open Go.RowKit Go.Shelf

attribute [local go_sem] Oper.semAt_some

theorem boxed_below {W W' : World} {B n₀ : Nat} {t : TypeId} {v : Value} (h : Boxed W B t v) (hb : Below W.heap.size W W') : Boxed W' B t v := (hb.block B h.lt).trans h
theorem keeps_below {W W' : World} (h : Below W.heap.size W W') : KeepsOthers W W' := ⟨h.size, fun k o hk _ => (h.block k (Array.getElem?_eq_some_iff.1 hk).1).trans hk⟩

theorem enA_none : ∀ {ls : List (List UInt8 × Nat)}, (∀ x ∈ ls, x.1.isEmpty = false) → enA ls = none
  | [], _ => rfl
  | x :: r, h => by rw [enA, if_neg (by rw [h x (by simp)]; decide)]; exact enA_none (fun y hy => h y (by simp [hy]))
theorem enA_some : ∀ {q r : List (List UInt8 × Nat)} {x : List UInt8 × Nat}, (∀ y ∈ q, y.1.isEmpty = false) → x.1.isEmpty = true → enA (q ++ x :: r) = some x.2
  | [], r, x, _, hx => by rw [List.nil_append, enA, if_pos hx]
  | y :: q, r, x, h, hx => by rw [List.cons_append, enA, if_neg (by rw [h y (by simp)]; decide)]; exact enA_some (fun z hz => h z (by simp [hz])) hx

theorem put_box {W : World} {B D : Nat} {t : TypeId} {v : Value} {o o' : Obj} (h : Boxed W B t v) (hK : W.heap[D]? = some o) (ho : o.isCells = false) : Boxed (W.putObj D o') B t v := by
  have hne : D ≠ B := fun e => by subst e; rw [show W.heap[D]? = _ from h] at hK; cases hK; cases ho
  exact (World.putObj_heap_other (fun e => hne e.symm)).trans h
theorem bs_toList (l : List UInt8) : (bs l).toList = l := by rw [ByteArray.toList_eq, bs_list]

/-- What End keeps between two lines, and what it leaves with. -/
def EnI (w : World) (pre : List Ln) (W : World) : Prop := ((∀ x ∈ pre, x.1.1.isEmpty = false) ∧ Boxed W w.heap.size 3 (.int .i64 0) ∧ Boxed W (w.heap.size + 1) 24 (.int .i64 0)) ∧ Below w.heap.size w W
def EnX (w : World) (c : Code) (pre : List Ln) (W : World) : Prop := (c = .ret ∧ ∃ (q : List Ln) (x : Ln), pre = q ++ [x] ∧ (∀ y ∈ q, y.1.1.isEmpty = false) ∧ x.1.1.isEmpty = true ∧ Boxed W w.heap.size 3 (.int .i64 (x.1.2 : Int)) ∧ Boxed W (w.heap.size + 1) 24 (.int .i64 0)) ∧ Below w.heap.size w W

theorem boxed_grown {W W' : World} {row : Option Nat} {B : Nat} {t : TypeId} {v : Value} (h : Boxed W B t v) (hg : W.grownBy W' row) (hr : ∀ r, row = some r → ∃ o : Obj, W.heap[r]? = some o ∧ o.isCells = false) : Boxed W' B t v :=
  h.kept hg (fun e => by obtain ⟨o, ho, hc⟩ := hr B e.symm; rw [show W.heap[B]? = _ from h] at ho; cases ho; cases hc)
theorem enI_own {w : World} {B : Nat} (hB : w.heap.size ≤ B) : OwnFrom B (EnI w) :=
  OwnFrom.and (Own.from (fun s A C row hs hg hr => ⟨hs.1, boxed_grown hs.2.1 hg hr, boxed_grown hs.2.2 hg hr⟩) _) (ownFrom_below (Nat.le_refl _) hB)
theorem enX_own {w : World} {B : Nat} (hB : w.heap.size ≤ B) : ∀ c, OwnFrom B (EnX w c) := fun c =>
  OwnFrom.and (Own.from (fun s A C row hs hg hr => by
    obtain ⟨h1, q, x, h2, h3, h4, h5, h6⟩ := hs
    exact ⟨h1, q, x, h2, h3, h4, boxed_grown h5 hg hr, boxed_grown h6 hg hr⟩) _) (ownFrom_below (Nat.le_refl _) hB)

set_option maxRecDepth 100000 in
set_option maxHeartbeats 4000000 in
theorem end_any (s : ByteArray) (w : World) (hs : s.size ≤ 10000) :
    Calls Try.prog 11 #[.string s] w fun e w' => e = .returned (.tuple #[.int .i64 (enU s.data.toList).1, .int .i64 (enU s.data.toList).2]) ∧ Below w.heap.size w w' := by
  obtain ⟨m, hm⟩ : ∃ m : Nat, (m : Int) = min (s.size : Int) 4000 := ⟨min s.size 4000, by omega⟩
  have hm1 : (m : Int) ≤ s.size := by omega
  have hm2 : m ≤ 4000 := by omega
  obtain ⟨t, ht⟩ : ∃ t, s.extract 0 m = t := ⟨_, rfl⟩
  have htl : t.data.toList = s.data.toList.take 4000 := by
    rw [← ht, ext_take]
    by_cases h : s.size ≤ 4000
    · rw [List.take_of_length_le (by rw [size_list]; omega), List.take_of_length_le (by rw [size_list]; omega)]
    · rw [show m = 4000 by omega]
  have hts : t.size ≤ 10000 := by rw [← ht, ByteArray.size_extract]; omega
  have HE : Hid (enU s.data.toList = enV s.size (enA (lns 0 t.data.toList))) := by unfold Hid enU; rw [htl, size_list]
  clear htl
  have hmin : min (s.size : Int) 4000 = m := hm.symm
  clear hm
  refine (callsIn_wide (n := 3)).1 ?_
  refine callsIn_of_wp_marks Try.func11 rfl trivial ?_ rfl
  simp only [Try.ntmps11, List.size_toArray, List.length_cons, List.length_nil, Nat.reduceAdd, Nat.reduceSub, Array.replicate_succ, Array.replicate_zero, List.push_toArray, List.append_toArray, List.nil_append, List.cons_append]
  gi_wp2
  refine ⟨trivial, ?_⟩
  refine (callsIn_wide.2 (lines_any _ _)).mono ?_
  rintro e w1 ⟨rfl, rfl⟩
  gi_wp2
  have hB0 : Below w.heap.size w (((w.alloc (.cells #[.int .i64 0] 3)).alloc (.cells #[.int .i64 0] 24)).alloc (.cells #[.string t] 9)) := (((Below.refl _ w).alloc (Nat.le_refl _) _).alloc (by simp) _).alloc (by simp; omega) _
  have b0 : Boxed (((w.alloc (.cells #[.int .i64 0] 3)).alloc (.cells #[.int .i64 0] 24)).alloc (.cells #[.string t] 9)) w.heap.size 3 (.int .i64 0) := ((Boxed.new w 3 _).alloc _).alloc _
  have b1 : Boxed (((w.alloc (.cells #[.int .i64 0] 3)).alloc (.cells #[.int .i64 0] 24)).alloc (.cells #[.string t] 9)) (w.heap.size + 1) 24 (.int .i64 0) := by
    have := Boxed.new (w.alloc (.cells #[.int .i64 0] 3)) 24 (.int .i64 0)
    rw [World.size_alloc] at this
    exact this.alloc _
  have b2 : Boxed (((w.alloc (.cells #[.int .i64 0] 3)).alloc (.cells #[.int .i64 0] 24)).alloc (.cells #[.string t] 9)) (w.heap.size + 1 + 1) 9 (.string t) := by
    have := Boxed.new ((w.alloc (.cells #[.int .i64 0] 3)).alloc (.cells #[.int .i64 0] 24)) 9 (.string t)
    rw [World.size_alloc, World.size_alloc] at this
    exact this
  have hsz : (((w.alloc (.cells #[.int .i64 0] 3)).alloc (.cells #[.int .i64 0] 24)).alloc (.cells #[.string t] 9)).heap.size = w.heap.size + 3 := by simp
  generalize (((w.alloc (.cells #[.int .i64 0] 3)).alloc (.cells #[.int .i64 0] 24)).alloc (.cells #[.string t] 9)) = W0 at hB0 b0 b1 b2 hsz ⊢
  refine wpIn_rangeFunc_ownG rfl (by omega) (gf := 30) (lb := #[.pointer (some ⟨w.heap.size + 1 + 1, 0, none⟩)]) rfl trivial (enters_of Try.func30 (by kernel_rfl) rfl)
    (lines_stops _ (by omega) (w.heap.size + 1 + 1) t hts W0 (by omega) b2) kpB_t (kpB_b (by omega)) (Below.refl _ _) (fun _ => rfl)
    (EnI w) (EnX w) (enI_own (by omega)) (enX_own (by omega)) ⟨⟨by simp, b0, b1⟩, hB0⟩
    (fun x => { tmps := #[.string s, undef, .pointer (some ⟨w.heap.size, 0, none⟩), .pointer (some ⟨w.heap.size + 1, 0, none⟩), .string (bs x.1.1), .int .i64 (x.1.2 : Int), .string s, .string s, .int .i64 s.size, .int .i64 m, .string t, .func (.func 30) #[] #[.pointer (some ⟨w.heap.size + 1 + 1, 0, none⟩)], .string (bs x.1.1), .int .i64 (x.1.2 : Int), undef, undef, undef, undef, undef, undef], defers := [] }) ?assign ?body ?done ?stop
  case assign =>
    intro l x W K hK
    simp only [encL]
    gi_wp2
    exact hK
  case body =>
    rintro l pre x W ⟨⟨hp, k0, k1⟩, hB⟩ hlt
    have c0 := k0.cell
    have f0 := k0.frozen
    have c1 := k1.cell
    have f1 := k1.frozen
    gi_wp2
    · rename_i hx
      rw [bs_toList] at hx
      have e0 := k0.set (.int .i64 (x.1.2 : Int))
      have e1 := (k1.other (B' := w.heap.size) (by omega) (.int .i64 (x.1.2 : Int))).set (.int .i64 0)
      exact ⟨((KeepsOthers.setCell _ _ _).trans (KeepsOthers.setCell _ _ _)).from _, ⟨rfl, pre, x, rfl, hp, hx, e0.other (by omega) _, e1⟩, (hB.setCell (p := ⟨w.heap.size, 0, none⟩) (Nat.le_refl _) _).setCell (p := ⟨w.heap.size + 1, 0, none⟩) (by simp) _⟩
    · rename_i hx
      rw [bs_toList] at hx
      refine ⟨KeepsFrom.refl _ _, rfl, ⟨?_, k0, k1⟩, hB⟩
      intro y hy
      rcases List.mem_append.1 hy with hy | hy
      · exact hp y hy
      · obtain rfl : y = x := by simpa using hy
        simpa using hx
  case done =>
    rintro D ys W hD hys ⟨⟨hp, k0, k1⟩, hB⟩ hK
    have hN : enA (lns 0 t.data.toList) = none := by
      rw [← hys]
      refine enA_none ?_
      intro z hz
      obtain ⟨y, hy, rfl⟩ := List.mem_map.1 hz
      exact hp y hy
    rw [hN] at HE
    have c0 := k0.cell
    have f0 := k0.frozen
    have c1 := k1.cell
    have f1 := k1.frozen
    by_cases h4 : 4000 < s.size
    · have h4z : (4000 : Int) < (s.size : Int) := by omega
      have HV : Hid (enU s.data.toList = (0, 2)) := by unfold Hid; rw [HE.out, enV, if_pos h4]
      gi_wp2
      have e0 := (k0.set (.int .i64 0)).other (B' := w.heap.size + 1) (by omega) (.int .i64 2)
      have e1 := (k1.other (B' := w.heap.size) (by omega) (.int .i64 0)).set (.int .i64 2)
      have hB' := (hB.setCell (p := ⟨w.heap.size, 0, none⟩) (Nat.le_refl _) (.int .i64 0)).setCell (p := ⟨w.heap.size + 1, 0, none⟩) (by simp) (.int .i64 2)
      have hK' := ((KeepsOthers.setCell W ⟨w.heap.size, 0, none⟩ (.int .i64 0)).trans (KeepsOthers.setCell _ ⟨w.heap.size + 1, 0, none⟩ (.int .i64 2))).same D _ hK rfl
      refine ⟨by simp, .inl ⟨_, _, rfl, run_takeDeferred hK', ?_⟩⟩
      have g0 := (put_box (o' := .deferred none) e0 hK' rfl).cell
      have g1 := (put_box (o' := .deferred none) e1 hK' rfl).cell
      refine ⟨.tuple #[.int .i64 0, .int .i64 2], ?_, ?_, ?_⟩
      · simp [results, Try.results11, go_sem, g0, g1]
      · rw [HV.out]
      · exact hB'.trans (belowK_b (w := w) (Nat.le_refl _) _ D _ _ (by omega) hK' rfl rfl)
    · have h4d : decide ((4000 : Int) < (s.size : Int)) = false := decide_eq_false (by omega)
      have HV : Hid (enU s.data.toList = (0, 3)) := by unfold Hid; rw [HE.out, enV, if_neg h4]
      gi_wp2
      have e0 := (k0.set (.int .i64 0)).other (B' := w.heap.size + 1) (by omega) (.int .i64 3)
      have e1 := (k1.other (B' := w.heap.size) (by omega) (.int .i64 0)).set (.int .i64 3)
      have hB' := (hB.setCell (p := ⟨w.heap.size, 0, none⟩) (Nat.le_refl _) (.int .i64 0)).setCell (p := ⟨w.heap.size + 1, 0, none⟩) (by simp) (.int .i64 3)
      have hK' := ((KeepsOthers.setCell W ⟨w.heap.size, 0, none⟩ (.int .i64 0)).trans (KeepsOthers.setCell _ ⟨w.heap.size + 1, 0, none⟩ (.int .i64 3))).same D _ hK rfl
      refine ⟨by simp, .inl ⟨_, _, rfl, run_takeDeferred hK', ?_⟩⟩
      have g0 := (put_box (o' := .deferred none) e0 hK' rfl).cell
      have g1 := (put_box (o' := .deferred none) e1 hK' rfl).cell
      refine ⟨.tuple #[.int .i64 0, .int .i64 3], ?_, ?_, ?_⟩
      · simp [results, Try.results11, go_sem, g0, g1]
      · rw [HV.out]
      · exact hB'.trans (belowK_b (w := w) (Nat.le_refl _) _ D _ _ (by omega) hK' rfl rfl)
  case stop =>
    rintro D c pre W hD hpre ⟨⟨rfl, q, x, rfl, hq, hx, k0, k1⟩, hB⟩ hK
    have HV : Hid (enU s.data.toList = ((x.1.2 : Int), 0)) := by
      obtain ⟨r, hr⟩ := hpre
      unfold Hid
      rw [HE.out, ← hr, List.map_append, List.append_assoc, List.map_cons, List.map_nil, List.singleton_append, enA_some ?_ hx]
      · rfl
      · intro z hz
        obtain ⟨y, hy, rfl⟩ := List.mem_map.1 hz
        exact hq y hy
    gi_wp2
    refine ⟨by simp, .inl ⟨_, _, rfl, run_takeDeferred hK, ?_⟩⟩
    have g0 := (put_box (o' := .deferred none) k0 hK rfl).cell
    have g1 := (put_box (o' := .deferred none) k1 hK rfl).cell
    refine ⟨.tuple #[.int .i64 (x.1.2 : Int), .int .i64 0], ?_, ?_, ?_⟩
    · simp [results, Try.results11, go_sem, g0, g1]
    · rw [HV.out]
    · exact hB.trans (belowK_b (w := w) (Nat.le_refl _) _ D _ _ (by omega) hK rfl rfl)

end Go.Proofs.Yteeipaijdoneeaa
