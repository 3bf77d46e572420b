/- The walk of what reads the lines of a head's fields. -/
import Derived.Test.YteeipaijdoneeaaEn
import Derived.Test.YteeipaijdoneeaaFo
import Derived.Test.YteeipaijdoneeaaWp
namespace Go.Proofs.Yteeipaijdoneeaa
set_option linter.unusedVariables false
set_option linter.unusedSimpArgs false
open Go.RowKit Go.Shelf

attribute [local go_sem] Oper.semAt_some

def fdX (x : Ln) : Fd := fdL x.1.1
theorem psA_done : ∀ (ls : List Ln) (acc : List Fd), (∀ x ∈ ls, okL x.1.1 = true) → acc.length + ls.length ≤ 40 → psA acc ((ls.map Subtype.val).map Prod.fst) = (acc ++ ls.map fdX, 0)
  | [], acc, _, _ => by simp [psA]
  | x :: r, acc, h, hl => by
    rw [List.map_cons, List.map_cons, psA, if_pos (h x (by simp)), if_neg (by simp at hl; omega), psA_done r _ (fun y hy => h y (by simp [hy])) (by simp at hl ⊢; omega)]
    simp [fdX]
/-- How a line stops all. -/
def Stops (q : List Ln) (x : Ln) (code : Int) : Prop := (okL x.1.1 = false ∧ code = 31) ∨ (okL x.1.1 = true ∧ q.length = 40 ∧ code = 4)
theorem psA_stop {code : Int} : ∀ (q : List Ln) (acc : List Fd) (x : Ln) (r : List (List UInt8)), (∀ y ∈ q, okL y.1.1 = true) → acc.length + q.length ≤ 40 → ((okL x.1.1 = false ∧ code = 31) ∨ (okL x.1.1 = true ∧ acc.length + q.length = 40 ∧ code = 4)) →
    psA acc ((q.map Subtype.val).map Prod.fst ++ x.1.1 :: r) = ([], code)
  | [], acc, x, r, _, hl, hx => by
    rw [List.map_nil, List.map_nil, List.nil_append, psA]
    rcases hx with ⟨h1, rfl⟩ | ⟨h1, h2, rfl⟩
    · rw [if_neg (by rw [h1]; decide)]
    · rw [if_pos h1, if_pos (by simpa using h2)]
  | y :: q, acc, x, r, h, hl, hx => by
    rw [List.map_cons, List.map_cons, List.cons_append, psA, if_pos (h y (by simp)), if_neg (by simp at hl; omega)]
    refine psA_stop q _ x r (fun z hz => h z (by simp [hz])) (by simp at hl ⊢; omega) ?_
    rcases hx with hx | ⟨h1, h2, h3⟩
    · exact Or.inl hx
    · exact Or.inr ⟨h1, by simp at h2 ⊢; omega, h3⟩

/-- What Parse keeps between two lines, and what it leaves with. -/
def PsI (s : ByteArray) (w : World) (pre : List Ln) (W : World) : Prop := (((∀ x ∈ pre, okL x.1.1 = true) ∧ pre.length ≤ 40 ∧ Boxed W w.heap.size 22 (.slice none 0 0) ∧ Boxed W (w.heap.size + 1) 24 (.int .i64 0) ∧ Boxed W (w.heap.size + 1 + 1 + 1) 9 (.string s)) ∧
  ∃ v, Boxed W (w.heap.size + 1 + 1) 22 v ∧ W.ownsRow w.heap.size 38 2 v (pre.map fdX).length (fcells (pre.map fdX)) ∧ True) ∧ Below w.heap.size w W
def PsX (w : World) (c : Code) (pre : List Ln) (W : World) : Prop := (c = .ret ∧ ∃ (q : List Ln) (x : Ln) (code : Int), pre = q ++ [x] ∧ (∀ y ∈ q, okL y.1.1 = true) ∧ q.length ≤ 40 ∧ Stops q x code ∧ Boxed W w.heap.size 22 (.slice none 0 0) ∧ Boxed W (w.heap.size + 1) 24 (.int .i64 code)) ∧ Below w.heap.size w W
theorem psI_own {s : ByteArray} {w : World} {B : Nat} (hB : w.heap.size ≤ B) : OwnFrom B (PsI s w) :=
  OwnFrom.and (Own.from (fun s A C row hs hg hr => ⟨⟨hs.1.1, hs.1.2.1, boxed_grown hs.1.2.2.1 hg hr, boxed_grown hs.1.2.2.2.1 hg hr, boxed_grown hs.1.2.2.2.2 hg hr⟩,
    holdsRow_own w.heap.size (w.heap.size + 1 + 1) 22 38 2 (fun pre : List Ln => (pre.map fdX).length) (fun pre => fcells (pre.map fdX)) (fun _ _ => True) s A C row hs.2 hg hr⟩) _) (ownFrom_below (Nat.le_refl _) hB)
theorem psX_own {w : World} {B : Nat} (hB : w.heap.size ≤ B) : ∀ c, OwnFrom B (PsX w c) := fun c =>
  OwnFrom.and (Own.from (fun s A C row hs hg hr => by
    obtain ⟨h1, q, x, code, h2, h3, h4, h5, h6, h7⟩ := hs
    exact ⟨h1, q, x, code, h2, h3, h4, h5, boxed_grown h6 hg hr, boxed_grown h7 hg hr⟩) _) (ownFrom_below (Nat.le_refl _) hB)

theorem own_set {W : World} {base B : Nat} {t e : TypeId} {size k : Nat} {u v z : Value} {xs : List Value} (h : Boxed W B t u) (hte : t ≠ e) (hr : W.ownsRow base e size v k xs) : (W.setCell ⟨B, 0, none⟩ z).ownsRow base e size v k xs :=
  hr.kept (grownBy_setCell' W B z) (Or.inr (fun e' => Boxed.not_row h hte hr e'.symm))

set_option maxRecDepth 100000 in
set_option maxHeartbeats 4000000 in
theorem parse_any (s : ByteArray) (w : World) (hs : s.size ≤ 10000) :
    Calls Try.prog 9 #[.string s] w fun e w' => ∃ v, e = .returned (.tuple #[v, .int .i64 (psU s.data.toList).2]) ∧ Row w' v (psU s.data.toList).1 ∧ Below w.heap.size w w' := by
  have HZ := hide (size_list s)
  by_cases h4 : 4000 < s.size
  · have h4z : (4000 : Int) < (s.size : Int) := by omega
    have HV : Hid (psU s.data.toList = ([], 2)) := ps_long (by rw [HZ.out]; exact h4)
    go_enter Try.func9, Try.ntmps9
    go_wp2_with fail
    refine bodyPost_ret (v := .tuple #[.slice none 0 0, .int .i64 2]) (by simp [results, Try.results9, go_sem]) rfl ⟨.slice none 0 0, by rw [HV.out], by rw [HV.out]; exact Row.nil _, ?_⟩
    exact ((Below.refl _ w).alloc (Nat.le_refl _) _).alloc (by simp) _
  · have h4d : decide ((4000 : Int) < (s.size : Int)) = false := decide_eq_false (by omega)
    cases he : endsB s.data.toList
    · have HV : Hid (psU s.data.toList = ([], 31)) := by unfold Hid psU; rw [if_neg (by rw [HZ.out]; exact h4), if_neg (by rw [he]; decide)]
      have hne : s.toList.isEmpty = false := by rw [ByteArray.toList_eq]; unfold endsB at he; simp only [Bool.or_eq_false_iff] at he; exact he.1
      have hla : decide (s.data.toList.getLast? = some 10) = false := by unfold endsB at he; simp only [Bool.or_eq_false_iff] at he; exact he.2
      have HS := hide (hasSuffix_ten s)
      rw [hla] at HS
      clear he hla
      go_enter Try.func9, Try.ntmps9
      go_wp2_with fail
      refine (HS.out _ (by omega)).mono ?_
      rintro e w1 ⟨rfl, rfl⟩
      go_wp2_with fail
      refine bodyPost_ret (v := .tuple #[.slice none 0 0, .int .i64 31]) (by simp [results, Try.results9, go_sem]) rfl ⟨.slice none 0 0, by rw [HV.out], by rw [HV.out]; exact Row.nil _, ?_⟩
      exact ((Below.refl _ w).alloc (Nat.le_refl _) _).alloc (by simp) _
    · have HP : Hid (psU s.data.toList = psA [] ((lns 0 s.data.toList).map Prod.fst)) := ps_of (by rw [HZ.out]; omega) he
      cases hne : s.toList.isEmpty
      · have hla : decide (s.data.toList.getLast? = some 10) = true := by
          rw [ByteArray.toList_eq] at hne
          unfold endsB at he
          rw [hne, Bool.false_or] at he
          exact he
        have HS := hide (hasSuffix_ten s)
        rw [hla] at HS
        clear he hla
        refine (callsIn_wide (n := 3)).1 ?_
        refine callsIn_of_wp_marks Try.func9 rfl trivial ?_ rfl
        simp only [Try.ntmps9, List.size_toArray, List.length_cons, List.length_nil, Nat.reduceAdd, Nat.reduceSub, Array.replicate_succ, Array.replicate_zero, List.push_toArray, List.append_toArray, List.nil_append, List.cons_append]
        gi_wp2
        refine ⟨trivial, ?_⟩
        refine (callsIn_wide.2 (HS.out _ (by omega))).mono ?_
        rintro e w1 ⟨rfl, rfl⟩
        gi_wp2
        refine ⟨trivial, ?_⟩
        refine (callsIn_wide.2 (lines_any _ _)).mono ?_
        rintro e w1 ⟨rfl, rfl⟩
        gi_wp2
        have hB0 : Below w.heap.size w ((((w.alloc (.cells #[.slice none 0 0] 22)).alloc (.cells #[.int .i64 0] 24)).alloc (.cells #[.slice none 0 0] 22)).alloc (.cells #[.string s] 9)) := ((((Below.refl _ w).alloc (Nat.le_refl _) _).alloc (by simp) _).alloc (by simp; omega) _).alloc (by simp; omega) _
        have b0 : Boxed ((((w.alloc (.cells #[.slice none 0 0] 22)).alloc (.cells #[.int .i64 0] 24)).alloc (.cells #[.slice none 0 0] 22)).alloc (.cells #[.string s] 9)) w.heap.size 22 (.slice none 0 0) := (((Boxed.new w 22 _).alloc _).alloc _).alloc _
        have b1 : Boxed ((((w.alloc (.cells #[.slice none 0 0] 22)).alloc (.cells #[.int .i64 0] 24)).alloc (.cells #[.slice none 0 0] 22)).alloc (.cells #[.string s] 9)) (w.heap.size + 1) 24 (.int .i64 0) := by
          have := Boxed.new (w.alloc (.cells #[.slice none 0 0] 22)) 24 (.int .i64 0)
          rw [World.size_alloc] at this
          exact (this.alloc _).alloc _
        have b2 : Boxed ((((w.alloc (.cells #[.slice none 0 0] 22)).alloc (.cells #[.int .i64 0] 24)).alloc (.cells #[.slice none 0 0] 22)).alloc (.cells #[.string s] 9)) (w.heap.size + 1 + 1) 22 (.slice none 0 0) := by
          have := Boxed.new ((w.alloc (.cells #[.slice none 0 0] 22)).alloc (.cells #[.int .i64 0] 24)) 22 (.slice none 0 0)
          rw [World.size_alloc, World.size_alloc] at this
          exact this.alloc _
        have b3 : Boxed ((((w.alloc (.cells #[.slice none 0 0] 22)).alloc (.cells #[.int .i64 0] 24)).alloc (.cells #[.slice none 0 0] 22)).alloc (.cells #[.string s] 9)) (w.heap.size + 1 + 1 + 1) 9 (.string s) := by
          have := Boxed.new (((w.alloc (.cells #[.slice none 0 0] 22)).alloc (.cells #[.int .i64 0] 24)).alloc (.cells #[.slice none 0 0] 22)) 9 (.string s)
          rw [World.size_alloc, World.size_alloc, World.size_alloc] at this
          exact this
        have hsz : ((((w.alloc (.cells #[.slice none 0 0] 22)).alloc (.cells #[.int .i64 0] 24)).alloc (.cells #[.slice none 0 0] 22)).alloc (.cells #[.string s] 9)).heap.size = w.heap.size + 4 := by simp
        generalize ((((w.alloc (.cells #[.slice none 0 0] 22)).alloc (.cells #[.int .i64 0] 24)).alloc (.cells #[.slice none 0 0] 22)).alloc (.cells #[.string s] 9)) = W0 at hB0 b0 b1 b2 b3 hsz ⊢
        refine wpIn_rangeFunc_ownG rfl (by omega) (gf := 30) (lb := #[.pointer (some ⟨w.heap.size + 1 + 1 + 1, 0, none⟩)]) rfl trivial (enters_of Try.func30 (by kernel_rfl) rfl)
          (lines_stops _ (by omega) (w.heap.size + 1 + 1 + 1) s hs W0 (by omega) b3) kpB_t (kpB_b (by omega)) (Below.refl _ _) (fun _ => rfl)
          (PsI s w) (PsX w) (psI_own (by omega)) (psX_own (by omega)) ⟨⟨⟨by simp, by simp, b0, b1, b3⟩, _, b2, World.ownsRow_nil _ _ _ _, trivial⟩, hB0⟩
          (fun x => { tmps := #[.string s, undef, .pointer (some ⟨w.heap.size, 0, none⟩), .pointer (some ⟨w.heap.size + 1, 0, none⟩), .pointer (some ⟨w.heap.size + 1 + 1, 0, none⟩), .string (bs x.1.1), undef, undef, .string s, .int .i64 s.size, .bool false, .string s, .bool true, .bool true, .string s, .bool true, .bool false, .bool false, .string s, .func (.func 30) #[] #[.pointer (some ⟨w.heap.size + 1 + 1 + 1, 0, none⟩)], .string (bs x.1.1), .int .i64 (x.1.2 : Int), undef, undef, undef, undef, undef, undef, undef, undef, undef, undef, undef, undef, undef, undef, undef], defers := [] }) ?assign ?body ?done ?stop
        case assign =>
          intro l x W K hK
          simp only [encL]
          gi_wp2
          exact hK
        case body =>
          rintro l pre x W ⟨⟨⟨hp, hpl, k0, k1, k3⟩, v, k2, hrow, -⟩, hB⟩ hlt
          have hfo := fieldOf_any (bs x.1.1)
          rw [bs_list, bs_size] at hfo
          have hxl := x.2.1
          have HPO := hide hp
          clear hp
          generalize hf : fdL x.1.1 = f at hfo
          generalize hok : okL x.1.1 = ok at hfo
          unfold fv at hfo
          have HFO := hide hfo
          have HF := hide hf
          have HOK := hide hok
          clear hfo hf hok
          gi_wp2
          refine ⟨trivial, ?_⟩
          refine (CallsIn.inRound l (callsIn_wide.2 (HFO.out W (by omega)))).mono ?_
          rintro e w1 ⟨rfl, hb1⟩
          have hB1 := hB.trans (hb1.mono hB.size)
          have j0 := (boxed_below (n₀ := 0) k0 hb1).alloc (.cells #[.string f.1, .string f.2] 38)
          have j1 := (boxed_below (n₀ := 0) k1 hb1).alloc (.cells #[.string f.1, .string f.2] 38)
          have j2 := (boxed_below (n₀ := 0) k2 hb1).alloc (.cells #[.string f.1, .string f.2] 38)
          have j3 := (boxed_below (n₀ := 0) k3 hb1).alloc (.cells #[.string f.1, .string f.2] 38)
          have hR : w.heap.size ≤ w1.heap.size := hB1.size
          have hrow2 := owns_below hrow (hb1.trans ((one_alloc w1 #[.string f.1, .string f.2] 38).mono hb1.size))
          have hB2 := hB1.alloc hR (.cells #[.string f.1, .string f.2] 38)
          have hKO := (keeps_below hb1).trans (KeepsOthers.alloc w1 (.cells #[.string f.1, .string f.2] 38))
          obtain ⟨a, cap, rfl⟩ : ∃ a cap, v = .slice a (pre.map fdX).length cap := Row.slice (Own.row hrow)
          have HL : Hid ((pre.map fdX).length = pre.length) := by unfold Hid; simp
          generalize hLL : pre.map fdX = L at hrow hrow2 k2 j2 HL
          have c0 := j0.cell
          have f0 := j0.frozen
          have c1 := j1.cell
          have f1 := j1.frozen
          have c2 := j2.cell
          have f2 := j2.frozen
          have m0 : (w1.alloc (.cells #[.string f.1, .string f.2] 38)).cell? ⟨w1.heap.size, 0, none⟩ = some (.string f.1) := by go_simp
          have m1 : (w1.alloc (.cells #[.string f.1, .string f.2] 38)).cell? ⟨w1.heap.size, 1, none⟩ = some (.string f.2) := by go_simp
          have hw2 : w1.heap.size + 1 = (w1.alloc (.cells #[.string f.1, .string f.2] 38)).heap.size := by simp
          have hok0 : ok = false ∨ ok = true := by cases ok <;> simp
          rcases hok0 with rfl | rfl
          · gi_wp2
            have e0 := (j0.set (.slice none 0 0)).other (B' := w.heap.size + 1) (by omega) (.int .i64 31)
            have e1 := (j1.other (B' := w.heap.size) (by omega) (.slice none 0 0)).set (.int .i64 31)
            exact ⟨(hKO.trans ((KeepsOthers.setCell _ _ _).trans (KeepsOthers.setCell _ _ _))).from _, ⟨rfl, pre, x, 31, rfl, HPO.out, hpl, Or.inl ⟨HOK.out, rfl⟩, e0, e1⟩, (hB2.setCell (p := ⟨w.heap.size, 0, none⟩) (Nat.le_refl _) _).setCell (p := ⟨w.heap.size + 1, 0, none⟩) (by simp) _⟩
          · by_cases h40 : L.length = 40
            · have h40z : ((L.length : Int) == 40) = true := by rw [h40]; rfl
              gi_wp2
              have e0 := (j0.set (.slice none 0 0)).other (B' := w.heap.size + 1) (by omega) (.int .i64 4)
              have e1 := (j1.other (B' := w.heap.size) (by omega) (.slice none 0 0)).set (.int .i64 4)
              exact ⟨(hKO.trans ((KeepsOthers.setCell _ _ _).trans (KeepsOthers.setCell _ _ _))).from _, ⟨rfl, pre, x, 4, rfl, HPO.out, hpl, Or.inr ⟨HOK.out, by rw [← HL.out]; exact h40, rfl⟩, e0, e1⟩, (hB2.setCell (p := ⟨w.heap.size, 0, none⟩) (Nat.le_refl _) _).setCell (p := ⟨w.heap.size + 1, 0, none⟩) (by simp) _⟩
            · have h40z : ((L.length : Int) == 40) = false := by rw [beq_eq_false_iff_ne]; omega
              have hLm : L.length ≤ 40 := by rw [HL.out]; exact hpl
              obtain ⟨i0, hi0, hz0, hz1, hz2⟩ := info_parts Try.info38
              generalize hG : (w1.alloc (.cells #[.string f.1, .string f.2] 38)) = w2 at *
              gi_wp2_with (gi_at_builtin; refine wpListIn_append_own _ rfl _ _ 22 rfl w.heap.size 38 i0 _ 2 32 Try.underlying22 hi0 hz0 hz1 hz2 rfl (by decide) _ _ _ rfl (hrow2.alloc (.cells #[.string f.1, .string f.2] 38)) ⟨w2.heap.size, 0, none⟩ 1 1 [.string f.1, .string f.2] rfl rfl (two_new w2 _ _ 38) (fst_one f) (maxLen_of (by omega)) (by omega) (by simp; omega) ?_; intro v' w4 hown' hgrow _; obtain ⟨g', cap', rfl⟩ := ownsRow_succ hown'; obtain ⟨hv1, hv2, hr2, hk2, hb2⟩ := j2.appended (by decide) hrow2 (by omega) (by omega) hown' hgrow; have hc1 := hv1.cell; have hf1 := hv1.frozen)
              have hgr : (w2.alloc (.cells #[.string f.1, .string f.2] 38)).grownBy w4 (Value.slice a L.length cap).ownBlock := hgrow
              have p0 := ((j0.alloc (.cells #[.string f.1, .string f.2] 38)).kept hgr (Boxed.not_row j0 (by decide) hrow2)).other (B' := w.heap.size + 1 + 1) (by omega) (.slice (some ⟨g', 0, none⟩) (L.length + 1) cap')
              have p1 := ((j1.alloc (.cells #[.string f.1, .string f.2] 38)).kept hgr (Boxed.not_row j1 (by decide) hrow2)).other (B' := w.heap.size + 1 + 1) (by omega) (.slice (some ⟨g', 0, none⟩) (L.length + 1) cap')
              have p3 := ((j3.alloc (.cells #[.string f.1, .string f.2] 38)).kept hgr (Boxed.not_row j3 (by decide) hrow2)).other (B' := w.heap.size + 1 + 1) (by omega) (.slice (some ⟨g', 0, none⟩) (L.length + 1) cap')
              have hLx : (pre ++ [x]).map fdX = L ++ [f] := by rw [List.map_append, hLL, ← HF.out]; rfl
              refine ⟨(hKO.trans hk2).from _, p3.trans (Eq.symm k3), ⟨⟨?_, by simp; have := HL.out; omega, p0, p1, p3⟩, _, hv2, ?_, trivial⟩, hB2.trans hb2⟩
              · intro y hy
                rcases List.mem_append.1 hy with hy | hy
                · exact HPO.out y hy
                · obtain rfl : y = x := by simpa using hy
                  exact HOK.out
              · rw [hLx, fcells_append, List.length_append]
                exact hr2
        case done =>
          rintro D ys W hD hys ⟨⟨⟨hp, hpl, k0, k1, k3⟩, v, k2, hrow, -⟩, hB⟩ hK
          have HV : Hid (psU s.data.toList = (ys.map fdX, 0)) := by
            unfold Hid
            rw [HP.out, ← hys, psA_done ys [] hp (by simpa using hpl)]; rfl
          obtain ⟨a, cap, rfl⟩ : ∃ a cap, v = .slice a (ys.map fdX).length cap := Row.slice (Own.row hrow)
          generalize ys.map fdX = L at hrow k2 HV
          have c0 := k0.cell
          have f0 := k0.frozen
          have c1 := k1.cell
          have f1 := k1.frozen
          have c2 := k2.cell
          gi_wp2
          have e0 := (k0.set (.slice a L.length cap)).other (B' := w.heap.size + 1) (by omega) (.int .i64 0)
          have e1 := (k1.other (B' := w.heap.size) (by omega) (.slice a L.length cap)).set (.int .i64 0)
          have hr1 := own_set (z := .slice a L.length cap) k0 (by decide) hrow
          have hr2 := own_set (z := .int .i64 0) (k1.other (B' := w.heap.size) (by omega) (.slice a L.length cap)) (by decide) hr1
          have hB' := (hB.setCell (p := ⟨w.heap.size, 0, none⟩) (Nat.le_refl _) (.slice a L.length cap)).setCell (p := ⟨w.heap.size + 1, 0, none⟩) (by simp) (.int .i64 0)
          have hK' := ((KeepsOthers.setCell W ⟨w.heap.size, 0, none⟩ (.slice a L.length cap)).trans (KeepsOthers.setCell _ ⟨w.heap.size + 1, 0, none⟩ (.int .i64 0))).same D _ hK rfl
          refine ⟨by simp, .inl ⟨_, _, rfl, run_takeDeferred hK', ?_⟩⟩
          have g0 := (put_box (o' := .deferred none) e0 hK' rfl).cell
          have g1 := (put_box (o' := .deferred none) e1 hK' rfl).cell
          refine ⟨.tuple #[.slice a L.length cap, .int .i64 0], ?_, .slice a L.length cap, ?_, ?_, ?_⟩
          · simp [results, Try.results9, go_sem, g0, g1]
          · rw [HV.out]
          · rw [HV.out]; exact Own.row (ownsRow_putObj hr2 _ hK' rfl)
          · exact hB'.trans (belowK_b (w := w) (Nat.le_refl _) _ D _ _ (by omega) hK' rfl rfl)
        case stop =>
          rintro D c pre W hD hpre ⟨⟨rfl, q, x, code, rfl, hq, hql, hst, k0, k1⟩, hB⟩ hK
          have HV : Hid (psU s.data.toList = ([], code)) := by
            obtain ⟨r, hr⟩ := hpre
            unfold Hid
            rw [HP.out, ← hr, List.map_append, List.map_append, List.map_append, List.append_assoc]
            refine psA_stop q [] x _ hq (by simpa using hql) ?_
            rcases hst with h | ⟨h1, h2, h3⟩
            · exact Or.inl h
            · exact Or.inr ⟨h1, by simpa using h2, h3⟩
          gi_wp2
          refine ⟨by simp, .inl ⟨_, _, rfl, run_takeDeferred hK, ?_⟩⟩
          have g0 := (put_box (o' := .deferred none) k0 hK rfl).cell
          have g1 := (put_box (o' := .deferred none) k1 hK rfl).cell
          refine ⟨.tuple #[.slice none 0 0, .int .i64 code], ?_, .slice none 0 0, ?_, ?_, ?_⟩
          · simp [results, Try.results9, go_sem, g0, g1]
          · rw [HV.out]
          · rw [HV.out]; exact Row.nil _
          · exact hB.trans (belowK_b (w := w) (Nat.le_refl _) _ D _ _ (by omega) hK rfl rfl)
      · clear he
        refine (callsIn_wide (n := 3)).1 ?_
        refine callsIn_of_wp_marks Try.func9 rfl trivial ?_ rfl
        simp only [Try.ntmps9, List.size_toArray, List.length_cons, List.length_nil, Nat.reduceAdd, Nat.reduceSub, Array.replicate_succ, Array.replicate_zero, List.push_toArray, List.append_toArray, List.nil_append, List.cons_append]
        gi_wp2
        refine ⟨trivial, ?_⟩
        gi_wp2
        refine ⟨trivial, ?_⟩
        refine (callsIn_wide.2 (lines_any _ _)).mono ?_
        rintro e w1 ⟨rfl, rfl⟩
        gi_wp2
        have hB0 : Below w.heap.size w ((((w.alloc (.cells #[.slice none 0 0] 22)).alloc (.cells #[.int .i64 0] 24)).alloc (.cells #[.slice none 0 0] 22)).alloc (.cells #[.string s] 9)) := ((((Below.refl _ w).alloc (Nat.le_refl _) _).alloc (by simp) _).alloc (by simp; omega) _).alloc (by simp; omega) _
        have b0 : Boxed ((((w.alloc (.cells #[.slice none 0 0] 22)).alloc (.cells #[.int .i64 0] 24)).alloc (.cells #[.slice none 0 0] 22)).alloc (.cells #[.string s] 9)) w.heap.size 22 (.slice none 0 0) := (((Boxed.new w 22 _).alloc _).alloc _).alloc _
        have b1 : Boxed ((((w.alloc (.cells #[.slice none 0 0] 22)).alloc (.cells #[.int .i64 0] 24)).alloc (.cells #[.slice none 0 0] 22)).alloc (.cells #[.string s] 9)) (w.heap.size + 1) 24 (.int .i64 0) := by
          have := Boxed.new (w.alloc (.cells #[.slice none 0 0] 22)) 24 (.int .i64 0)
          rw [World.size_alloc] at this
          exact (this.alloc _).alloc _
        have b2 : Boxed ((((w.alloc (.cells #[.slice none 0 0] 22)).alloc (.cells #[.int .i64 0] 24)).alloc (.cells #[.slice none 0 0] 22)).alloc (.cells #[.string s] 9)) (w.heap.size + 1 + 1) 22 (.slice none 0 0) := by
          have := Boxed.new ((w.alloc (.cells #[.slice none 0 0] 22)).alloc (.cells #[.int .i64 0] 24)) 22 (.slice none 0 0)
          rw [World.size_alloc, World.size_alloc] at this
          exact this.alloc _
        have b3 : Boxed ((((w.alloc (.cells #[.slice none 0 0] 22)).alloc (.cells #[.int .i64 0] 24)).alloc (.cells #[.slice none 0 0] 22)).alloc (.cells #[.string s] 9)) (w.heap.size + 1 + 1 + 1) 9 (.string s) := by
          have := Boxed.new (((w.alloc (.cells #[.slice none 0 0] 22)).alloc (.cells #[.int .i64 0] 24)).alloc (.cells #[.slice none 0 0] 22)) 9 (.string s)
          rw [World.size_alloc, World.size_alloc, World.size_alloc] at this
          exact this
        have hsz : ((((w.alloc (.cells #[.slice none 0 0] 22)).alloc (.cells #[.int .i64 0] 24)).alloc (.cells #[.slice none 0 0] 22)).alloc (.cells #[.string s] 9)).heap.size = w.heap.size + 4 := by simp
        generalize ((((w.alloc (.cells #[.slice none 0 0] 22)).alloc (.cells #[.int .i64 0] 24)).alloc (.cells #[.slice none 0 0] 22)).alloc (.cells #[.string s] 9)) = W0 at hB0 b0 b1 b2 b3 hsz ⊢
        refine wpIn_rangeFunc_ownG rfl (by omega) (gf := 30) (lb := #[.pointer (some ⟨w.heap.size + 1 + 1 + 1, 0, none⟩)]) rfl trivial (enters_of Try.func30 (by kernel_rfl) rfl)
          (lines_stops _ (by omega) (w.heap.size + 1 + 1 + 1) s hs W0 (by omega) b3) kpB_t (kpB_b (by omega)) (Below.refl _ _) (fun _ => rfl)
          (PsI s w) (PsX w) (psI_own (by omega)) (psX_own (by omega)) ⟨⟨⟨by simp, by simp, b0, b1, b3⟩, _, b2, World.ownsRow_nil _ _ _ _, trivial⟩, hB0⟩
          (fun x => { tmps := #[.string s, undef, .pointer (some ⟨w.heap.size, 0, none⟩), .pointer (some ⟨w.heap.size + 1, 0, none⟩), .pointer (some ⟨w.heap.size + 1 + 1, 0, none⟩), .string (bs x.1.1), undef, undef, .string s, .int .i64 s.size, .bool false, .string s, .bool false, .bool false, undef, undef, undef, .bool false, .string s, .func (.func 30) #[] #[.pointer (some ⟨w.heap.size + 1 + 1 + 1, 0, none⟩)], .string (bs x.1.1), .int .i64 (x.1.2 : Int), undef, undef, undef, undef, undef, undef, undef, undef, undef, undef, undef, undef, undef, undef, undef], defers := [] }) ?assign ?body ?done ?stop
        case assign =>
          intro l x W K hK
          simp only [encL]
          gi_wp2
          exact hK
        case body =>
          rintro l pre x W ⟨⟨⟨hp, hpl, k0, k1, k3⟩, v, k2, hrow, -⟩, hB⟩ hlt
          have hfo := fieldOf_any (bs x.1.1)
          rw [bs_list, bs_size] at hfo
          have hxl := x.2.1
          have HPO := hide hp
          clear hp
          generalize hf : fdL x.1.1 = f at hfo
          generalize hok : okL x.1.1 = ok at hfo
          unfold fv at hfo
          have HFO := hide hfo
          have HF := hide hf
          have HOK := hide hok
          clear hfo hf hok
          gi_wp2
          refine ⟨trivial, ?_⟩
          refine (CallsIn.inRound l (callsIn_wide.2 (HFO.out W (by omega)))).mono ?_
          rintro e w1 ⟨rfl, hb1⟩
          have hB1 := hB.trans (hb1.mono hB.size)
          have j0 := (boxed_below (n₀ := 0) k0 hb1).alloc (.cells #[.string f.1, .string f.2] 38)
          have j1 := (boxed_below (n₀ := 0) k1 hb1).alloc (.cells #[.string f.1, .string f.2] 38)
          have j2 := (boxed_below (n₀ := 0) k2 hb1).alloc (.cells #[.string f.1, .string f.2] 38)
          have j3 := (boxed_below (n₀ := 0) k3 hb1).alloc (.cells #[.string f.1, .string f.2] 38)
          have hR : w.heap.size ≤ w1.heap.size := hB1.size
          have hrow2 := owns_below hrow (hb1.trans ((one_alloc w1 #[.string f.1, .string f.2] 38).mono hb1.size))
          have hB2 := hB1.alloc hR (.cells #[.string f.1, .string f.2] 38)
          have hKO := (keeps_below hb1).trans (KeepsOthers.alloc w1 (.cells #[.string f.1, .string f.2] 38))
          obtain ⟨a, cap, rfl⟩ : ∃ a cap, v = .slice a (pre.map fdX).length cap := Row.slice (Own.row hrow)
          have HL : Hid ((pre.map fdX).length = pre.length) := by unfold Hid; simp
          generalize hLL : pre.map fdX = L at hrow hrow2 k2 j2 HL
          have c0 := j0.cell
          have f0 := j0.frozen
          have c1 := j1.cell
          have f1 := j1.frozen
          have c2 := j2.cell
          have f2 := j2.frozen
          have m0 : (w1.alloc (.cells #[.string f.1, .string f.2] 38)).cell? ⟨w1.heap.size, 0, none⟩ = some (.string f.1) := by go_simp
          have m1 : (w1.alloc (.cells #[.string f.1, .string f.2] 38)).cell? ⟨w1.heap.size, 1, none⟩ = some (.string f.2) := by go_simp
          have hw2 : w1.heap.size + 1 = (w1.alloc (.cells #[.string f.1, .string f.2] 38)).heap.size := by simp
          have hok0 : ok = false ∨ ok = true := by cases ok <;> simp
          rcases hok0 with rfl | rfl
          · gi_wp2
            have e0 := (j0.set (.slice none 0 0)).other (B' := w.heap.size + 1) (by omega) (.int .i64 31)
            have e1 := (j1.other (B' := w.heap.size) (by omega) (.slice none 0 0)).set (.int .i64 31)
            exact ⟨(hKO.trans ((KeepsOthers.setCell _ _ _).trans (KeepsOthers.setCell _ _ _))).from _, ⟨rfl, pre, x, 31, rfl, HPO.out, hpl, Or.inl ⟨HOK.out, rfl⟩, e0, e1⟩, (hB2.setCell (p := ⟨w.heap.size, 0, none⟩) (Nat.le_refl _) _).setCell (p := ⟨w.heap.size + 1, 0, none⟩) (by simp) _⟩
          · by_cases h40 : L.length = 40
            · have h40z : ((L.length : Int) == 40) = true := by rw [h40]; rfl
              gi_wp2
              have e0 := (j0.set (.slice none 0 0)).other (B' := w.heap.size + 1) (by omega) (.int .i64 4)
              have e1 := (j1.other (B' := w.heap.size) (by omega) (.slice none 0 0)).set (.int .i64 4)
              exact ⟨(hKO.trans ((KeepsOthers.setCell _ _ _).trans (KeepsOthers.setCell _ _ _))).from _, ⟨rfl, pre, x, 4, rfl, HPO.out, hpl, Or.inr ⟨HOK.out, by rw [← HL.out]; exact h40, rfl⟩, e0, e1⟩, (hB2.setCell (p := ⟨w.heap.size, 0, none⟩) (Nat.le_refl _) _).setCell (p := ⟨w.heap.size + 1, 0, none⟩) (by simp) _⟩
            · have h40z : ((L.length : Int) == 40) = false := by rw [beq_eq_false_iff_ne]; omega
              have hLm : L.length ≤ 40 := by rw [HL.out]; exact hpl
              obtain ⟨i0, hi0, hz0, hz1, hz2⟩ := info_parts Try.info38
              generalize hG : (w1.alloc (.cells #[.string f.1, .string f.2] 38)) = w2 at *
              gi_wp2_with (gi_at_builtin; refine wpListIn_append_own _ rfl _ _ 22 rfl w.heap.size 38 i0 _ 2 32 Try.underlying22 hi0 hz0 hz1 hz2 rfl (by decide) _ _ _ rfl (hrow2.alloc (.cells #[.string f.1, .string f.2] 38)) ⟨w2.heap.size, 0, none⟩ 1 1 [.string f.1, .string f.2] rfl rfl (two_new w2 _ _ 38) (fst_one f) (maxLen_of (by omega)) (by omega) (by simp; omega) ?_; intro v' w4 hown' hgrow _; obtain ⟨g', cap', rfl⟩ := ownsRow_succ hown'; obtain ⟨hv1, hv2, hr2, hk2, hb2⟩ := j2.appended (by decide) hrow2 (by omega) (by omega) hown' hgrow; have hc1 := hv1.cell; have hf1 := hv1.frozen)
              have hgr : (w2.alloc (.cells #[.string f.1, .string f.2] 38)).grownBy w4 (Value.slice a L.length cap).ownBlock := hgrow
              have p0 := ((j0.alloc (.cells #[.string f.1, .string f.2] 38)).kept hgr (Boxed.not_row j0 (by decide) hrow2)).other (B' := w.heap.size + 1 + 1) (by omega) (.slice (some ⟨g', 0, none⟩) (L.length + 1) cap')
              have p1 := ((j1.alloc (.cells #[.string f.1, .string f.2] 38)).kept hgr (Boxed.not_row j1 (by decide) hrow2)).other (B' := w.heap.size + 1 + 1) (by omega) (.slice (some ⟨g', 0, none⟩) (L.length + 1) cap')
              have p3 := ((j3.alloc (.cells #[.string f.1, .string f.2] 38)).kept hgr (Boxed.not_row j3 (by decide) hrow2)).other (B' := w.heap.size + 1 + 1) (by omega) (.slice (some ⟨g', 0, none⟩) (L.length + 1) cap')
              have hLx : (pre ++ [x]).map fdX = L ++ [f] := by rw [List.map_append, hLL, ← HF.out]; rfl
              refine ⟨(hKO.trans hk2).from _, p3.trans (Eq.symm k3), ⟨⟨?_, by simp; have := HL.out; omega, p0, p1, p3⟩, _, hv2, ?_, trivial⟩, hB2.trans hb2⟩
              · intro y hy
                rcases List.mem_append.1 hy with hy | hy
                · exact HPO.out y hy
                · obtain rfl : y = x := by simpa using hy
                  exact HOK.out
              · rw [hLx, fcells_append, List.length_append]
                exact hr2
        case done =>
          rintro D ys W hD hys ⟨⟨⟨hp, hpl, k0, k1, k3⟩, v, k2, hrow, -⟩, hB⟩ hK
          have HV : Hid (psU s.data.toList = (ys.map fdX, 0)) := by
            unfold Hid
            rw [HP.out, ← hys, psA_done ys [] hp (by simpa using hpl)]; rfl
          obtain ⟨a, cap, rfl⟩ : ∃ a cap, v = .slice a (ys.map fdX).length cap := Row.slice (Own.row hrow)
          generalize ys.map fdX = L at hrow k2 HV
          have c0 := k0.cell
          have f0 := k0.frozen
          have c1 := k1.cell
          have f1 := k1.frozen
          have c2 := k2.cell
          gi_wp2
          have e0 := (k0.set (.slice a L.length cap)).other (B' := w.heap.size + 1) (by omega) (.int .i64 0)
          have e1 := (k1.other (B' := w.heap.size) (by omega) (.slice a L.length cap)).set (.int .i64 0)
          have hr1 := own_set (z := .slice a L.length cap) k0 (by decide) hrow
          have hr2 := own_set (z := .int .i64 0) (k1.other (B' := w.heap.size) (by omega) (.slice a L.length cap)) (by decide) hr1
          have hB' := (hB.setCell (p := ⟨w.heap.size, 0, none⟩) (Nat.le_refl _) (.slice a L.length cap)).setCell (p := ⟨w.heap.size + 1, 0, none⟩) (by simp) (.int .i64 0)
          have hK' := ((KeepsOthers.setCell W ⟨w.heap.size, 0, none⟩ (.slice a L.length cap)).trans (KeepsOthers.setCell _ ⟨w.heap.size + 1, 0, none⟩ (.int .i64 0))).same D _ hK rfl
          refine ⟨by simp, .inl ⟨_, _, rfl, run_takeDeferred hK', ?_⟩⟩
          have g0 := (put_box (o' := .deferred none) e0 hK' rfl).cell
          have g1 := (put_box (o' := .deferred none) e1 hK' rfl).cell
          refine ⟨.tuple #[.slice a L.length cap, .int .i64 0], ?_, .slice a L.length cap, ?_, ?_, ?_⟩
          · simp [results, Try.results9, go_sem, g0, g1]
          · rw [HV.out]
          · rw [HV.out]; exact Own.row (ownsRow_putObj hr2 _ hK' rfl)
          · exact hB'.trans (belowK_b (w := w) (Nat.le_refl _) _ D _ _ (by omega) hK' rfl rfl)
        case stop =>
          rintro D c pre W hD hpre ⟨⟨rfl, q, x, code, rfl, hq, hql, hst, k0, k1⟩, hB⟩ hK
          have HV : Hid (psU s.data.toList = ([], code)) := by
            obtain ⟨r, hr⟩ := hpre
            unfold Hid
            rw [HP.out, ← hr, List.map_append, List.map_append, List.map_append, List.append_assoc]
            refine psA_stop q [] x _ hq (by simpa using hql) ?_
            rcases hst with h | ⟨h1, h2, h3⟩
            · exact Or.inl h
            · exact Or.inr ⟨h1, by simpa using h2, h3⟩
          gi_wp2
          refine ⟨by simp, .inl ⟨_, _, rfl, run_takeDeferred hK, ?_⟩⟩
          have g0 := (put_box (o' := .deferred none) k0 hK rfl).cell
          have g1 := (put_box (o' := .deferred none) k1 hK rfl).cell
          refine ⟨.tuple #[.slice none 0 0, .int .i64 code], ?_, .slice none 0 0, ?_, ?_, ?_⟩
          · simp [results, Try.results9, go_sem, g0, g1]
          · rw [HV.out]
          · rw [HV.out]; exact Row.nil _
          · exact hB.trans (belowK_b (w := w) (Nat.le_refl _) _ D _ _ (by omega) hK rfl rfl)

end Go.Proofs.Yteeipaijdoneeaa
