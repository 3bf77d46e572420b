/- The walks of the document's own adding, and of the field that is put behind and is there. -/
import Derived.Test.YtplanlhgcckioaaDoorWq
namespace Go.Proofs.YtplanlhgcckioaaDoor
set_option linter.unusedVariables false
set_option linter.unusedSimpArgs false
set_option maxRecDepth 100000
open Go.RowKit

theorem row_one (w : World) (f : Fd) : Row (w.alloc (.cells #[.string f.1, .string f.2] 42)) (.slice (some ⟨w.heap.size, 0, none⟩) 1 1) [f] := by
  refine ⟨some ⟨w.heap.size, 0, none⟩, 1, rfl, Nat.le_refl _, fun k hk => ⟨w.heap.size, 0, rfl, by simp, ?_, ?_⟩⟩
  · obtain rfl : k = 0 := by simp at hk; omega
    go_simp
  · obtain rfl : k = 0 := by simp at hk; omega
    go_simp

theorem cell_grown {w w' : World} {base : Nat} {v : Value} {D : List Fd} (ho : Own w base v D) (hg : w.grownBy w' v.ownBlock) (hb : base ≤ w.heap.size) {g k : Nat} (hlt : g < base) {u : Value} (h : w.cell? ⟨g, k, none⟩ = some u) : w'.cell? ⟨g, k, none⟩ = some u :=
  (World.cell?_of_block (w := w) (a := ⟨g, k, none⟩) (hg.block g (by omega) (fun e => absurd (own_block ho g e.symm) (by omega)))).trans h
theorem base_alloc {w w' : World} {row : Option Nat} {base : Nat} {o : Obj} (hg : w.grownBy w' row) (hb : base ≤ w.heap.size) : base ≤ (w'.alloc o).heap.size := by
  have := hg.size; simp; omega
theorem own_above {w : World} {base : Nat} {v : Value} {L : List Fd} (h : Own w (base + 1) v L) : ∀ k, v.ownBlock = some k → base ≤ k := fun k hk => by have := own_block h k hk; omega

set_option maxHeartbeats 4000000 in
theorem refadd_any (L : List Fd) (v : Value) (f : Fd) (w : World) (hr : Row w v L) (hl : L.length ≤ 1000) (hs : Sh L) (hf1 : f.1.size ≤ 10000) (hf2 : f.2.size ≤ 10000) :
    Calls Tryd.prog 21 #[v, fv f] w fun e w' => ∃ r, e = .returned (.tuple #[r, .int .i64 (addE L f : Nat)]) ∧ Own w' w.heap.size r (addL L f) ∧ Below w.heap.size w w' := by
  have HR := hide hr
  have HS := hide hs
  obtain ⟨aa, ca, rfl⟩ := hr.slice
  clear hr hs
  unfold fv
  go_enter Tryd.func21, Tryd.ntmps21
  go_wp2_with fail
  have hb0 := one_alloc w #[.string f.1, .string f.2] 42
  refine (refright_any L _ _ (HR.out.below hb0) (by omega) HS.out).mono ?_
  rintro e w1 ⟨rfl, hb1⟩
  have hB1 := hb0.trans (hb1.mono hb0.size)
  have c0 : w1.cell? ⟨w.heap.size, 0, none⟩ = some (.string f.1) := by rw [(stays hb1).1 _ _ (by simp)]; go_simp
  have c1 : w1.cell? ⟨w.heap.size, 1, none⟩ = some (.string f.2) := by rw [(stays hb1).1 _ _ (by simp)]; go_simp
  have hw1 : w.heap.size < w1.heap.size := by have := hb1.size; simp at this; omega
  clear hb0 hb1
  cases hrt : rightF L
  · have HE := hide (add_arg (f := f) (show (rightF L && mayF f) = false by rw [hrt]; rfl))
    try rw [hrt]
    go_wp2_with fail
    go_ret2
    exact ⟨_, ret_row rfl (by rw [HE.out.1]; rfl), by rw [HE.out.2]; exact Own.nil _ _, hB1⟩
  · go_wp2_with fail
    refine (may_any f w1 (by omega) (by omega)).mono ?_
    rintro e w2 ⟨rfl, hb2⟩
    have hB2 := hB1.trans (hb2.mono hB1.size)
    have d0 := ((stays hb2).1 _ _ hw1).trans c0
    have d1 := ((stays hb2).1 _ _ hw1).trans c1
    have hw2 : w.heap.size < w2.heap.size := Nat.lt_of_lt_of_le hw1 hb2.size
    clear c0 c1 hb2 hB1
    cases hmy : mayF f
    · have HE := hide (add_arg (f := f) (show (rightF L && mayF f) = false by rw [hrt, hmy]; rfl))
      try rw [hmy]
      go_wp2_with fail
      go_ret2
      exact ⟨_, ret_row rfl (by rw [HE.out.1]; rfl), by rw [HE.out.2]; exact Own.nil _ _, hB2⟩
    · have hboth : (rightF L && mayF f) = true := by rw [hrt, hmy]; rfl
      by_cases h40 : L.length = 40
      · have HE := hide (add_many hboth h40)
        have h40z : (L.length : Int) = 40 := by omega
        clear hboth
        try rw [hmy]
        go_wp2_with fail
        go_ret2
        exact ⟨_, ret_row rfl (by rw [HE.out.1]; rfl), by rw [HE.out.2]; exact Own.nil _ _, hB2⟩
      · have HE := hide (add_okay hboth h40)
        have h40z : ¬ (L.length : Int) = 40 := by omega
        clear hboth
        have hbx : Below w.heap.size w (w2.alloc (.cells #[] 42)) := hB2.alloc hB2.size _
        have hra := HR.out.below hbx
        have hown : Own (w2.alloc (.cells #[] 42)) (w.heap.size + 1) (.slice (some ⟨w2.heap.size, 0, none⟩) 0 0) [] := World.ownsRow_lit w2 #[] 0 (by omega) (by decide) rfl
        have hx0 : w.heap.size + 1 ≤ (w2.alloc (.cells #[] 42)).heap.size := by simp; omega
        have x0 : (w2.alloc (.cells #[] 42)).cell? ⟨w.heap.size, 0, none⟩ = some (.string f.1) := by rw [(stays (one_alloc w2 _ _)).1 _ _ hw2]; exact d0
        have x1 : (w2.alloc (.cells #[] 42)).cell? ⟨w.heap.size, 1, none⟩ = some (.string f.2) := by rw [(stays (one_alloc w2 _ _)).1 _ _ hw2]; exact d1
        have HX := hide (And.intro hra (And.intro hown (And.intro hbx (And.intro hx0 (And.intro x0 x1)))))
        clear hra hown hbx hx0 x0 x1
        try rw [hmy]
        go_wp2_with (first
          | (at_builtin; refine wpList_append_Row rfl (.tmp 19) (.tmp 20) rfl (w.heap.size + 1) (.slice (some ⟨w2.heap.size, 0, none⟩) 0 0) (.slice aa L.length ca) [] L rfl rfl HX.out.2.1 HX.out.1 (by simp; omega) HX.out.2.2.2.1 ?_; intro v' w3 ho3 hg3; have e0 := cell_grown HX.out.2.1 hg3 HX.out.2.2.2.1 (Nat.lt_succ_self _) HX.out.2.2.2.2.1; have e1 := cell_grown HX.out.2.1 hg3 HX.out.2.2.2.1 (Nat.lt_succ_self _) HX.out.2.2.2.2.2; have HY := hide (And.intro (ho3.alloc (.cells #[.string f.1, .string f.2] 42)) (And.intro (row_one w3 f) (And.intro (base_alloc (o := .cells #[.string f.1, .string f.2] 42) hg3 HX.out.2.2.2.1) ((HX.out.2.2.1.grown hg3 HX.out.2.2.1.size (own_above HX.out.2.1)))))))
          | (at_builtin; refine wpList_append_Row rfl (.tmp 22) (.tmp 24) rfl (w.heap.size + 1) v' (.slice (some ⟨w3.heap.size, 0, none⟩) 1 1) ([] ++ L) [f] rfl rfl HY.out.1 HY.out.2.1 (by simp; omega) HY.out.2.2.1 ?_; intro v'' w4 ho4 hg4))
        have hB3 := HY.out.2.2.2
        have hB4 := (hB3.alloc hB3.size (.cells #[.string f.1, .string f.2] 42)).grown hg4 (Nat.le_of_succ_le HY.out.2.2.1) (own_above HY.out.1)
        go_ret2
        exact ⟨_, ret_row rfl (by rw [HE.out.1]; rfl), by rw [HE.out.2]; exact ho4.mono (Nat.le_succ _), hB4⟩

theorem alive_facts : addE [] (⟨#[97]⟩, ⟨#[49]⟩) = 0 ∧ addL [] (⟨#[97]⟩, ⟨#[49]⟩) = [(⟨#[97]⟩, ⟨#[49]⟩)] ∧ getS ⟨#[65]⟩ [(⟨#[97]⟩, ⟨#[49]⟩)] = ⟨#[49]⟩ ∧ hasB ⟨#[65]⟩ [(⟨#[97]⟩, ⟨#[49]⟩)] = true := by
  refine ⟨by decide +kernel, by decide +kernel, by decide +kernel, by decide +kernel⟩

end Go.Proofs.YtplanlhgcckioaaDoor
