/- The walks of what a saying becomes, of which answers have no body, and of which first line and row may be. -/
import Derived.Test.YtplanlhgcckioaaDoorGa
import Derived.Test.YtplanlhgcckioaaDoorSe
import Derived.Deep.RegionHeld
namespace Go.Proofs.YtplanlhgcckioaaDoor
set_option linter.unusedVariables false
set_option linter.unusedSimpArgs false
set_option maxRecDepth 100000
open Go.RowKit

set_option maxHeartbeats 1000000 in
theorem bodiless_any (c : Int) (w : World) :
    Calls Tryd.prog 31 #[.int .i64 c] w fun e w' => e = .returned (.bool (bareB c)) ∧ w' = w := by
  have HV : Hid (bareB c = (decide (c < 200) || decide (c = 204) || decide (c = 304))) := rfl
  by_cases h1 : c < 200
  · rw [decide_eq_true h1] at HV
    go_enter Tryd.func31, Tryd.ntmps31
    go_wp2_with fail
    go_ret
    exact ⟨ret_bool (by rw [HV.out]; simp), rfl⟩
  · have h1d : decide (c < 200) = false := decide_eq_false h1
    rw [h1d] at HV
    by_cases h2 : c = 204
    · subst h2
      go_enter Tryd.func31, Tryd.ntmps31
      go_wp2_with fail
      go_ret
      exact ⟨ret_bool (by rw [HV.out]; simp), rfl⟩
    · have h2d : (c == 204) = false := by simpa using h2
      rw [decide_eq_false h2] at HV
      by_cases h3 : c = 304
      · subst h3
        go_enter Tryd.func31, Tryd.ntmps31
        go_wp2_with fail
        go_ret
        exact ⟨ret_bool (by rw [HV.out]; simp), rfl⟩
      · have h3d : (c == 304) = false := by simpa using h3
        rw [decide_eq_false h3] at HV
        go_enter Tryd.func31, Tryd.ntmps31
        go_wp2_with fail
        go_ret
        exact ⟨ret_bool (by rw [HV.out]; simp), rfl⟩

set_option maxHeartbeats 1000000 in
theorem both_any (s : St) (L : List Fd) (v : Value) (w : World) (hs : Short s) (hr : Row w v L) (hl : L.length ≤ 1000000) (hS : Sh L) :
    Calls Tryd.prog 28 #[s.v, v] w fun e w' => e = .returned (.bool (rtB s && rightF L)) ∧ Below w.heap.size w w' := by
  have hnew := Five.new w s
  have hbn : Below w.heap.size w (w.alloc (.cells s.cs.toArray 33)) := (Below.refl _ _).alloc (Nat.le_refl _) _
  have hrn := hr.below hbn
  unfold St.cs at hnew hbn hrn
  cases h1 : rtB s
  · have H1 := hide h1
    clear h1
    unfold St.v
    go_enter Tryd.func28, Tryd.ntmps28
    go_wp2_with fail
    generalize w.alloc _ = W1 at hnew hbn hrn ⊢
    refine (sright_any s _ hs).mono ?_
    rintro e w1 ⟨rfl, hb1⟩
    rw [H1.out]
    go_wp2_with fail
    go_ret
    exact ⟨ret_bool (by simp), hbn.trans (hb1.mono hbn.size)⟩
  · have H1 := hide h1
    clear h1
    unfold St.v
    go_enter Tryd.func28, Tryd.ntmps28
    go_wp2_with fail
    generalize w.alloc _ = W1 at hnew hbn hrn ⊢
    refine (sright_any s _ hs).mono ?_
    rintro e w1 ⟨rfl, hb1⟩
    rw [H1.out]
    have hr1 := hrn.below hb1
    have hB1 := hbn.trans (hb1.mono hbn.size)
    go_wp2_with fail
    refine (right_any L v _ hr1 hl hS).mono ?_
    rintro e w2 ⟨rfl, hb2⟩
    go_wp2_with fail
    go_ret
    exact ⟨ret_bool (by simp), hB1.trans (hb2.mono hB1.size)⟩

end Go.Proofs.YtplanlhgcckioaaDoor
