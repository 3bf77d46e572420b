/- The walk of FrameWith. -/
import Derived.Test.YtplanlhgcckioaaDoorHb
import Derived.Test.YtplanlhgcckioaaDoorWw
namespace Go.Proofs.YtplanlhgcckioaaDoor
set_option linter.unusedVariables false
set_option linter.unusedSimpArgs false
set_option maxRecDepth 100000
open Go.RowKit

theorem few_sh {M : List Fd} (h : ∀ f ∈ M, f.1.size ≤ 60 ∧ f.2.size ≤ 1010) : Sh M := fun f hf => ⟨Nat.le_trans (h f hf).1 (by decide), Nat.le_trans (h f hf).2 (by decide)⟩
theorem wi_len (L : List Fd) (K Z : Int) : (wiL L K Z).length ≤ L.length + 1 := by
  have := dl_le L
  unfold wiL addL
  split
  · split
    · split
      · split
        · simp
        · simp; omega
      · simp
    · split
      · split
        · split
          · simp
          · simp; omega
        · simp
      · omega
  · simp

set_option maxHeartbeats 4000000 in
theorem with_walk (L : List Fd) (ad : Option Addr) (cap : Nat) (K Z : Int) (w : World) (hr : Row w (.slice ad L.length cap) L) (hcm : cap ≤ maxLen) (hs : ∀ f ∈ L, f.1.size ≤ maxLen ∧ f.2.size ≤ maxLen) (ht : Tabs w) :
    Calls Tryd.prog 3 #[.slice ad L.length cap, .agg #[.int .i64 K, .int .i64 Z]] w fun e w' => e = .returned (.bool true) ∧ Below w.heap.size w w' := by
  have hB := one_alloc w #[.int .i64 K, .int .i64 Z] 24
  have hT := Tw.new w K Z
  have hTb := ht.below hB
  have HF := hide (few_any L ad cap _ (hr.below hB) hcm hs)
  clear hs hcm hr
  go_enter Tryd.func3, Tryd.ntmps3
  go_wp2_with fail
  generalize World.alloc _ _ = W1 at hT hB hTb HF ⊢
  refine HF.out.mono ?_
  rintro en w1 ⟨r, M, rfl, hR1, hM45, hsh, hb1⟩
  have hT1 := hT.below hb1
  have hB1 := hB.trans (hb1.mono hB.size)
  have hTb1 := hTb.below hb1
  have HS := hide (few_sh hsh)
  have HR1 := hide hR1
  obtain ⟨ar, cr, rfl⟩ := hR1.slice
  obtain ⟨t0, t1, -, -⟩ := id hT1
  clear hT hB hTb HF hb1 hsh hR1
  go_wp2_with fail
  refine (with_any M _ K Z _ HR1.out (by omega) HS.out hTb1).mono ?_
  rintro en w2 ⟨x, rfl, hox, hb2⟩
  have hT2 := hT1.below hb2
  have hB2 := hB1.trans (hb2.mono hB1.size)
  have HR2 := hide (HR1.out.below hb2)
  have HX2 := hide hox.row
  clear hT1 hB1 hTb1 hb2 hox t0 t1 HR1
  obtain ⟨t0, t1, -, -⟩ := id hT2
  go_wp2_with fail
  refine (refwith_any M _ K Z _ HR2.out (by omega) HS.out).mono ?_
  rintro en w3 ⟨y, rfl, hoy, hb3⟩
  have hB3 := hB2.trans (hb3.mono hB2.size)
  have HX3 := hide (HX2.out.below hb3)
  have HY3 := hide hoy.row
  clear hT2 hB2 hb3 hoy t0 t1 HR2 HX2
  go_wp2_with fail
  refine (alive_any _).mono ?_
  rintro en w4 ⟨rfl, hb4⟩
  have hB4 := hB3.trans (hb4.mono hB3.size)
  have HX4 := hide (HX3.out.below hb4)
  have HY4 := hide (HY3.out.below hb4)
  have hlen := wi_len M K Z
  go_wp2_with fail
  refine (like_same (wiL M K Z) x y _ HX4.out HY4.out (by omega)).mono ?_
  rintro en w5 ⟨rfl, hb5⟩
  have hB5 := hB4.trans (hb5.mono hB4.size)
  go_wp2_with fail
  go_ret
  exact ⟨rfl, hB5⟩

end Go.Proofs.YtplanlhgcckioaaDoor
