/- The walks of what adds a field: the program's, by the library's joining of rows, and the document's own. -/
import Derived.Test.YtojoidhjlbcijaaDoorWp
namespace Go.Proofs.YtojoidhjlbcijaaDoor
set_option linter.unusedVariables false
set_option linter.unusedSimpArgs false
set_option maxRecDepth 100000
open Go.RowKit

theorem Row.slice {w : World} {v : Value} {L : List Fd} (h : Row w v L) : ∃ a cap, v = .slice a L.length cap := by
  obtain ⟨a, cap, rfl, -⟩ := h; exact ⟨a, cap, rfl⟩

set_option maxHeartbeats 4000000 in
theorem concat_any (L M : List Fd) (va vb : Value) (B : Nat) (w : World) (ha : Row w va L) (hb : Row w vb M) (h0 : w.cell? ⟨B, 0, none⟩ = some va) (h1 : w.cell? ⟨B, 1, none⟩ = some vb)
    (hM : 0 < M.length) (hl : L.length + M.length ≤ 1000000) :
    Calls Tryd.prog 62 #[.slice (some ⟨B, 0, none⟩) 2 2] w fun e w' => ∃ r, e = .returned r ∧ Own w' w.heap.size r (L ++ M) ∧ Below w.heap.size w w' := by
  have HA := hide ha
  have HB := hide hb
  obtain ⟨aa, ca, rfl⟩ := ha.slice
  obtain ⟨ab, cb, rfl⟩ := hb.slice
  have hBw : B < w.heap.size := block_lt_of_cell (a := ⟨B, 0, none⟩) h0
  obtain ⟨n, hn⟩ : ∃ n, L.length = n := ⟨_, rfl⟩
  obtain ⟨m, hm⟩ : ∃ m, M.length = m := ⟨_, rfl⟩
  have HN := hide hn
  have HM := hide hm
  rw [hn, hm] at hl
  rw [hn] at h0 HA
  rw [hm] at h1 hM HB
  clear ha hb hn hm
  go_enter Tryd.func62, Tryd.ntmps62
  go_wp2_with fail
  go_loop [3, 5, 11] (fun z _ i => (i = .int .i64 0 ∧ z = .int .i64 0) ∨ (i = .int .i64 1 ∧ z = .int .i64 n) ∨ (i = .int .i64 2 ∧ z = .int .i64 ((n + m : Nat) : Int))) (fun _ _ i => 2 - (intOf i).toNat)
  case atStart => exact Or.inl ⟨rfl, rfl⟩
  case round =>
    rcases hrel with ⟨rfl, rfl⟩ | ⟨rfl, rfl⟩ | ⟨rfl, rfl⟩
    · go_wp2_with fail
      exact ⟨Or.inr (Or.inl ⟨by go_num, by go_num⟩), by simp [intOf]⟩
    · have hx : ¬ (n : Int) + m < 0 := by omega
      go_wp2_with fail
      exact ⟨Or.inr (Or.inr ⟨by go_num, by go_num⟩), by simp [intOf]⟩
    · go_wp2_with fail
      refine (grow_any (n + m) w (by omega) hl).mono ?_
      rintro e w1 ⟨r, rfl, ho, hb1⟩
      have h0' := ((stays hb1).1 B 0 hBw).trans h0
      have h1' := ((stays hb1).1 B 1 hBw).trans h1
      have HA1 := hide (HA.out.below hb1)
      have HB1 := hide (HB.out.below hb1)
      go_wp2_with fail
      go_loopw [6, 8, 27] (fun v _ i wr => Below w.heap.size w wr ∧ ((i = .int .i64 0 ∧ Own wr w.heap.size v []) ∨ (i = .int .i64 1 ∧ Own wr w.heap.size v L) ∨ (i = .int .i64 2 ∧ Own wr w.heap.size v (L ++ M)))) (fun _ _ i _ => 2 - (intOf i).toNat)
      case atStart => exact ⟨hb1, Or.inl ⟨rfl, ho⟩⟩
      case round =>
        obtain ⟨hbr, ⟨rfl, hown⟩ | ⟨rfl, hown⟩ | ⟨rfl, hown⟩⟩ := hrel
        · have d0 := ((stays hbr).1 B 0 hBw).trans h0
          have HR := hide (And.intro (HA.out.below hbr) (And.intro hown hbr))
          clear hown hbr
          go_wp2_with (at_builtin; refine wpList_append_Row rfl (.tmp 31) (.tmp 32) rfl w.heap.size _ _ [] L rfl rfl HR.out.2.1 HR.out.1 (by rw [HN.out]; simp; omega) HR.out.2.2.size ?_; intro v' w2 ho2 hg2)
          have hl2 := HR.out.2.2.grown hg2 HR.out.2.2.size (own_block HR.out.2.1)
          exact ⟨⟨hl2, Or.inr (Or.inl ⟨by go_num, ho2⟩)⟩, by simp [intOf]⟩
        · have d0 := ((stays hbr).1 B 1 hBw).trans h1
          have HR := hide (And.intro (HB.out.below hbr) (And.intro hown hbr))
          clear hown hbr
          go_wp2_with (at_builtin; refine wpList_append_Row rfl (.tmp 31) (.tmp 32) rfl w.heap.size _ _ L M rfl rfl HR.out.2.1 HR.out.1 (by rw [HN.out, HM.out]; omega) HR.out.2.2.size ?_; intro v' w2 ho2 hg2)
          have hl2 := HR.out.2.2.grown hg2 HR.out.2.2.size (own_block HR.out.2.1)
          exact ⟨⟨hl2, Or.inr (Or.inr ⟨by go_num, ho2⟩)⟩, by simp [intOf]⟩
        · go_wp2_with fail
          go_ret
          exact ⟨_, rfl, hown, hbr⟩

/-- What adding a field makes of a row, and the word for it. -/
def addE (L : List Fd) (f : Fd) : Nat := if rightF L && mayF f then (if L.length = 40 then 4 else 0) else 1
def addL (L : List Fd) (f : Fd) : List Fd := if rightF L && mayF f then (if L.length = 40 then [] else L ++ [f]) else []
theorem add_arg {L : List Fd} {f : Fd} (h : (rightF L && mayF f) = false) : addE L f = 1 ∧ addL L f = [] := by
  unfold addE addL; rw [h]; exact ⟨rfl, rfl⟩
theorem add_many {L : List Fd} {f : Fd} (h : (rightF L && mayF f) = true) (g : L.length = 40) : addE L f = 4 ∧ addL L f = [] := by
  unfold addE addL; rw [h, g]; exact ⟨rfl, rfl⟩
theorem add_okay {L : List Fd} {f : Fd} (h : (rightF L && mayF f) = true) (g : L.length ≠ 40) : addE L f = 0 ∧ addL L f = L ++ [f] := by
  unfold addE addL; rw [h, if_pos rfl, if_pos rfl, if_neg g, if_neg g]; exact ⟨rfl, rfl⟩

theorem ret_row {v v' : Value} {b d : Int} (h : v = v') (g : b = d) : Ending.returned (.tuple #[v, .int .i64 b]) = .returned (.tuple #[v', .int .i64 d]) := by rw [h, g]

set_option maxHeartbeats 4000000 in
theorem add_any (L : List Fd) (v : Value) (f : Fd) (w : World) (hr : Row w v L) (hl : L.length ≤ 1000) (hs : Sh L) (hf1 : f.1.size ≤ 100000) (hf2 : f.2.size ≤ 100000) :
    Calls Tryd.prog 43 #[v, .string f.1, .string f.2] w fun e w' => ∃ r, e = .returned (.tuple #[r, .int .i64 (addE L f : Nat)]) ∧ Own w' w.heap.size r (addL L f) ∧ Below w.heap.size w w' := by
  have HR := hide hr
  have HS := hide hs
  obtain ⟨aa, ca, rfl⟩ := hr.slice
  clear hr hs
  go_enter Tryd.func43, Tryd.ntmps43
  go_wp2_with fail
  have hb0 := one_alloc w #[.string f.1, .string f.2] 39
  refine (right_any L _ _ (HR.out.below hb0) (by omega) HS.out).mono ?_
  rintro e w1 ⟨rfl, hb1⟩
  have hB1 := hb0.trans (hb1.mono hb0.size)
  have c0 : w1.cell? ⟨w.heap.size, 0, none⟩ = some (.string f.1) := by rw [(stays hb1).1 _ _ (by simp)]; go_simp
  have c1 : w1.cell? ⟨w.heap.size, 1, none⟩ = some (.string f.2) := by rw [(stays hb1).1 _ _ (by simp)]; go_simp
  have hw1 : w.heap.size < w1.heap.size := by have := hb1.size; simp at this; omega
  clear hb0 hb1
  cases hrt : rightF L
  · have HE := hide (add_arg (f := f) (show (rightF L && mayF f) = false by rw [hrt]; rfl))
    try rw [hrt]
    go_wp2_with fail
    go_ret2
    exact ⟨_, ret_row rfl (by rw [HE.out.1]; rfl), by rw [HE.out.2]; exact Own.nil _ _, hB1⟩
  · go_wp2_with fail
    refine (wrong_any f w1 (by omega) (by omega)).mono ?_
    rintro e w2 ⟨rfl, hb2⟩
    have hB2 := hB1.trans (hb2.mono hB1.size)
    have d0 := ((stays hb2).1 _ _ hw1).trans c0
    have d1 := ((stays hb2).1 _ _ hw1).trans c1
    have hw2 : w.heap.size < w2.heap.size := Nat.lt_of_lt_of_le hw1 hb2.size
    clear c0 c1 hb2 hB1
    cases hmy : mayF f
    · have HE := hide (add_arg (f := f) (show (rightF L && mayF f) = false by rw [hrt, hmy]; rfl))
      try rw [hmy]
      go_wp2_with fail
      go_ret2
      exact ⟨_, ret_row rfl (by rw [HE.out.1]; rfl), by rw [HE.out.2]; exact Own.nil _ _, hB2⟩
    · have hboth : (rightF L && mayF f) = true := by rw [hrt, hmy]; rfl
      by_cases h40 : L.length = 40
      · have HE := hide (add_many hboth h40)
        have h40z : (L.length : Int) = 40 := by omega
        clear hboth
        try rw [hmy]
        go_wp2_with fail
        go_ret2
        exact ⟨_, ret_row rfl (by rw [HE.out.1]; rfl), by rw [HE.out.2]; exact Own.nil _ _, hB2⟩
      · have HE := hide (add_okay hboth h40)
        have h40z : ¬ (L.length : Int) = 40 := by omega
        clear hboth
        have hbx := (one_alloc w2 #[.string f.1, .string f.2] 39)
        have hby : Below w2.heap.size w2 ((w2.alloc (.cells #[.string f.1, .string f.2] 39)).alloc (.cells #[.slice aa L.length ca, .slice (some ⟨w2.heap.size, 0, none⟩) 1 1] 24)) := hbx.alloc hbx.size _
        have hra := (HR.out.below hB2).below hby
        have hrb : Row ((w2.alloc (.cells #[.string f.1, .string f.2] 39)).alloc (.cells #[.slice aa L.length ca, .slice (some ⟨w2.heap.size, 0, none⟩) 1 1] 24)) (.slice (some ⟨w2.heap.size, 0, none⟩) 1 1) [f] := by
          refine ⟨some ⟨w2.heap.size, 0, none⟩, 1, rfl, Nat.le_refl _, fun k hk => ⟨w2.heap.size, 0, rfl, by simp; omega, ?_, ?_⟩⟩
          · obtain rfl : k = 0 := by simp at hk; omega
            go_simp
          · obtain rfl : k = 0 := by simp at hk; omega
            go_simp
        have e0 : ((w2.alloc (.cells #[.string f.1, .string f.2] 39)).alloc (.cells #[.slice aa L.length ca, .slice (some ⟨w2.heap.size, 0, none⟩) 1 1] 24)).cell? ⟨w2.heap.size + 1, 0, none⟩ = some (.slice aa L.length ca) := by go_simp
        have e1 : ((w2.alloc (.cells #[.string f.1, .string f.2] 39)).alloc (.cells #[.slice aa L.length ca, .slice (some ⟨w2.heap.size, 0, none⟩) 1 1] 24)).cell? ⟨w2.heap.size + 1, 1, none⟩ = some (.slice (some ⟨w2.heap.size, 0, none⟩) 1 1) := by go_simp
        have HX := hide (And.intro hra (And.intro hrb (And.intro e0 (And.intro e1 hby))))
        clear hra hrb e0 e1 hbx hby
        try rw [hmy]
        go_wp2_with fail
        refine (concat_any L [f] _ _ (w2.heap.size + 1) _ HX.out.1 HX.out.2.1 HX.out.2.2.1 HX.out.2.2.2.1 (by simp) (by simp; omega)).mono ?_
        rintro e w3 ⟨r, rfl, ho, hb3⟩
        have hB3 := hB2.trans (HX.out.2.2.2.2.mono hB2.size)
        go_wp2_with fail
        go_ret2
        exact ⟨_, ret_row rfl (by rw [HE.out.1]; rfl), by rw [HE.out.2]; exact ho.mono hB3.size, hB3.trans (hb3.mono hB3.size)⟩

end Go.Proofs.YtojoidhjlbcijaaDoor
