/- The walk of the document's own setting. -/
import Derived.Test.YtojoidhjlbcijaaDoorWr
namespace Go.Proofs.YtojoidhjlbcijaaDoor
set_option linter.unusedVariables false
set_option linter.unusedSimpArgs false
set_option maxRecDepth 100000
open Go.RowKit

/-- Setting, field by field: what is there so far, and whether the field is among it. -/
def setS (f : Fd) (p : List Fd × Bool) (x : Fd) : List Fd × Bool := if nm f.1 x then (if p.2 then p else (p.1 ++ [f], true)) else (p.1 ++ [x], p.2)
def setP (f : Fd) (L : List Fd) : List Fd × Bool := L.foldl (setS f) ([], false)
def setL (f : Fd) (L : List Fd) : List Fd := if (setP f L).2 then (setP f L).1 else (setP f L).1 ++ [f]
theorem setP_snoc (f : Fd) (L : List Fd) (x : Fd) : setP f (L ++ [x]) = setS f (setP f L) x := by simp [setP]
theorem setS_le (f : Fd) (p : List Fd × Bool) (x : Fd) : (setS f p x).1.length ≤ p.1.length + 1 := by
  unfold setS; split
  · split
    · omega
    · simp
  · simp
theorem setP_le (f : Fd) (L : List Fd) : (setP f L).1.length ≤ L.length := by
  have key : ∀ (L : List Fd) (p : List Fd × Bool), (L.foldl (setS f) p).1.length ≤ p.1.length + L.length := by
    intro L
    induction L with
    | nil => intro p; simp
    | cons x L ih =>
      intro p
      have h1 := ih (setS f p x)
      have h2 := setS_le f p x
      rw [List.foldl_cons, List.length_cons]
      omega
  have := key L ([], false)
  simpa [setP] using this
/-- What setting a field makes of a row, and the word for it. -/
def setE (L : List Fd) (f : Fd) : Nat := if rightF L && mayF f then (if (delF f.1 L).length = 40 then 4 else 0) else 1
def setR (L : List Fd) (f : Fd) : List Fd := if rightF L && mayF f then (if (delF f.1 L).length = 40 then [] else setL f L) else []
theorem set_arg {L : List Fd} {f : Fd} (h : (rightF L && mayF f) = false) : setE L f = 1 ∧ setR L f = [] := by
  unfold setE setR; rw [h]; exact ⟨rfl, rfl⟩
theorem set_many {L : List Fd} {f : Fd} (h : (rightF L && mayF f) = true) (g : (delF f.1 L).length = 40) : setE L f = 4 ∧ setR L f = [] := by
  unfold setE setR; rw [h, g]; exact ⟨rfl, rfl⟩
theorem set_okay {L : List Fd} {f : Fd} (h : (rightF L && mayF f) = true) (g : (delF f.1 L).length ≠ 40) : setE L f = 0 ∧ setR L f = setL f L := by
  unfold setE setR; rw [h, if_pos rfl, if_pos rfl, if_neg g, if_neg g]; exact ⟨rfl, rfl⟩

/-- What the loop carries. -/
structure StAt (W : World) (f : Fd) (w : World) : Prop where
  below : Below W.heap.size W w
  lt : W.heap.size < w.heap.size
  c0 : w.cell? ⟨W.heap.size, 0, none⟩ = some (.string f.1)
  c1 : w.cell? ⟨W.heap.size, 1, none⟩ = some (.string f.2)
theorem StAt.on {W w w' : World} {f : Fd} (h : StAt W f w) (hb : Below w.heap.size w w') : StAt W f w' :=
  ⟨h.below.trans (hb.mono h.below.size), Nat.lt_of_lt_of_le h.lt hb.size, ((stays hb).1 _ _ h.lt).trans h.c0, ((stays hb).1 _ _ h.lt).trans h.c1⟩
theorem StAt.alloc {W w : World} {f : Fd} (h : StAt W f w) (o : Obj) : StAt W f (w.alloc o) := h.on ((Below.refl _ _).alloc (Nat.le_refl _) o)
theorem StAt.grown {W w w' : World} {f : Fd} {v : Value} {D : List Fd} (h : StAt W f w) (ho : Own w (W.heap.size + 1) v D) (hg : w.grownBy w' v.ownBlock) : StAt W f w' :=
  ⟨h.below.grown hg h.below.size (own_above ho), Nat.lt_of_lt_of_le h.lt hg.size, cell_grown ho hg h.lt (Nat.lt_succ_self _) h.c0, cell_grown ho hg h.lt (Nat.lt_succ_self _) h.c1⟩

set_option maxHeartbeats 8000000 in
theorem refset_any (L : List Fd) (v : Value) (f : Fd) (w : World) (hr : Row w v L) (hl : L.length ≤ 1000) (hs : Sh L) (hf1 : f.1.size ≤ 100000) (hf2 : f.2.size ≤ 100000) :
    Calls Tryd.prog 33 #[v, fv f] w fun e w' => ∃ r, e = .returned (.tuple #[r, .int .i64 (setE L f : Nat)]) ∧ Own w' w.heap.size r (setR L f) ∧ Below w.heap.size w w' := by
  have HR := hide hr
  have HS := hide hs
  have HDL := hide (del_le f.1 L)
  obtain ⟨aa, ca, rfl⟩ := hr.slice
  clear hr hs
  unfold fv
  go_enter Tryd.func33, Tryd.ntmps33
  go_wp2_with fail
  have hb0 := one_alloc w #[.string f.1, .string f.2] 39
  refine (refremove_any L _ f.1 _ (HR.out.below hb0) (by omega) HS.out (by omega)).mono ?_
  rintro e w0 ⟨left, rfl, hleft, hb1⟩
  have hst0 : StAt w f w0 := (StAt.mk hb0 (by simp) (by go_simp) (by go_simp) : StAt w f (w.alloc (.cells #[.string f.1, .string f.2] 39))).on hb1
  obtain ⟨al, cl, rfl⟩ := hleft.row.slice
  clear hleft hb0 hb1
  have HR0 := hide (HR.out.below hst0.below)
  go_wp2_with fail
  refine (refright_any L _ _ HR0.out (by omega) HS.out).mono ?_
  rintro e w1 ⟨rfl, hb2⟩
  have hst1 := hst0.on hb2
  have HR1 := hide (HR0.out.below hb2)
  clear hb2 hst0 HR0
  cases hrt : rightF L
  · have HE := hide (set_arg (f := f) (show (rightF L && mayF f) = false by rw [hrt]; rfl))
    try rw [hrt]
    go_wp2_with fail
    go_ret2
    exact ⟨_, ret_row rfl (by rw [HE.out.1]; rfl), by rw [HE.out.2]; exact Own.nil _ _, hst1.below⟩
  · have c0 := hst1.c0
    have c1 := hst1.c1
    go_wp2_with fail
    refine (may_any f w1 (by omega) (by omega)).mono ?_
    rintro e w2 ⟨rfl, hb2⟩
    have hst2 := hst1.on hb2
    have HR2 := hide (HR1.out.below hb2)
    clear c0 c1 hb2 hst1 HR1
    cases hmy : mayF f
    · have HE := hide (set_arg (f := f) (show (rightF L && mayF f) = false by rw [hrt, hmy]; rfl))
      try rw [hmy]
      go_wp2_with fail
      go_ret2
      exact ⟨_, ret_row rfl (by rw [HE.out.1]; rfl), by rw [HE.out.2]; exact Own.nil _ _, hst2.below⟩
    · have hboth : (rightF L && mayF f) = true := by rw [hrt, hmy]; rfl
      have hdl : (delF f.1 L).length ≤ 1000 := Nat.le_trans HDL.out hl
      by_cases h40 : (delF f.1 L).length = 40
      · have HE := hide (set_many hboth h40)
        rw [h40]
        clear hboth h40
        try rw [hmy]
        go_wp2_with fail
        go_ret2
        exact ⟨_, ret_row rfl (by rw [HE.out.1]; rfl), by rw [HE.out.2]; exact Own.nil _ _, hst2.below⟩
      · have HE := hide (set_okay hboth h40)
        obtain ⟨dl, hdle⟩ : ∃ dl, (delF f.1 L).length = dl := ⟨_, rfl⟩
        rw [hdle] at h40 hdl ⊢
        have h40z : ((dl : Int) == 40) = false := by rw [beq_eq_false_iff_ne]; omega
        clear hboth hdle
        have hx0 := hst2.lt
        have hx1 := hst2.alloc (.cells #[] 39)
        have hown : Own (w2.alloc (.cells #[] 39)) (w.heap.size + 1) (.slice (some ⟨w2.heap.size, 0, none⟩) 0 0) [] := World.ownsRow_lit w2 #[] 0 (by omega) (by decide) rfl
        have HR3 := hide (HR2.out.below (one_alloc w2 #[] 39))
        try rw [hmy]
        go_wp2_with fail
        go_loopw [7, 8, 10, 29] (fun o d _ i wr => ∃ k : Nat, k ≤ L.length ∧ i = .int .i64 k ∧ d = .bool (setP f (L.take k)).2 ∧ StAt w f wr ∧ Own wr (w.heap.size + 1) o (setP f (L.take k)).1) (fun _ _ _ i _ => L.length - (intOf i).toNat)
        case atStart => exact ⟨0, Nat.zero_le _, rfl, rfl, hx1, hown⟩
        case round =>
          clear hx0 hx1 hown HR3 HR2 hst2
          obtain ⟨k, hk, rfl, rfl, hst, hown⟩ := hrel
          have hbr := hst.below
          by_cases hlt : k < L.length
          · have hltz : (k : Int) < L.length := by omega
            have HRr := HR.out.below hbr
            obtain ⟨a', cap', he, -, hcells⟩ := HRr
            cases he
            obtain ⟨g, off, rfl, hg, x0, x1⟩ := hcells k hlt
            clear hcells
            have hsh := HS.out _ (List.getElem_mem hlt)
            have HLE : Hid ((setP f (L.take k)).1.length ≤ k) := by
              unfold Hid; refine Nat.le_trans (setP_le f (L.take k)) ?_; rw [List.length_take]; omega
            have HT : Hid (setP f (L.take (k + 1)) = setS f (setP f (L.take k)) (L[k]'hlt)) := by
              unfold Hid; rw [List.take_succ_eq_append_getElem hlt, setP_snoc]
            obtain ⟨x, hx⟩ : ∃ x, L[k]'hlt = x := ⟨_, rfl⟩
            rw [hx] at x0 x1 hsh HT
            rcases hP : setP f (L.take k) with ⟨D, d⟩
            rw [hP] at hown HLE HT
            simp only at hown HLE
            clear hx hP
            have hgl : g < wr.heap.size := hg
            have y0 := hst.c0
            have y1 := hst.c1
            have hsta := hst.alloc (.cells #[.string x.1, .string x.2] 39)
            have hoa := hown.alloc (.cells #[.string x.1, .string x.2] 39)
            have z0 := hsta.c0
            go_wp2_with fail
            refine (refsame_any x.1 f.1 _ (by omega) (by omega)).mono ?_
            rintro e w4 ⟨rfl, hb4⟩
            have hst4 := hsta.on hb4
            have ho4 := hoa.below hb4
            have d0 : w4.cell? ⟨wr.heap.size, 0, none⟩ = some (.string x.1) := by rw [(stays hb4).1 _ _ (by simp)]; go_simp
            have d1 : w4.cell? ⟨wr.heap.size, 1, none⟩ = some (.string x.2) := by rw [(stays hb4).1 _ _ (by simp)]; go_simp
            have hwl : wr.heap.size < w4.heap.size := by have := hb4.size; simp at this; omega
            have hq : sameB x.1 f.1 = nm f.1 x := rfl
            rw [hq]
            clear hq hb4 hsta hoa z0 y0 y1 hst hown hbr x0 x1
            have e0 := hst4.c0
            have e1 := hst4.c1
            cases hp : nm f.1 x
            · have HX : Hid (setP f (L.take (k + 1)) = (D ++ [x], d)) := by unfold Hid; rw [HT.out, setS, if_neg (by rw [hp]; decide)]
              have HY := hide (And.intro (ho4.alloc (.cells #[.string x.1, .string x.2] 39)) (And.intro (row_one w4 x) (hst4.alloc (.cells #[.string x.1, .string x.2] 39))))
              clear ho4 hst4 HT
              go_wp2_with (at_builtin; refine wpList_append_Row rfl (.tmp 39) (.tmp 41) rfl (w.heap.size + 1) _ (.slice (some ⟨w4.heap.size, 0, none⟩) 1 1) D [x] rfl rfl HY.out.1 HY.out.2.1 (by have := HLE.out; simp; omega) HY.out.2.2.lt ?_; intro v' w5 ho5 hg5)
              have hst5 := HY.out.2.2.grown HY.out.1 hg5
              exact ⟨⟨k + 1, by omega, by go_num, by rw [HX.out], hst5, by rw [HX.out]; exact ho5⟩, by simp [intOf]; omega⟩
            · cases d
              · have HX : Hid (setP f (L.take (k + 1)) = (D ++ [f], true)) := by unfold Hid; rw [HT.out, setS, if_pos hp]; rfl
                have HY := hide (And.intro (ho4.alloc (.cells #[.string f.1, .string f.2] 39)) (And.intro (row_one w4 f) (hst4.alloc (.cells #[.string f.1, .string f.2] 39))))
                clear ho4 hst4 HT
                go_wp2_with (at_builtin; refine wpList_append_Row rfl (.tmp 45) (.tmp 47) rfl (w.heap.size + 1) _ (.slice (some ⟨w4.heap.size, 0, none⟩) 1 1) D [f] rfl rfl HY.out.1 HY.out.2.1 (by have := HLE.out; simp; omega) HY.out.2.2.lt ?_; intro v' w5 ho5 hg5)
                have hst5 := HY.out.2.2.grown HY.out.1 hg5
                exact ⟨⟨k + 1, by omega, by go_num, by rw [HX.out], hst5, by rw [HX.out]; exact ho5⟩, by simp [intOf]; omega⟩
              · have HX : Hid (setP f (L.take (k + 1)) = (D, true)) := by unfold Hid; rw [HT.out, setS, if_pos hp]; rfl
                clear HT
                go_wp2_with fail
                exact ⟨⟨k + 1, by omega, by go_num, by rw [HX.out], hst4, by rw [HX.out]; exact ho4⟩, by simp [intOf]; omega⟩
          · have hd : decide ((k : Int) < L.length) = false := decide_eq_false (by omega)
            rw [List.take_of_length_le (by omega)] at hown
            rw [List.take_of_length_le (by omega : L.length ≤ k)]
            have HSL : Hid (setL f L = if (setP f L).2 then (setP f L).1 else (setP f L).1 ++ [f]) := rfl
            have HLE := hide (setP_le f L)
            rcases hP : setP f L with ⟨D, d⟩
            rw [hP] at hown HSL HLE
            simp only at hown HLE HSL
            clear hP
            cases d
            · rw [if_neg (by decide)] at HSL
              have e0 := hst.c0
              have e1 := hst.c1
              have HY := hide (And.intro (hown.alloc (.cells #[.string f.1, .string f.2] 39)) (And.intro (row_one wr f) (hst.alloc (.cells #[.string f.1, .string f.2] 39))))
              clear hown hst hbr
              go_wp2_with (at_builtin; refine wpList_append_Row rfl (.tmp 52) (.tmp 54) rfl (w.heap.size + 1) _ (.slice (some ⟨wr.heap.size, 0, none⟩) 1 1) D [f] rfl rfl HY.out.1 HY.out.2.1 (by have := HLE.out; simp; omega) HY.out.2.2.lt ?_; intro v' w5 ho5 hg5)
              have hst5 := HY.out.2.2.grown HY.out.1 hg5
              go_ret2
              exact ⟨_, ret_row rfl (by rw [HE.out.1]; rfl), by rw [HE.out.2, HSL.out]; exact ho5.mono (Nat.le_succ _), hst5.below⟩
            · rw [if_pos rfl] at HSL
              go_wp2_with fail
              go_ret2
              exact ⟨_, ret_row rfl (by rw [HE.out.1]; rfl), by rw [HE.out.2, HSL.out]; exact hown.mono (Nat.le_succ _), hst.below⟩

end Go.Proofs.YtojoidhjlbcijaaDoor
