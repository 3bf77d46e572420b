/- The walk of the program's setting. -/
import Derived.Test.YtojoidhjlbcijaaDoorWu
namespace Go.Proofs.YtojoidhjlbcijaaDoor
set_option linter.unusedVariables false
set_option linter.unusedSimpArgs false
set_option maxRecDepth 100000
open Go.RowKit

theorem fold_none {f : Fd} {P : List Fd} (h : ∀ x ∈ P, nm f.1 x = false) (o : List Fd) (d : Bool) : P.foldl (setS f) (o, d) = (o ++ P, d) := by
  induction P generalizing o with
  | nil => simp
  | cons x P ih =>
    rw [List.foldl_cons, setS, if_neg (by rw [h x (by simp)]; decide), ih (fun y hy => h y (by simp [hy]))]
    simp
theorem fold_done (f : Fd) (S : List Fd) (o : List Fd) : S.foldl (setS f) (o, true) = (o ++ delF f.1 S, true) := by
  induction S generalizing o with
  | nil => simp [delF]
  | cons x S ih =>
    rw [List.foldl_cons, setS]
    cases h : nm f.1 x
    · rw [if_neg (by decide), ih]; simp [delF, h]
    · rw [if_pos rfl, if_pos rfl, ih]; simp [delF, h]
theorem del_none {n : ByteArray} {P : List Fd} (h : ∀ x ∈ P, nm n x = false) : delF n P = P := by
  unfold delF
  rw [List.filter_eq_self]
  intro x hx
  rw [h x hx]; rfl
theorem del_append (n : ByteArray) (P S : List Fd) : delF n (P ++ S) = delF n P ++ delF n S := by simp [delF]

theorem first_parts {n : ByteArray} {L : List Fd} (h : L.any (nm n) = true) : ∃ P x S, L = P ++ x :: S ∧ (∀ y ∈ P, nm n y = false) ∧ nm n x = true ∧ ixF (nm n) L = P.length := by
  have hl : L.findIdx (nm n) < L.length := by rw [List.findIdx_lt_length]; exact List.any_eq_true.1 h
  have hp : ∀ y ∈ L.take (L.findIdx (nm n)), nm n y = false := by
    intro y hy
    obtain ⟨j, hj, rfl⟩ := List.mem_take_iff_getElem.1 hy
    exact List.not_of_lt_findIdx (Nat.lt_of_lt_of_le hj (Nat.min_le_left _ _))
  have hx : nm n L[L.findIdx (nm n)] = true := List.findIdx_getElem
  refine ⟨L.take (L.findIdx (nm n)), L[L.findIdx (nm n)], L.drop (L.findIdx (nm n) + 1), ?_, hp, hx, ?_⟩
  · rw [← List.drop_eq_getElem_cons hl, List.take_append_drop]
  · rw [ix_hit hl hx hp, List.length_take, Nat.min_eq_left (by omega)]
theorem set_hit {f : Fd} {L : List Fd} (h : L.any (nm f.1) = true) : ∃ i : Nat, ixF (nm f.1) L = i ∧ i ≤ (delF f.1 L).length ∧ setL f L = insF i f (delF f.1 L) := by
  obtain ⟨P, x, S, rfl, hp, hx, hi⟩ := first_parts h
  have hd : delF f.1 (P ++ x :: S) = P ++ delF f.1 S := by
    rw [del_append, del_none hp]; simp [delF, hx]
  refine ⟨P.length, hi, by rw [hd]; simp, ?_⟩
  rw [hd, insF, List.take_left' rfl, List.drop_left' rfl]
  have h1 : setS f ([] ++ P, false) x = (P ++ [f], true) := by unfold setS; rw [if_pos hx]; simp
  unfold setL setP
  rw [List.foldl_append, fold_none hp, List.foldl_cons, h1, fold_done]
  simp
theorem set_miss {f : Fd} {L : List Fd} (h : L.any (nm f.1) = false) : ixF (nm f.1) L = -1 ∧ setL f L = delF f.1 L ++ [f] := by
  have hp : ∀ x ∈ L, nm f.1 x = false := fun x hx => by
    have := (List.any_eq_false.1 h) x hx
    simpa using this
  refine ⟨ix_miss hp, ?_⟩
  unfold setL setP
  rw [fold_none hp, del_none hp]; simp
theorem del_right {n : ByteArray} {L : List Fd} (h : rightF L = true) : rightF (delF n L) = true := by
  unfold rightF at *
  simp only [Bool.and_eq_true, decide_eq_true_eq, List.all_eq_true] at *
  exact ⟨Nat.le_trans (del_le n L) h.1, fun f hf => h.2 f (List.mem_filter.1 hf).1⟩

theorem own_at {w : World} {base : Nat} {v : Value} {D : List Fd} {f : Fd} (h : Own w base v (D ++ [f])) : ∃ g off cap, v = .slice (some ⟨g, off, none⟩) (D.length + 1) cap ∧ w.cell? ⟨g, off + D.length * 2, none⟩ = some (.string f.1) ∧ w.cell? ⟨g, off + D.length * 2 + 1, none⟩ = some (.string f.2) ∧ g < w.heap.size := by
  obtain ⟨a, cap, rfl, hcap, hR⟩ := h.row
  obtain ⟨g, off, rfl, hg, c0, c1⟩ := hR D.length (by simp)
  refine ⟨g, off, cap, by simp, ?_, ?_, hg⟩
  · rw [c0]; simp
  · rw [c1]; simp

set_option maxHeartbeats 8000000 in
theorem set_any (L : List Fd) (v : Value) (f : Fd) (w : World) (hr : Row w v L) (hl : L.length ≤ 900) (hs : Sh L) (hf1 : f.1.size ≤ 100000) (hf2 : f.2.size ≤ 100000) :
    Calls Tryd.prog 26 #[v, .string f.1, .string f.2] w fun e w' => ∃ r, e = .returned (.tuple #[r, .int .i64 (setE L f : Nat)]) ∧ Own w' w.heap.size r (setR L f) ∧ Below w.heap.size w w' := by
  have HR := hide hr
  have HS := hide hs
  have HDL := hide (del_le f.1 L)
  obtain ⟨aa, ca, rfl⟩ := hr.slice
  clear hr hs
  go_enter Tryd.func26, Tryd.ntmps26
  go_wp2_with fail
  refine (right_any L _ _ HR.out (by omega) HS.out).mono ?_
  rintro e w1 ⟨rfl, hb1⟩
  cases hrt : rightF L
  · have HE := hide (set_arg (f := f) (show (rightF L && mayF f) = false by rw [hrt]; rfl))
    try rw [hrt]
    go_wp2_with fail
    go_ret2
    exact ⟨_, ret_row rfl (by rw [HE.out.1]; rfl), by rw [HE.out.2]; exact Own.nil _ _, hb1⟩
  · have HDR := hide (del_right (n := f.1) hrt)
    go_wp2_with fail
    refine (remove_any L _ f.1 w1 (HR.out.below hb1) (by omega) HS.out (by omega)).mono ?_
    rintro e w2 ⟨others, rfl, ho2, hb2⟩
    have hB2 := hb1.trans (hb2.mono hb1.size)
    have HO2 := hide (ho2.mono hb1.size)
    have hdl : (delF f.1 L).length ≤ 900 := Nat.le_trans HDL.out hl
    clear hb1 hb2 ho2
    go_wp2_with fail
    refine (add_any (delF f.1 L) others f w2 HO2.out.row (by omega) (del_short HS.out) hf1 hf2).mono ?_
    rintro e w3 ⟨row, rfl, ho3, hb3⟩
    have hB3 := hB2.trans (hb3.mono hB2.size)
    have HO3 := hide (HO2.out.below hb3)
    have hsz3 := hb3.size
    have hsz2 := hB2.size
    clear HO2 hB2 hb3
    cases hmy : mayF f
    · have hE1 := (add_arg (L := delF f.1 L) (f := f) (show (rightF (delF f.1 L) && mayF f) = false by rw [HDR.out, hmy]; rfl)).1
      have HE := hide (set_arg (f := f) (show (rightF L && mayF f) = false by rw [hrt, hmy]; rfl))
      rw [hE1]
      clear hE1 ho3
      go_wp2_with fail
      go_ret2
      exact ⟨_, ret_row rfl (by rw [HE.out.1]; rfl), by rw [HE.out.2]; exact Own.nil _ _, hB3⟩
    · have hboth : (rightF L && mayF f) = true := by rw [hrt, hmy]; rfl
      have hboth2 : (rightF (delF f.1 L) && mayF f) = true := by rw [HDR.out, hmy]; rfl
      by_cases h40 : (delF f.1 L).length = 40
      · have hE1 := (add_many hboth2 h40).1
        have HE := hide (set_many hboth h40)
        rw [hE1]
        clear hE1 ho3 hboth hboth2
        go_wp2_with fail
        go_ret2
        exact ⟨_, ret_row rfl (by rw [HE.out.1]; rfl), by rw [HE.out.2]; exact Own.nil _ _, hB3⟩
      · have hE1 := add_okay hboth2 h40
        have HE := hide (set_okay hboth h40)
        rw [hE1.1]
        rw [hE1.2] at ho3
        clear hE1 hboth hboth2
        have HR3 := hide (HR.out.below (hB3.trans ((one_alloc w3 #[.string f.1] 9).mono hB3.size)))
        have hn3 : (w3.alloc (.cells #[.string f.1] 9)).cell? ⟨w3.heap.size, 0, none⟩ = some (.string f.1) := by go_simp
        have HN3 := hide hn3
        have HROW := hide ho3
        clear hn3 ho3
        go_wp2_with fail
        refine (named_any f.1 w3).mono ?_
        rintro e w4 ⟨rfl, rfl⟩
        go_wp2_with fail
        refine (index_named L _ f.1 w3.heap.size _ HR3.out (by omega) HS.out (by omega) HN3.out).mono ?_
        rintro e w5 ⟨rfl, hb5⟩
        have hb35 := (one_alloc w3 #[.string f.1] 9).trans (hb5.mono (one_alloc w3 #[.string f.1] 9).size)
        have hB5 := hB3.trans (hb35.mono hB3.size)
        have HO5 := hide (HO3.out.below hb35)
        have HROW5 := hide (HROW.out.below hb35)
        have hs35 := hb35.size
        clear hb5 HR3 HN3 HROW HO3
        cases hany : L.any (nm f.1)
        · obtain ⟨hix, hse⟩ := set_miss hany
          have HSE := hide hse
          rw [hix]
          clear hix hse hb35
          go_wp2_with fail
          go_ret2
          exact ⟨_, ret_row rfl (by rw [HE.out.1]; rfl), by rw [HE.out.2, HSE.out]; exact HROW5.out.mono hsz2, hB5⟩
        · obtain ⟨i, hix, hil, hse⟩ := set_hit hany
          have HSE := hide hse
          rw [hix]
          obtain ⟨g, off, cap, hrow, r0, r1, hg⟩ := own_at HROW5.out
          subst hrow
          obtain ⟨ao, co, ho⟩ := HO5.out.row.slice
          subst ho
          have hil' : i ≤ (delF f.1 L).length := hil
          have hpos : (0 : Int) ≤ i := by omega
          have hx5 : (w5.alloc (.cells #[.string f.1, .string f.2] 39)).heap[w5.heap.size]? = some (.cells #[.string f.1, .string f.2] 39 (0, 0)) := heap_alloc_new w5 _
          have hne5 : (Value.slice ao (delF f.1 L).length co).ownBlock ≠ some w5.heap.size := fun e => by
            have := (World.ownsRow.lt HO5.out w5.heap.size e).2; omega
          have hba : w.heap.size ≤ (w5.alloc (.cells #[.string f.1, .string f.2] 39)).heap.size := by have := hB5.size; simp; omega
          have HI := hide (And.intro (HO5.out.alloc (.cells #[.string f.1, .string f.2] 39)) (And.intro hba (And.intro hne5 hx5)))
          obtain ⟨dn, hdn⟩ : ∃ dn, (delF f.1 L).length = dn := ⟨_, rfl⟩
          have HDN := hide hdn
          rw [hdn] at r0 r1 hil' hdl HI ⊢
          have hB6 := hB5.alloc hB5.size (.cells #[.string f.1, .string f.2] 39)
          clear hb35 hix hse hil hba hne5 hx5 hdn HROW5 HO5 HDL h40
          go_wp2_with fail
          refine (insert_any (delF f.1 L) _ i w5.heap.size w.heap.size f _ (by rw [HDN.out]; omega) (by rw [HDN.out]; exact hil') HI.out.1 HI.out.2.1 HI.out.2.2.1 HI.out.2.2.2).mono ?_
          rintro e w6 ⟨r, rfl, ho6, hb6⟩
          go_wp2_with fail
          go_ret2
          exact ⟨_, ret_row rfl (by rw [HE.out.1]; rfl), by rw [HE.out.2, HSE.out]; exact ho6, hB6.trans hb6⟩

end Go.Proofs.YtojoidhjlbcijaaDoor
