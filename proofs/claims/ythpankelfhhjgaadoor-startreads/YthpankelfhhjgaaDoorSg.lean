/- What is said of a code: the walks of Reason, of the map that it makes, and of the document's own. -/
import Derived.Test.YthpankelfhhjgaaDoorSf
import Derived.Maps.OwnSet
import Derived.Maps.Views
namespace Go.Proofs.YthpankelfhhjgaaDoor
set_option linter.unusedVariables false
set_option linter.unusedSimpArgs false
open Go.RowKit Go.Maps

/-- What is said of a code. -/
def saidL : List (Int × List UInt8) := [(200, [79, 75]), (304, [78, 111, 116, 32, 77, 111, 100, 105, 102, 105, 101, 100]), (400, [66, 97, 100, 32, 82, 101, 113, 117, 101, 115, 116]), (404, [78, 111, 116, 32, 70, 111, 117, 110, 100]), (413, [84, 111, 111, 32, 76, 97, 114, 103, 101]), (431, [70, 105, 101, 108, 100, 115, 32, 84, 111, 111, 32, 76, 97, 114, 103, 101]), (500, [73, 110, 116, 101, 114, 110, 97, 108, 32, 69, 114, 114, 111, 114]), (502, [66, 97, 100, 32, 71, 97, 116, 101, 119, 97, 121]), (504, [71, 97, 116, 101, 119, 97, 121, 32, 84, 105, 109, 101, 111, 117, 116])]
def unkL : List UInt8 := [85, 110, 107, 110, 111, 119, 110]
def lookL : List (Int × List UInt8) → Int → Option (List UInt8)
  | [], _ => none
  | p :: l, c => if p.1 = c then some p.2 else lookL l c
def saidS (c : Int) : ByteArray := ⟨((lookL saidL c).getD unkL).toArray⟩
def knownB (c : Int) : Bool := (lookL saidL c).isSome

/-- How an element of that map reads. -/
def sayR (v : Value) : Option (DataW Unit × List MemPlace) :=
  match v with
  | .agg a => match a.toList with
    | [.string s] => some (.lit (.string s.data.toList), [])
    | _ => none
  | _ => none
theorem sayR_mk (s : ByteArray) : sayR (.agg #[.string s]) = some (.lit (.string s.data.toList), []) := rfl
theorem sayR_inv {v : Value} {z : DataW Unit × List MemPlace} (h : sayR v = some z) : ∃ s : ByteArray, v = .agg #[.string s] ∧ z = (.lit (.string s.data.toList), []) := by
  unfold sayR at h
  split at h
  · rename_i a
    split at h
    · rename_i s hs
      refine ⟨s, ?_, by simpa using h.symm⟩
      cases a
      simp at hs
      rw [hs]
    · cases h
  · cases h
theorem law3 : Keyed Tryd.prog 3 := int_keyed Tryd.underlying3
theorem zero50 (w : World) : (zeroValue 50).run Tryd.prog w = .ok (.agg #[.string ⟨#[]⟩]) w := by kernel_rfl

def D0 : DataW Unit := .map []
def D1 : DataW Unit := D0.put (.int .i64 200) (.lit (.string [79, 75]))
def D2 : DataW Unit := D1.put (.int .i64 304) (.lit (.string [78, 111, 116, 32, 77, 111, 100, 105, 102, 105, 101, 100]))
def D3 : DataW Unit := D2.put (.int .i64 400) (.lit (.string [66, 97, 100, 32, 82, 101, 113, 117, 101, 115, 116]))
def D4 : DataW Unit := D3.put (.int .i64 404) (.lit (.string [78, 111, 116, 32, 70, 111, 117, 110, 100]))
def D5 : DataW Unit := D4.put (.int .i64 413) (.lit (.string [84, 111, 111, 32, 76, 97, 114, 103, 101]))
def D6 : DataW Unit := D5.put (.int .i64 431) (.lit (.string [70, 105, 101, 108, 100, 115, 32, 84, 111, 111, 32, 76, 97, 114, 103, 101]))
def D7 : DataW Unit := D6.put (.int .i64 500) (.lit (.string [73, 110, 116, 101, 114, 110, 97, 108, 32, 69, 114, 114, 111, 114]))
def D8 : DataW Unit := D7.put (.int .i64 502) (.lit (.string [66, 97, 100, 32, 71, 97, 116, 101, 119, 97, 121]))
def D9 : DataW Unit := D8.put (.int .i64 504) (.lit (.string [71, 97, 116, 101, 119, 97, 121, 32, 84, 105, 109, 101, 111, 117, 116]))

theorem key_of {c : Int} (h : (Lit.int .i64 c).wf = true) : keyOf Tryd.prog 3 (.int .i64 c) = some (.int .i64 c) := keyOf_int_mk Tryd.underlying3 h
theorem below_map {w w1 w2 : World} (h : Below w.heap.size w w1) {b : Nat} (hb : w.heap.size ≤ b) (hg : w1.grownBy w2 (some b)) : Below w.heap.size w w2 := h.grown hg h.size (fun j hj => by cases hj; exact hb)

set_option maxRecDepth 100000 in
set_option maxHeartbeats 2000000 in
theorem phrases_any (w : World) :
    Calls Tryd.prog 31 #[] w fun e w' => e = .returned (.map (some w.heap.size)) ∧ w'.ownsMap Tryd.prog 3 sayR w.heap.size 9 D9 ∧ Below w.heap.size w w' := by
  have hmm := @run_makeMap Tryd.prog
  have ho0 : (w.alloc (.map #[] 0)).ownsMap Tryd.prog 3 sayR w.heap.size 0 D0 := World.ownsMap_made w Tryd.prog 3 sayR
  have hb0 : Below w.heap.size w (w.alloc (.map #[] 0)) := (Below.refl _ _).alloc (Nat.le_refl _) _
  obtain ⟨w1, hr1, ho1, hg1⟩ := ho0.update law3 Tryd.underlying52 (by unfold maxLen; omega) (key_of (c := 200) (by decide)) (sayR_mk ⟨#[79, 75]⟩)
  have hb1 := below_map hb0 (Nat.le_refl _) hg1
  obtain ⟨w2, hr2, ho2, hg2⟩ := ho1.update law3 Tryd.underlying52 (by unfold maxLen; omega) (key_of (c := 304) (by decide)) (sayR_mk ⟨#[78, 111, 116, 32, 77, 111, 100, 105, 102, 105, 101, 100]⟩)
  have hb2 := below_map hb1 (Nat.le_refl _) hg2
  obtain ⟨w3, hr3, ho3, hg3⟩ := ho2.update law3 Tryd.underlying52 (by unfold maxLen; omega) (key_of (c := 400) (by decide)) (sayR_mk ⟨#[66, 97, 100, 32, 82, 101, 113, 117, 101, 115, 116]⟩)
  have hb3 := below_map hb2 (Nat.le_refl _) hg3
  obtain ⟨w4, hr4, ho4, hg4⟩ := ho3.update law3 Tryd.underlying52 (by unfold maxLen; omega) (key_of (c := 404) (by decide)) (sayR_mk ⟨#[78, 111, 116, 32, 70, 111, 117, 110, 100]⟩)
  have hb4 := below_map hb3 (Nat.le_refl _) hg4
  obtain ⟨w5, hr5, ho5, hg5⟩ := ho4.update law3 Tryd.underlying52 (by unfold maxLen; omega) (key_of (c := 413) (by decide)) (sayR_mk ⟨#[84, 111, 111, 32, 76, 97, 114, 103, 101]⟩)
  have hb5 := below_map hb4 (Nat.le_refl _) hg5
  obtain ⟨w6, hr6, ho6, hg6⟩ := ho5.update law3 Tryd.underlying52 (by unfold maxLen; omega) (key_of (c := 431) (by decide)) (sayR_mk ⟨#[70, 105, 101, 108, 100, 115, 32, 84, 111, 111, 32, 76, 97, 114, 103, 101]⟩)
  have hb6 := below_map hb5 (Nat.le_refl _) hg6
  obtain ⟨w7, hr7, ho7, hg7⟩ := ho6.update law3 Tryd.underlying52 (by unfold maxLen; omega) (key_of (c := 500) (by decide)) (sayR_mk ⟨#[73, 110, 116, 101, 114, 110, 97, 108, 32, 69, 114, 114, 111, 114]⟩)
  have hb7 := below_map hb6 (Nat.le_refl _) hg7
  obtain ⟨w8, hr8, ho8, hg8⟩ := ho7.update law3 Tryd.underlying52 (by unfold maxLen; omega) (key_of (c := 502) (by decide)) (sayR_mk ⟨#[66, 97, 100, 32, 71, 97, 116, 101, 119, 97, 121]⟩)
  have hb8 := below_map hb7 (Nat.le_refl _) hg8
  obtain ⟨w9, hr9, ho9, hg9⟩ := ho8.update law3 Tryd.underlying52 (by unfold maxLen; omega) (key_of (c := 504) (by decide)) (sayR_mk ⟨#[71, 97, 116, 101, 119, 97, 121, 32, 84, 105, 109, 101, 111, 117, 116]⟩)
  have hb9 := below_map hb8 (Nat.le_refl _) hg9
  clear ho0 ho1 ho2 ho3 ho4 ho5 ho6 ho7 ho8 hb0 hb1 hb2 hb3 hb4 hb5 hb6 hb7 hb8 hg1 hg2 hg3 hg4 hg5 hg6 hg7 hg8 hg9
  go_enter Tryd.func31, Tryd.ntmps31
  go_wp2_with fail
  go_ret
  exact ⟨rfl, ho9, hb9⟩

theorem isMap_put {D : DataW Unit} (h : IsMap D) (k : Lit) (d : DataW Unit) : IsMap (D.put k d) := by
  obtain ⟨es, rfl⟩ := h
  exact ⟨_, rfl⟩
theorem key_lit (c : Int) : WideAt.IsKeyLit (.int .i64 c) := trivial
theorem key_ne {a b : Int} (h : a ≠ b) : Lit.int .i64 b ≠ Lit.int .i64 a := fun e => h (by cases e; rfl)
theorem map0 : IsMap D0 := ⟨[], rfl⟩
theorem has0 (c : Int) : Maps.has D0 (.int .i64 c) = (lookL [] c).isSome := rfl
theorem at0 (c : Int) (z : DataW Unit) : D0.atKey (.int .i64 c) z = z := rfl
theorem put_has {D : DataW Unit} (hD : IsMap D) (a c : Int) (d : DataW Unit) : Maps.has (D.put (.int .i64 a) d) (.int .i64 c) = (decide (a = c) || Maps.has D (.int .i64 c)) := by
  by_cases h : a = c
  · subst h; rw [has_put_same hD (key_lit a)]; simp
  · rw [has_put_other (key_ne h), decide_eq_false h]; rfl
theorem put_at {D : DataW Unit} (hD : IsMap D) (a c : Int) (d z : DataW Unit) : (D.put (.int .i64 a) d).atKey (.int .i64 c) z = if a = c then d else D.atKey (.int .i64 c) z := by
  by_cases h : a = c
  · subst h; rw [atKey_put_same hD (key_lit a), if_pos rfl]
  · rw [atKey_put_other (key_ne h), if_neg h]

theorem map1 : IsMap D1 := isMap_put map0 _ _
theorem map2 : IsMap D2 := isMap_put map1 _ _
theorem map3 : IsMap D3 := isMap_put map2 _ _
theorem map4 : IsMap D4 := isMap_put map3 _ _
theorem map5 : IsMap D5 := isMap_put map4 _ _
theorem map6 : IsMap D6 := isMap_put map5 _ _
theorem map7 : IsMap D7 := isMap_put map6 _ _
theorem map8 : IsMap D8 := isMap_put map7 _ _
theorem map9 : IsMap D9 := isMap_put map8 _ _

theorem has9 (c : Int) : Maps.has D9 (.int .i64 c) = knownB c := by
  rw [D9, put_has map8]
  rw [D8, put_has map7]
  rw [D7, put_has map6]
  rw [D6, put_has map5]
  rw [D5, put_has map4]
  rw [D4, put_has map3]
  rw [D3, put_has map2]
  rw [D2, put_has map1]
  rw [D1, put_has map0]
  rw [has0]
  unfold knownB saidL
  by_cases h0 : (200 : Int) = c
  · subst h0; rfl
  by_cases h1 : (304 : Int) = c
  · subst h1; rfl
  by_cases h2 : (400 : Int) = c
  · subst h2; rfl
  by_cases h3 : (404 : Int) = c
  · subst h3; rfl
  by_cases h4 : (413 : Int) = c
  · subst h4; rfl
  by_cases h5 : (431 : Int) = c
  · subst h5; rfl
  by_cases h6 : (500 : Int) = c
  · subst h6; rfl
  by_cases h7 : (502 : Int) = c
  · subst h7; rfl
  by_cases h8 : (504 : Int) = c
  · subst h8; rfl
  simp only [lookL, h0, h1, h2, h3, h4, h5, h6, h7, h8]
  rfl
theorem at9 {c : Int} (h : knownB c = true) (z : DataW Unit) : D9.atKey (.int .i64 c) z = .lit (.string (saidS c).data.toList) := by
  rw [D9, put_at map8]
  rw [D8, put_at map7]
  rw [D7, put_at map6]
  rw [D6, put_at map5]
  rw [D5, put_at map4]
  rw [D4, put_at map3]
  rw [D3, put_at map2]
  rw [D2, put_at map1]
  rw [D1, put_at map0]
  by_cases h0 : (200 : Int) = c
  · subst h0; rfl
  by_cases h1 : (304 : Int) = c
  · subst h1; rfl
  by_cases h2 : (400 : Int) = c
  · subst h2; rfl
  by_cases h3 : (404 : Int) = c
  · subst h3; rfl
  by_cases h4 : (413 : Int) = c
  · subst h4; rfl
  by_cases h5 : (431 : Int) = c
  · subst h5; rfl
  by_cases h6 : (500 : Int) = c
  · subst h6; rfl
  by_cases h7 : (502 : Int) = c
  · subst h7; rfl
  by_cases h8 : (504 : Int) = c
  · subst h8; rfl
  unfold knownB saidL at h
  simp only [lookL, h0, h1, h2, h3, h4, h5, h6, h7, h8] at h
  cases h
theorem said_no {c : Int} (h : knownB c = false) : saidS c = ⟨#[85, 110, 107, 110, 111, 119, 110]⟩ := by
  unfold knownB at h
  unfold saidS
  cases e : lookL saidL c with
  | none => rfl
  | some x => rw [e] at h; cases h

/-- What the look-up answers. -/
theorem look9 {w : World} {b : Nat} (h : w.ownsMap Tryd.prog 3 sayR b 9 D9) {c : Int} (hc : (Lit.int .i64 c).wf = true) :
    ∃ x : ByteArray, (Instr.lookup 52 (.map (some b)) (.int .i64 c) true).run Tryd.prog w = .ok (.tuple #[.agg #[.string x], .bool (knownB c)]) w ∧ (knownB c = true → x = saidS c) := by
  obtain ⟨v, ps, hrun, hv⟩ := h.look_ok law3 Tryd.underlying52 (zero50 w) (sayR_mk ⟨#[]⟩) (key_of hc)
  obtain ⟨x, rfl, hx⟩ := sayR_inv hv
  rw [has9] at hrun
  refine ⟨x, hrun, fun hk => ?_⟩
  rw [at9 hk] at hx
  simp only [Prod.mk.injEq] at hx
  have := hx.1
  injection this with this
  injection this with this
  exact bytes_ext this.symm

set_option maxRecDepth 100000 in
set_option maxHeartbeats 1000000 in
theorem reason_any (c : Int) (hc : (Lit.int .i64 c).wf = true) (w : World) :
    Calls Tryd.prog 14 #[.int .i64 c] w fun e w' => e = .returned (.string (saidS c)) ∧ Below w.heap.size w w' := by
  go_enter Tryd.func14, Tryd.ntmps14
  go_wp2_with fail
  refine (phrases_any w).mono ?_
  rintro e w1 ⟨rfl, ho, hb⟩
  obtain ⟨x, hrun, hx⟩ := look9 ho hc
  cases hk : knownB c
  · rw [hk] at hrun
    have HR := hide (said_no hk)
    clear hx hk
    go_wp2_with fail
    go_ret
    exact ⟨by rw [HR.out]; rfl, hb.alloc hb.size _⟩
  · rw [hk] at hrun
    have HR := hide (hx hk)
    clear hx hk
    go_wp2_with fail
    go_ret
    exact ⟨by rw [HR.out]; rfl, hb.alloc hb.size _⟩

end Go.Proofs.YthpankelfhhjgaaDoor
