/- A first line that was handed in is opened; a row of fields too. -/
import Derived.Test.YtojoidhjlbcijaaDoorRg
import Derived.Test.YtojoidhjlbcijaaDoorFr
import Derived.OpenShut
import Derived.ProofKit
namespace Go.Proofs.YtojoidhjlbcijaaDoor
set_option linter.unusedVariables false
set_option linter.unusedSimpArgs false
open Go.ChangeShapes Go.WideShapes Go.ChangeAt Go.RowKit

theorem array5 {α : Type} {cs : Array α} (h : cs.size = 5) : ∃ c0 c1 c2 c3 c4, cs = #[c0, c1, c2, c3, c4] := by
  obtain ⟨l⟩ := cs
  match l, h with
  | [c0, c1, c2, c3, c4], _ => exact ⟨c0, c1, c2, c3, c4, rfl⟩
theorem cells23 : Tryd.prog.cellsOf 23 = 5 := by kernel_rfl

set_option maxRecDepth 100000 in
theorem open_start {H : Type} {enc : TypeId × Value → H} {W : World} {b0 : Nat} {v : Value} {d : DataW H} {p : List MemPlace} (hv : Value.okWide Tryd.prog W .any b0 23 v) (h : DataW.Trod enc Tryd.prog W 0 (fun _ => true) true 23 v d p) :
    ∃ s : St, v = s.v ∧ s.m.size ≤ maxLen ∧ s.t.size ≤ maxLen ∧ s.r.size ≤ maxLen := by
  obtain ⟨cs, rfl, hsz⟩ := okWide_struct Tryd.underlying23 hv
  obtain ⟨c0, c1, c2, c3, c4, rfl⟩ := array5 (hsz.trans cells23)
  obtain ⟨fuel, hf⟩ := h
  obtain ⟨xs, n, _, hx, hl, hlen, hfld⟩ := DataW.trod_struct Tryd.underlying23 hf
  have k9 : Tryd.prog.cellsOf 9 = 1 := by kernel_rfl
  have k3 : Tryd.prog.cellsOf 3 = 1 := by kernel_rfl
  have len5 : xs.length = 5 := hlen
  have g0 := hfld 0 _ rfl
  have g1 := hfld 1 _ rfl
  have g2 := hfld 2 _ rfl
  have g3 := hfld 3 _ rfl
  have g4 := hfld 4 _ rfl
  simp only [k9, k3, Value.cells] at g0 g1 g2 g3 g4
  rw [List.getElem?_eq_getElem (by omega)] at g0 g1 g2 g3 g4
  obtain ⟨a0, e0, -, w0⟩ := DataW.trod_string Tryd.underlying9 g0
  obtain ⟨a1, e1, -, w1⟩ := DataW.trod_string Tryd.underlying9 g1
  obtain ⟨a2, e2, -, -⟩ := DataW.trod_int Tryd.underlying3 g2
  obtain ⟨a3, e3, -, w3⟩ := DataW.trod_string Tryd.underlying9 g3
  obtain ⟨a4, e4, -, -⟩ := DataW.trod_int Tryd.underlying3 g4
  simp [k9, k3] at e0 e1 e2 e3 e4
  subst e0 e1 e2 e3 e4
  exact ⟨⟨a0, a1, a2, a3, a4⟩, rfl, w0, w1, w3⟩

end Go.Proofs.YtojoidhjlbcijaaDoor
