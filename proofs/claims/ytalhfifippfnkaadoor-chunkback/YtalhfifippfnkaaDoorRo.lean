/- A row of texts as it is handed in. -/
import Derived.Test.YtalhfifippfnkaaDoorRows
import Derived.Test.YtalhfifippfnkaaDoorCm
import Derived.ProofKit
import Derived.SliceStrings
import Derived.OpenShut
import Derived.ShutString
import Derived.ChangeOld
import Derived.Below
import Derived.Lib.SmallJoins
namespace Go.Proofs.YtalhfifippfnkaaDoor
set_option linter.unusedVariables false
set_option linter.unusedSimpArgs false
open Go.ChangeShapes Go.WideShapes Go.ChangeAt Go.RowKit Go.Joins
open Go.ChangeMaps (open_string shut_string)

theorem open_row {H : Type} {enc : TypeId × Value → H} {W : World} {fuel : Nat} {ad : Option Addr} {len cap : Nat} {x : DataW H × List MemPlace}
    (h : DataW.trod enc Tryd.prog W 0 (fun _ => true) true fuel 22 [.slice ad len cap] = some x) :
    ∃ (B off : Nat) (S : Nat → ByteArray), len ≤ cap ∧ cap ≤ maxLen ∧ ∀ i, i < len → ad = some ⟨B, off, none⟩ ∧ B < W.heap.size ∧ W.cell? ⟨B, off + i, none⟩ = some (.string (S i)) ∧ (S i).size ≤ maxLen := by
  rcases open_strings Tryd.underlying22 Tryd.underlying9 (by kernel_rfl) h with ⟨hcs, _⟩ | ⟨a, len', cap', ss, hcs, hb, hl, hm, hz, hx, hcell, hws⟩
  · simp at hcs
    obtain ⟨rfl, rfl, rfl⟩ := hcs
    exact ⟨0, 0, fun _ => ⟨#[]⟩, Nat.le_refl _, Nat.zero_le _, fun i hi => absurd hi (Nat.not_lt_zero _)⟩
  · simp at hcs
    obtain ⟨rfl, rfl, rfl⟩ := hcs
    simp at hz
    refine ⟨a.block, a.off, fun i => ss.getD i ByteArray.empty, hl, hm, fun i hi => ?_⟩
    have hsp : a.spot = none := by
      have z0 := hcell 0 (by omega)
      have e : a.add 0 = a := by simp [Addr.add]
      rw [e] at z0
      exact spot_none z0
    have hc := hcell i (by omega)
    obtain ⟨B, off, sp⟩ := a
    simp only at hsp
    subst hsp
    rw [add_none] at hc
    refine ⟨rfl, block_lt_of_cell (a := ⟨B, off + i, none⟩) hc, hc, ?_⟩
    apply hws
    show ss.getD i ByteArray.empty ∈ ss
    rw [List.getD_eq_getElem?_getD, List.getElem?_eq_getElem (by omega)]
    exact List.getElem_mem _

end Go.Proofs.YtalhfifippfnkaaDoor
