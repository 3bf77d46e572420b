/- The walks of the document's own adding, and of the field that is put behind and is there. -/
import Derived.Test.YtojoidhjlbcijaaDoorWq
namespace Go.Proofs.YtojoidhjlbcijaaDoor
set_option linter.unusedVariables false
set_option linter.unusedSimpArgs false
set_option maxRecDepth 100000
open Go.RowKit

theorem row_one (w : World) (f : Fd) : Row (w.alloc (.cells #[.string f.1, .string f.2] 39)) (.slice (some ⟨w.heap.size, 0, none⟩) 1 1) [f] := by
  refine ⟨some ⟨w.heap.size, 0, none⟩, 1, rfl, Nat.le_refl _, fun k hk => ⟨w.heap.size, 0, rfl, by simp, ?_, ?_⟩⟩
  · obtain rfl : k = 0 := by simp at hk; omega
    go_simp
  · obtain rfl : k = 0 := by simp at hk; omega
    go_simp

theorem cell_grown {w w' : World} {base : Nat} {v : Value} {D : List Fd} (ho : Own w base v D) (hg : w.grownBy w' v.ownBlock) (hb : base ≤ w.heap.size) {g k : Nat} (hlt : g < base) {u : Value} (h : w.cell? ⟨g, k, none⟩ = some u) : w'.cell? ⟨g, k, none⟩ = some u :=
  (World.cell?_of_block (w := w) (a := ⟨g, k, none⟩) (hg.block g (by omega) (fun e => absurd (own_block ho g e.symm) (by omega)))).trans h
theorem base_alloc {w w' : World} {row : Option Nat} {base : Nat} {o : Obj} (hg : w.grownBy w' row) (hb : base ≤ w.heap.size) : base ≤ (w'.alloc o).heap.size := by
  have := hg.size; simp; omega
theorem own_above {w : World} {base : Nat} {v : Value} {L : List Fd} (h : Own w (base + 1) v L) : ∀ k, v.ownBlock = some k → base ≤ k := fun k hk => by have := own_block h k hk; omega

theorem alive_facts : addE [] (⟨#[97]⟩, ⟨#[49]⟩) = 0 ∧ addL [] (⟨#[97]⟩, ⟨#[49]⟩) = [(⟨#[97]⟩, ⟨#[49]⟩)] ∧ getS ⟨#[65]⟩ [(⟨#[97]⟩, ⟨#[49]⟩)] = ⟨#[49]⟩ ∧ hasB ⟨#[65]⟩ [(⟨#[97]⟩, ⟨#[49]⟩)] = true := by
  refine ⟨by decide +kernel, by decide +kernel, by decide +kernel, by decide +kernel⟩

end Go.Proofs.YtojoidhjlbcijaaDoor
