/- A row of fields that was handed in is opened. -/
import Derived.Test.YtojoidhjlbcijaaDoorWk
import Derived.OpenShut
import Derived.Deep.SlicePairs
import Derived.ProofKit
namespace Go.Proofs.YtojoidhjlbcijaaDoor
set_option linter.unusedVariables false
set_option linter.unusedSimpArgs false
set_option maxRecDepth 100000
open Go.ChangeShapes Go.WideShapes Go.RowKit Go.Deep

theorem open_fields {H : Type} {enc : TypeId × Value → H} {W : World} {fuel : Nat} {ad : Option Addr} {len cap : Nat} {x : DataW H × List MemPlace}
    (h : DataW.trod enc Tryd.prog W 0 (fun _ => true) true fuel 24 [.slice ad len cap] = some x) :
    ∃ L : List Fd, len = L.length ∧ Row W (.slice ad L.length cap) L ∧ cap ≤ maxLen ∧ ∀ f ∈ L, f.1.size ≤ maxLen ∧ f.2.size ≤ maxLen := by
  rcases open_slice_pairs Tryd.underlying24 Tryd.underlying39 (by kernel_rfl) rfl rfl (by kernel_rfl) (by kernel_rfl) h with ⟨hcs, _⟩ | ⟨a, len', cap', m, n, V0, V1, D0, D1, P0, P1, hcs, hb, hl, hm, hmm, hx, hcell⟩
  · simp at hcs
    obtain ⟨rfl, rfl, rfl⟩ := hcs
    exact ⟨[], rfl, Row.nil _, Nat.zero_le _, fun f hf => absurd hf (by simp)⟩
  · simp at hcs
    obtain ⟨rfl, rfl, rfl⟩ := hcs
    simp at hmm
    subst hmm
    have each : ∀ i, i < len → ∃ p : Fd, V0 i = .string p.1 ∧ V1 i = .string p.2 ∧ p.1.size ≤ maxLen ∧ p.2.size ≤ maxLen := by
      intro i hi
      obtain ⟨-, -, t0, t1⟩ := hcell i (by omega)
      obtain ⟨s, e0, -, ws⟩ := DataW.trod_string Tryd.underlying9 t0
      obtain ⟨z, e1, -, wz⟩ := DataW.trod_string Tryd.underlying9 t1
      simp at e0 e1
      exact ⟨(s, z), e0, e1, ws, wz⟩
    obtain ⟨f, hf⟩ := choose_lt each
    refine ⟨(List.range len).map f, by simp, ⟨some a, _, rfl, by simp; omega, fun i hi => ?_⟩, by omega, fun y hy => ?_⟩
    · have hi' : i < len := by simpa using hi
      obtain ⟨g0, g1, -, -⟩ := hcell i (by omega)
      obtain ⟨f0, f1, f2, f3⟩ := hf i hi'
      rw [f0] at g0
      rw [f1] at g1
      have hsp : a.spot = none := by
        obtain ⟨z0, -, -, -⟩ := hcell 0 (by omega)
        have e : a.add (0 * 2) = a := by simp [Addr.add]
        rw [e] at z0
        exact spot_none z0
      obtain ⟨B, off, sp⟩ := a
      simp only at hsp
      subst hsp
      rw [add_none] at g0 g1
      refine ⟨B, off, rfl, World.block_lt_of_cell? W ⟨B, off + i * 2, none⟩ g0, ?_, ?_⟩
      · rw [g0]; simp
      · rw [show off + i * 2 + 1 = off + (i * 2 + 1) by omega] at *
        rw [g1]; simp
    · obtain ⟨i, hi, rfl⟩ := List.mem_map.1 hy
      obtain ⟨-, -, f2, f3⟩ := hf i (by simpa using hi)
      exact ⟨f2, f3⟩

end Go.Proofs.YtojoidhjlbcijaaDoor
