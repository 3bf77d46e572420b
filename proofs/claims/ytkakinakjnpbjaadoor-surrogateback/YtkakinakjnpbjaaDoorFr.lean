/- A row of words that was handed in is opened. -/
import Derived.Test.YtkakinakjnpbjaaDoorFp
import Derived.OpenShut
import Derived.Deep.SlicePairs
import Derived.ProofKit
namespace Go.Proofs.YtkakinakjnpbjaaDoor
set_option linter.unusedVariables false
set_option linter.unusedSimpArgs false
open Go.ChangeShapes Go.WideShapes Go.RowKit Go.Deep

theorem open_words {H : Type} {enc : TypeId × Value → H} {W : World} {fuel : Nat} {ad : Option Addr} {len cap : Nat} {x : DataW H × List MemPlace}
    (h : DataW.trod enc Tryd.prog W 0 (fun _ => true) true fuel 23 [.slice ad len cap] = some x) :
    ∃ L : List Fd, len = L.length ∧ Row W (.slice ad L.length cap) L ∧ cap ≤ maxLen ∧ ∀ f ∈ L, f.1.size ≤ maxLen ∧ f.2.1.size ≤ maxLen ∧ f.2.2.size ≤ maxLen := by
  rcases open_slice Tryd.underlying23 h with ⟨hcs, _⟩ | ⟨a, len', cap', m, n, D, Pl, hcs, hb, hl, hm, hmm, hx, hcell⟩
  · simp at hcs
    obtain ⟨rfl, rfl, rfl⟩ := hcs
    exact ⟨[], rfl, Row.nil _, Nat.zero_le _, fun f hf => absurd hf (by simp)⟩
  · simp at hcs
    obtain ⟨rfl, rfl, rfl⟩ := hcs
    simp at hmm
    subst hmm
    have ce : Tryd.prog.cellsOf 31 = 3 := by kernel_rfl
    have cs9 : Tryd.prog.cellsOf 9 = 1 := by kernel_rfl
    have each : ∀ i, i < len → ∃ p : Fd, W.cell? (a.add (i * 3)) = some (.string p.1) ∧ W.cell? (a.add (i * 3 + 1)) = some (.string p.2.1) ∧ W.cell? (a.add (i * 3 + 2)) = some (.string p.2.2) ∧
        p.1.size ≤ maxLen ∧ p.2.1.size ≤ maxLen ∧ p.2.2.size ≤ maxLen := by
      intro i hi
      obtain ⟨cs', h1, h2⟩ := hcell i (by omega)
      rw [ce] at h1
      obtain ⟨_, hlen, hc⟩ := World.cells?_some h1
      obtain ⟨xs, k, hk, hxy, _, hxl, hf⟩ := DataW.trod_struct Tryd.underlying31 h2
      match xs, hxl, cs', hlen with
      | [y0, y1, y2], _, [v0, v1, v2], _ =>
        have g0 := hf 0 _ rfl
        have g1 := hf 1 _ rfl
        have g2 := hf 2 _ rfl
        simp [cs9] at g0 g1 g2
        have e0 := hc 0 (by omega)
        have e1 := hc 1 (by omega)
        have e2 := hc 2 (by omega)
        rw [add_add] at e0 e1 e2
        simp at e0 e1 e2
        obtain ⟨s, d0, -, ws⟩ := DataW.trod_string Tryd.underlying9 g0
        obtain ⟨z, d1, -, wz⟩ := DataW.trod_string Tryd.underlying9 g1
        obtain ⟨u, d2, -, wu⟩ := DataW.trod_string Tryd.underlying9 g2
        simp at d0 d1 d2
        subst d0 d1 d2
        exact ⟨(s, z, u), e0, e1, e2, ws, wz, wu⟩
    obtain ⟨f, hf⟩ := choose_lt each
    refine ⟨(List.range len).map f, by simp, ⟨some a, _, rfl, by simp; omega, fun i hi => ?_⟩, by omega, fun y hy => ?_⟩
    · have hi' : i < len := by simpa using hi
      obtain ⟨g0, g1, g2, -, -, -⟩ := hf i hi'
      have hsp : a.spot = none := by
        obtain ⟨z0, -, -, -⟩ := hf 0 (by omega)
        have e : a.add (0 * 3) = a := by simp [Addr.add]
        rw [e] at z0
        exact spot_none z0
      obtain ⟨b, off, sp⟩ := a
      simp only at hsp
      subst hsp
      rw [add_none] at g0 g1 g2
      refine ⟨b, off, rfl, block_lt_of_cell (a := ⟨b, off + i * 3, none⟩) g0, ?_, ?_, ?_⟩
      · simpa using g0
      · simpa [Nat.add_assoc] using g1
      · simpa [Nat.add_assoc] using g2
    · obtain ⟨i, hi, rfl⟩ := List.mem_map.1 hy
      obtain ⟨-, -, -, h3, h4, h5⟩ := hf i (List.mem_range.1 hi)
      exact ⟨h3, h4, h5⟩

end Go.Proofs.YtkakinakjnpbjaaDoor
