/- A slice of acts that came in, opened. -/
import Derived.Test.YtcmbibdpopoaaaaWk
import Derived.Deep.SlicePairs
import Derived.ProofKit
namespace Go.Proofs.Ytcmbibdpopoaaaa
set_option linter.unusedVariables false
set_option linter.unusedSimpArgs false
open Go.RowKit Go.Deep Go.ChangeShapes Go.WideShapes

theorem spot_none {w : World} {a : Addr} {v : Value} (h : w.cell? a = some v) : a.spot = none := by
  cases hs : a.spot with
  | none => rfl
  | some x => simp [World.cell?, hs] at h; split at h <;> simp_all

theorem add_none (B off n : Nat) : (⟨B, off, none⟩ : Addr).add n = ⟨B, off + n, none⟩ := by
  unfold Addr.add
  split
  · simp_all
  · rfl

theorem open_acts {H : Type} {enc : TypeId × Value → H} {W : World} {fuel : Nat} {ad : Option Addr} {len cap : Nat} {x : DataW H × List MemPlace}
    (h : DataW.trod enc Try.prog W 0 (fun _ => true) true fuel 44 [.slice ad len cap] = some x) :
    ∃ (B off : Nat) (S : Nat → ByteArray) (T : Nat → Int), len ≤ maxLen ∧ ∀ i, i < len → ad = some ⟨B, off, none⟩ ∧ B < W.heap.size ∧ W.cell? ⟨B, off + i * 2, none⟩ = some (.string (S i)) ∧ W.cell? ⟨B, off + i * 2 + 1, none⟩ = some (.int .i64 (T i)) ∧ (S i).size ≤ maxLen := by
  rcases open_slice_pairs Try.underlying44 Try.underlying46 (by kernel_rfl) rfl rfl (by kernel_rfl) (by kernel_rfl) h with ⟨hcs, _⟩ | ⟨a, len', cap', m, n, V0, V1, D0, D1, P0, P1, hcs, hb, hl, hm, hmm, hx, hcell⟩
  · simp at hcs
    obtain ⟨rfl, rfl, rfl⟩ := hcs
    exact ⟨0, 0, fun _ => ⟨#[]⟩, fun _ => 0, Nat.zero_le _, fun i hi => absurd hi (Nat.not_lt_zero _)⟩
  · simp at hcs
    obtain ⟨rfl, rfl, rfl⟩ := hcs
    simp at hmm
    subst hmm
    have each : ∀ i, i < len → ∃ p : ByteArray × Int, V0 i = .string p.1 ∧ V1 i = .int .i64 p.2 ∧ p.1.size ≤ maxLen := by
      intro i hi
      obtain ⟨-, -, t0, t1⟩ := hcell i (by omega)
      obtain ⟨s, e0, -, ws⟩ := DataW.trod_string Try.underlying9 t0
      obtain ⟨z, e1, -, wz⟩ := DataW.trod_int Try.underlying3 t1
      simp at e0 e1
      exact ⟨(s, z), e0, e1, ws⟩
    obtain ⟨f, hf⟩ := choose_lt each
    refine ⟨a.block, a.off, fun i => (f i).1, fun i => (f i).2, by omega, fun i hi => ?_⟩
    obtain ⟨g0, g1, -, -⟩ := hcell i (by omega)
    obtain ⟨f0, f1, f2⟩ := hf i hi
    rw [f0] at g0
    rw [f1] at g1
    have hsp : a.spot = none := by
      obtain ⟨z0, -, -, -⟩ := hcell 0 (by omega)
      have e : a.add (0 * 2) = a := by simp [Addr.add]
      rw [e] at z0
      exact spot_none z0
    obtain ⟨B, off, sp⟩ := a
    simp only at hsp
    subst hsp
    rw [add_none] at g0 g1
    have hlt : B < W.heap.size := World.block_lt_of_cell? W ⟨B, off + i * 2, none⟩ g0
    exact ⟨rfl, hlt, g0, g1, f2⟩

end Go.Proofs.Ytcmbibdpopoaaaa
