/- Small facts on worlds that every walk of this seat uses: what lies below a block number, cells that stay, wraps that do nothing. -/
import Derived.WalkKit
import Derived.WalkSpells
import Derived.WalkLawsBesides
import Derived.BigQuiet
import Derived.Deep.QuietTactic
import Derived.RegionTactic
import Derived.BigRegion
import Derived.Deep.RegionHeld3
import Derived.Deep.DeepCutAuto
import Derived.Deep.LoopGhost
import Derived.Deep.Slices
import Derived.ProofKit
import Derived.Deep.WholeRow
import Derived.Lib.AsciiSet
namespace Go.Proofs.YtojoidhjlbcijaaDoor
set_option linter.unusedVariables false
set_option linter.unusedSimpArgs false
set_option maxRecDepth 100000
open Go.RowKit

/-- Behind a call that keeps all that was there, every old cell reads as it did, and is as free to be written. -/
theorem stays {W W' : World} (h : Below W.heap.size W W') :
    (∀ n k, n < W.heap.size → W'.cell? ⟨n, k, none⟩ = W.cell? ⟨n, k, none⟩) ∧ ∀ n k, n < W.heap.size → W'.frozen? ⟨n, k, none⟩ = W.frozen? ⟨n, k, none⟩ := by
  constructor <;> intro n k hn
  · exact h.cell (p := ⟨n, k, none⟩) hn
  · exact h.frozen (p := ⟨n, k, none⟩) hn

theorem maxLen_of {n : Nat} (h : n ≤ 1000000000) : n ≤ maxLen := by unfold maxLen; omega

theorem i64_wrap_id (x : Int) (h1 : -1000000000000 ≤ x) (h2 : x ≤ 1000000000000) : IntKind.i64.wrap x = x := by
  simp [IntKind.wrap, IntKind.bits, IntKind.signed]
  omega

/-- In block N lie these cells. -/
def Cs (w : World) (N : Nat) (vs : List Value) : Prop := (∀ i v, vs[i]? = some v → w.cell? ⟨N, i, none⟩ = some v) ∧ N < w.heap.size

theorem Cs.below {w w' : World} {N : Nat} {vs : List Value} (h : Cs w N vs) (hb : Below w.heap.size w w') : Cs w' N vs :=
  ⟨fun i v hv => (hb.cell (p := ⟨N, i, none⟩) h.2).trans (h.1 i v hv), Nat.lt_of_lt_of_le h.2 hb.size⟩

theorem Cs.alloc {w : World} {N : Nat} {vs : List Value} (h : Cs w N vs) (o : Obj) : Cs (w.alloc o) N vs := h.below ((Below.refl _ _).alloc (Nat.le_refl _) o)

theorem Cs.new (w : World) (vs : Array Value) (t : TypeId) : Cs (w.alloc (.cells vs t)) w.heap.size vs.toList :=
  ⟨fun i v hv => by rw [World.cell?_alloc_new]; simpa using hv, by simp⟩

/-- Block N may be written. -/
def Fz (w : World) (N : Nat) : Prop := ∀ o, w.frozen? ⟨N, o, none⟩ = false

theorem Fz.below {w w' : World} {N : Nat} (h : Fz w N) (hN : N < w.heap.size) (hb : Below w.heap.size w w') : Fz w' N := fun o => (hb.frozen (p := ⟨N, o, none⟩) hN).trans (h o)

/-- What a region's walk carries: below W0's size nothing has turned. -/
def Kept (W0 w' : World) : Prop := Below W0.heap.size W0 w'

theorem spot_none {w : World} {a : Addr} {v : Value} (h : w.cell? a = some v) : a.spot = none := by
  cases hs : a.spot with
  | none => rfl
  | some x => simp [World.cell?, hs] at h; split at h <;> simp_all

theorem add_none (B off n : Nat) : (⟨B, off, none⟩ : Addr).add n = ⟨B, off + n, none⟩ := by
  unfold Addr.add
  split
  · simp_all
  · rfl

end Go.Proofs.YtojoidhjlbcijaaDoor
