/- Messages that were handed in are opened. What the listed tables give to the walks; the start in which they lie as they are listed. -/
import Derived.Test.YtmpijlaidnhpnaaGreatDoorJXa
import Derived.ProofKit
import Derived.OpenShut
import Derived.Deep.SlicePairs
import Derived.Lib.SmallJoins
import Derived.Test.YtmpijlaidnhpnaaGreatDoorRows
import Derived.Test.YtmpijlaidnhpnaaGreatDoorJYp
import Derived.LaidMore
import Derived.Stop.Joined
namespace Go.Proofs.YtmpijlaidnhpnaaGreatDoor
set_option linter.unusedVariables false
set_option linter.unusedSimpArgs false
set_option maxRecDepth 100000
open Go.ChangeShapes Go.WideShapes Go.ChangeAt Go.RowKit Go.Joins Go.Deep

theorem open_fields {H : Type} {enc : TypeId × Value → H} {W : World} {fuel : Nat} {ad : Option Addr} {len cap : Nat} {x : DataW H × List MemPlace}
    (h : DataW.trod enc Tryz.prog W 0 (fun _ => true) true fuel 24 [.slice ad len cap] = some x) :
    ∃ L : List Fd, len = L.length ∧ Row W (.slice ad L.length cap) L ∧ cap ≤ maxLen ∧ ∀ f ∈ L, f.1.size ≤ maxLen ∧ f.2.size ≤ maxLen := by
  rcases open_slice_pairs Tryz.underlying24 Tryz.underlying55 (by kernel_rfl) rfl rfl (by kernel_rfl) (by kernel_rfl) h with ⟨hcs, _⟩ | ⟨a, len', cap', m, n, V0, V1, D0, D1, P0, P1, hcs, hb, hl, hm, hmm, hx, hcell⟩
  · simp at hcs
    obtain ⟨rfl, rfl, rfl⟩ := hcs
    exact ⟨[], rfl, Row.nil _, Nat.zero_le _, fun f hf => absurd hf (by simp)⟩
  · simp at hcs
    obtain ⟨rfl, rfl, rfl⟩ := hcs
    simp at hmm
    subst hmm
    have each : ∀ i, i < len → ∃ p : Fd, V0 i = .string p.1 ∧ V1 i = .string p.2 ∧ p.1.size ≤ maxLen ∧ p.2.size ≤ maxLen := by
      intro i hi
      obtain ⟨-, -, t0, t1⟩ := hcell i (by omega)
      obtain ⟨s, e0, -, ws⟩ := DataW.trod_string Tryz.underlying9 t0
      obtain ⟨z, e1, -, wz⟩ := DataW.trod_string Tryz.underlying9 t1
      simp at e0 e1
      exact ⟨(s, z), e0, e1, ws, wz⟩
    obtain ⟨f, hf⟩ := choose_lt each
    refine ⟨(List.range len).map f, by simp, ⟨some a, _, rfl, by simp; omega, fun i hi => ?_⟩, by omega, fun y hy => ?_⟩
    · have hi' : i < len := by simpa using hi
      obtain ⟨g0, g1, -, -⟩ := hcell i (by omega)
      obtain ⟨f0, f1, f2, f3⟩ := hf i hi'
      rw [f0] at g0
      rw [f1] at g1
      have hsp : a.spot = none := by
        obtain ⟨z0, -, -, -⟩ := hcell 0 (by omega)
        have e : a.add (0 * 2) = a := by simp [Addr.add]
        rw [e] at z0
        exact spot_none z0
      obtain ⟨B, off, sp⟩ := a
      simp only at hsp
      subst hsp
      rw [add_none] at g0 g1
      refine ⟨B, off, rfl, World.block_lt_of_cell? W ⟨B, off + i * 2, none⟩ g0, ?_, ?_⟩
      · rw [g0]; simp
      · rw [show off + i * 2 + 1 = off + (i * 2 + 1) by omega] at *
        rw [g1]; simp
    · obtain ⟨i, hi, rfl⟩ := List.mem_map.1 hy
      obtain ⟨-, -, f2, f3⟩ := hf i (by simpa using hi)
      exact ⟨f2, f3⟩


theorem cells24 : Tryz.prog.cellsOf 24 = 1 := by kernel_rfl
theorem cells26 : Tryz.prog.cellsOf 26 = 7 := by kernel_rfl
theorem arr3 {α : Type} {xs : List α} (h : xs.length = 3) : ∃ c0 c1 c2, xs = [c0, c1, c2] := by
  match xs, h with
  | [c0, c1, c2], _ => exact ⟨c0, c1, c2, rfl⟩
theorem array7 {α : Type} {cs : Array α} (h : cs.size = 7) : ∃ c0 c1 c2 c3 c4 c5 c6, cs = #[c0, c1, c2, c3, c4, c5, c6] := by
  obtain ⟨l⟩ := cs
  match l, h with
  | [c0, c1, c2, c3, c4, c5, c6], _ => exact ⟨c0, c1, c2, c3, c4, c5, c6, rfl⟩

/-- Five cells of a first line are opened. -/
theorem start_cells {H : Type} {enc : TypeId × Value → H} {W : World} {fuel : Nat} {c0 c1 c2 c3 c4 : Value} {x : DataW H × List MemPlace} (hf : DataW.trod enc Tryz.prog W 0 (fun _ => true) true fuel 23 [c0, c1, c2, c3, c4] = some x) :
    ∃ sm st sc sr sn, c0 = .string sm ∧ c1 = .string st ∧ c2 = .int .i64 sc ∧ c3 = .string sr ∧ c4 = .int .i64 sn ∧ sm.size ≤ maxLen ∧ st.size ≤ maxLen ∧ sr.size ≤ maxLen := by
  obtain ⟨xs, n, _, hx, hl, hlen, hfld⟩ := DataW.trod_struct Tryz.underlying23 hf
  have k9 : Tryz.prog.cellsOf 9 = 1 := by kernel_rfl
  have k3 : Tryz.prog.cellsOf 3 = 1 := by kernel_rfl
  have len5 : xs.length = 5 := hlen
  have g0 := hfld 0 _ rfl
  have g1 := hfld 1 _ rfl
  have g2 := hfld 2 _ rfl
  have g3 := hfld 3 _ rfl
  have g4 := hfld 4 _ rfl
  rw [List.getElem?_eq_getElem (by omega)] at g0 g1 g2 g3 g4
  obtain ⟨a0, e0, -, w0⟩ := DataW.trod_string Tryz.underlying9 g0
  obtain ⟨a1, e1, -, w1⟩ := DataW.trod_string Tryz.underlying9 g1
  obtain ⟨a2, e2, -, -⟩ := DataW.trod_int Tryz.underlying3 g2
  obtain ⟨a3, e3, -, w3⟩ := DataW.trod_string Tryz.underlying9 g3
  obtain ⟨a4, e4, -, -⟩ := DataW.trod_int Tryz.underlying3 g4
  simp [k9, k3] at e0 e1 e2 e3 e4
  exact ⟨a0, a1, a2, a3, a4, e0, e1, e2, e3, e4, w0, w1, w3⟩

/-- Seven cells of a message are opened. -/
theorem message_cells {H : Type} {enc : TypeId × Value → H} {W : World} {base : Nat} {fuel : Nat} {c0 c1 c2 c3 c4 c5 c6 : Value} {x : DataW H × List MemPlace} (hf : DataW.trod enc Tryz.prog W 0 (fun _ => true) true fuel 26 [c0, c1, c2, c3, c4, c5, c6] = some x) :
    ∃ (sm st : ByteArray) (sc : Int) (sr : ByteArray) (sn : Int) (L : List Fd) (bb : ByteArray) (a : Option Addr) (cap : Nat), [c0, c1, c2, c3, c4, c5, c6] = [.string sm, .string st, .int .i64 sc, .string sr, .int .i64 sn, .slice a L.length cap, .string bb] ∧
      Row W (.slice a L.length cap) L ∧ cap ≤ maxLen ∧ (∀ f ∈ L, f.1.size ≤ maxLen ∧ f.2.size ≤ maxLen) ∧ sm.size ≤ maxLen ∧ st.size ≤ maxLen ∧ sr.size ≤ maxLen ∧ bb.size ≤ maxLen := by
  obtain ⟨xs, n, _, hx, hl, hlen, hfld⟩ := DataW.trod_struct Tryz.underlying26 hf
  have k9 : Tryz.prog.cellsOf 9 = 1 := by kernel_rfl
  have k23 : Tryz.prog.cellsOf 23 = 5 := by kernel_rfl
  have len3 : xs.length = 3 := hlen
  have g0 := hfld 0 _ rfl
  have g1 := hfld 1 _ rfl
  have g2 := hfld 2 _ rfl
  rw [List.getElem?_eq_getElem (by omega)] at g0 g1 g2
  obtain ⟨sm, st, sc, sr, sn, rfl, rfl, rfl, rfl, rfl, w0, w1, w3⟩ := start_cells (by simpa [k23] using g0)
  obtain ⟨ad, len, cap, e5⟩ : ∃ ad len cap, c5 = .slice ad len cap := by
    rcases DataW.trod_slice Tryz.underlying24 g1 with ⟨e, -⟩ | ⟨a, len, cap, -, -, -, -, e, -⟩
    · simp [k23, cells24] at e; exact ⟨_, _, _, e⟩
    · simp [k23, cells24] at e; exact ⟨_, _, _, e⟩
  subst e5
  obtain ⟨L, rfl, hrow, hcap, hsh⟩ := open_fields (by simpa [k23, cells24] using g1)
  obtain ⟨bb, e6, -, w6⟩ := DataW.trod_string Tryz.underlying9 g2
  simp [k9, k23, cells24] at e6
  subst e6
  exact ⟨sm, st, sc, sr, sn, L, bb, ad, cap, rfl, hrow, hcap, hsh, w0, w1, w3, w6⟩

theorem open_message {H : Type} {enc : TypeId × Value → H} {W : World} {b0 : Nat} {v : Value} {d : DataW H} {p : List MemPlace} (hv : Value.okWide Tryz.prog W .any b0 26 v) (h : DataW.Trod enc Tryz.prog W 0 (fun _ => true) true 26 v d p) :
    ∃ (sm st : ByteArray) (sc : Int) (sr : ByteArray) (sn : Int) (L : List Fd) (bb : ByteArray) (a : Option Addr) (cap : Nat), v = .agg #[.string sm, .string st, .int .i64 sc, .string sr, .int .i64 sn, .slice a L.length cap, .string bb] ∧
      Row W (.slice a L.length cap) L ∧ cap ≤ maxLen ∧ (∀ f ∈ L, f.1.size ≤ maxLen ∧ f.2.size ≤ maxLen) ∧ sm.size ≤ maxLen ∧ st.size ≤ maxLen ∧ sr.size ≤ maxLen ∧ bb.size ≤ maxLen := by
  obtain ⟨cs, rfl, hsz⟩ := okWide_struct Tryz.underlying26 hv
  obtain ⟨c0, c1, c2, c3, c4, c5, c6, rfl⟩ := array7 (hsz.trans cells26)
  obtain ⟨fuel, hf⟩ := h
  obtain ⟨sm, st, sc, sr, sn, L, bb, a, cap, e, r⟩ := message_cells (base := b0) (by simpa [Value.cells] using hf)
  simp at e
  obtain ⟨rfl, rfl, rfl, rfl, rfl, rfl, rfl⟩ := e
  exact ⟨sm, st, sc, sr, sn, L, bb, a, cap, rfl, r⟩

end Go.Proofs.YtmpijlaidnhpnaaGreatDoor

namespace Go.Proofs.YtmpijlaidnhpnaaGreatDoor
set_option linter.unusedVariables false
set_option linter.unusedSimpArgs false
open Go.ChangeShapes Go.WideShapes Go.ChangeAt Go.RowKit Go.Joins

theorem own : ownKnob Tryz.prog.godebug = none := by kernel_rfl
theorem laidOut : laidOutB Tryz.prog = true := by kernel_rfl

/-- The list of the rows. -/
def laid3 : List (String × DataW Unit) := [("math/bits.deBruijn32tab", Rows.laid_math_bits_deBruijn32tab), ("math/bits.deBruijn64tab", Rows.laid_math_bits_deBruijn64tab), ("internal/strconv.uint64pow10", Rows.laid_internal_strconv_uint64pow10)]

theorem door_met (os : Os) (args : Array Value) : laidMetH Tryz.prog laid3 ((World.doorLaid Tryz.prog 24 os).forCall (fun _ _ => 0) ⟨#[], args, []⟩).memory :=
  laidMetH_of_parts3 (fuel := 8) (laidMet_of_run' 8 (by kernel_rfl) (by kernel_rfl)) (by kernel_rfl) (by kernel_rfl)

theorem gPow : Tryz.prog.globalNamed "internal/strconv.uint64pow10" = some 1 := by kernel_rfl
theorem tPow : (Tryz.prog.globals[1]?).map (·.type) = some 152 := by kernel_rfl
theorem ePow : (Rows.laid_internal_strconv_uint64pow10 : DataW Unit) = Lib.tabData .u64 Lib.pow10Tab := by kernel_rfl

theorem tBru : (Tryz.prog.globals[3]?).map (·.type) = some 176 := by kernel_rfl
theorem eBru : (Rows.laid_math_bits_deBruijn64tab : DataW Unit) = Lib.tabData .u8 Ck.deb := by kernel_rfl

theorem tabs_of {W : World} (h : laidMetH Tryz.prog laid3 W) : TT W := by
  rw [MakeChecks.laidMetH_plain _ _ _ (by kernel_rfl)] at h
  obtain ⟨ps, ⟨g0, t0, cs0, f0, p0, q0, hg0, ht0, hv0, hd0, ⟨g1, t1, cs1, f1, p1, q1, hg1, ht1, hv1, hd1, ⟨g2, t2, cs2, f2, p2, q2, hg2, ht2, hv2, hd2, _, _⟩, _⟩, _⟩, _⟩ := h
  obtain rfl := Option.some.inj (gPow.symm.trans hg2)
  obtain rfl := Option.some.inj (tPow.symm.trans ht2)
  rw [ePow] at hd2
  obtain rfl := Option.some.inj (Ck.gBru.symm.trans hg1)
  obtain rfl := Option.some.inj (tBru.symm.trans ht1)
  rw [eBru] at hd1
  refine ⟨⟨?_⟩, ⟨?_⟩⟩
  · unfold Lib.TabIs
    rw [hv2, ← Lib.cells_of_tab Tryz.underlying152 Tryz.underlying75 (by kernel_rfl) (by kernel_rfl) hd2]
  · unfold Lib.TabIs
    rw [hv1, ← Lib.cells_of_tab Tryz.underlying176 Tryz.underlying5 (by kernel_rfl) (by kernel_rfl) hd1]

end Go.Proofs.YtmpijlaidnhpnaaGreatDoor
