/- The walks of the document's own parting, of comparing rows, and of the known text. -/
import Derived.Test.YtgnpeggffeoenaaDoorWk
namespace Go.Proofs.YtgnpeggffeoenaaDoor
set_option linter.unusedVariables false
set_option linter.unusedSimpArgs false
set_option maxRecDepth 100000
open Go.RowKit

theorem acc_snoc {acc : List UInt8} {x : ByteArray} {l : List UInt8} (h : x.data.toList = l) : (⟨acc.toArray⟩ : ByteArray) ++ x = ⟨(acc ++ l).toArray⟩ := by
  apply bytes_ext
  rw [app_list, h]
theorem trim_acc (acc : List UInt8) : trimS ⟨acc.toArray⟩ = ⟨(trimL acc).toArray⟩ := rfl

/-- A row's cell. -/
theorem row_shape {w : World} {base : Nat} {v : Value} {P : List (List UInt8)} (h : w.ownsRow base 9 1 v P.length (strs P)) : ∃ (a : Option Addr) (cap : Nat), v = .slice a P.length cap ∧ P.length ≤ cap ∧ ∀ k, k < P.length → ∃ g, a = some ⟨g, 0, none⟩ ∧ w.cell? ⟨g, k, none⟩ = some (.string ⟨(P.getD k []).toArray⟩) := by
  rcases h.2 with ⟨rfl, h0⟩ | ⟨g, cap, cur, rfl, h2, h3, h4, h5, h6, h7⟩
  · refine ⟨none, 0, by rw [h0], by omega, fun k hk => by omega⟩
  · refine ⟨some ⟨g, 0, none⟩, cap, rfl, h4, fun k hk => ⟨g, rfl, ?_⟩⟩
    rw [cell_of_row w g k cur 9 (0, 0) h3]
    have : (strs P)[k]? = some (.string ⟨(P.getD k []).toArray⟩) := by simp [strs, hk]
    rw [← h7, List.getElem?_take, if_pos (by omega)] at this
    simpa using this

set_option maxHeartbeats 2000000 in
theorem refsame_any (P : List (List UInt8)) (va vb : Value) (A B : Nat) (w : World) (ha : w.ownsRow A 9 1 va P.length (strs P)) (hb : w.ownsRow B 9 1 vb P.length (strs P)) (hP : P.length ≤ 2000000) :
    Calls Tryd.prog 19 #[va, vb] w fun e w' => e = .returned (.bool true) ∧ ∃ n, w' = w.drewN n := by
  obtain ⟨a, ca, rfl, hca, hA⟩ := row_shape ha
  obtain ⟨b, cb, rfl, hcb, hB⟩ := row_shape hb
  clear ha hb
  have HA := hide hA
  have HB := hide hB
  clear hA hB
  go_enter Tryd.func19, Tryd.ntmps19
  go_wp2_with fail
  go_loopw [13] (fun i wr => ∃ k n : Nat, k ≤ P.length ∧ i = .int .i64 k ∧ wr = w.drewN n) (fun i _ => P.length - (intOf i).toNat)
  case atStart => exact ⟨0, 0, Nat.zero_le _, rfl, by simp [World.drewN]⟩
  case round =>
    obtain ⟨k, n, hk, rfl, rfl⟩ := hrel
    by_cases hlt : k < P.length
    · have hltz : (k : Int) < P.length := by omega
      obtain ⟨g, rfl, hg⟩ := HA.out k hlt
      obtain ⟨j, rfl, hj⟩ := HB.out k hlt
      obtain ⟨x, hx⟩ : ∃ x : ByteArray, (⟨(P.getD k []).toArray⟩ : ByteArray) = x := ⟨_, rfl⟩
      rw [hx] at hg hj
      clear hx HA HB
      go_wp2_with fail
      go_quiet (fail)
      go_wp2_with fail
      exact ⟨⟨k + 1, n + nq, by omega, by go_num, rfl⟩, by simp [intOf]; omega⟩
    · have hd : decide ((k : Int) < P.length) = false := decide_eq_false (by omega)
      go_wp2_with fail
      go_ret
      exact ⟨rfl, n, rfl⟩

theorem alive_parts : spP 44 ⟨#[97, 44, 32, 98]⟩ = [[97], [98]] ∧ spE 44 ⟨#[97, 44, 32, 98]⟩ = 0 := by decide

end Go.Proofs.YtgnpeggffeoenaaDoor
