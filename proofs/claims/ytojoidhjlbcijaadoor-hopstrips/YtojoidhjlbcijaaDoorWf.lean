/- The walks of the document's own answers on tokens, small letters and quotes. -/
import Derived.Test.YtojoidhjlbcijaaDoorWe
namespace Go.Proofs.YtojoidhjlbcijaaDoor
set_option linter.unusedVariables false
set_option linter.unusedSimpArgs false
set_option maxRecDepth 100000
open Go.RowKit

theorem tok_of {s : ByteArray} (h : ∀ c ∈ s.data.toList, wordB c = true) : tokB s = !s.toList.isEmpty := by
  unfold tokB tokL
  rw [List.all_eq_true.2 h, Bool.and_true, ByteArray.toList_eq]
theorem tok_not {s : ByteArray} {c : UInt8} (h : c ∈ s.data.toList) (g : wordB c = false) : tokB s = false := by
  unfold tokB tokL
  rw [Bool.and_eq_false_iff]
  right
  rw [List.all_eq_false]
  exact ⟨c, h, by simp [g]⟩

theorem one_byte (w : World) (c : UInt8) (x : Int) (hx : x = (c.toNat : Int)) : Sem.run Tryd.prog (convert 71 9 (.slice (some ⟨w.heap.size, 0, none⟩) 1 1)) (w.alloc (.cells #[.int .u8 x] 5)) = .ok (.string ⟨#[c]⟩) (w.alloc (.cells #[.int .u8 x] 5)) := by
  subst hx
  exact run_convert_bytes_back (P := Tryd.prog) _ 71 9 5 ⟨w.heap.size, 0, none⟩ 1 [c] Tryd.underlying71 Tryd.underlying5 Tryd.underlying9 (fun j hj => by
    obtain rfl : j = 0 := by simpa using hj
    simp [add_none])

set_option maxHeartbeats 1000000 in
theorem reftoken_any (s : ByteArray) (w : World) (hs : s.size ≤ 1000000) :
    Calls Tryd.prog 34 #[.string s] w fun e w' => e = .returned (.bool (tokB s)) ∧ w' = w := by
  have HZ : Hid (s.data.toList.length = s.size) := by unfold Hid; simp
  go_enter Tryd.func34, Tryd.ntmps34
  go_wp2_with fail
  go_loop [3] (fun i => ∃ k : Nat, k ≤ s.size ∧ i = .int .i64 k ∧ Hid (∀ c ∈ s.data.toList.take k, wordB c = true)) (fun i => s.size - (intOf i).toNat)
  case atStart => exact ⟨0, Nat.zero_le _, rfl, by simp [Hid]⟩
  case round =>
    obtain ⟨k, hk, rfl, hall⟩ := hrel
    by_cases hlt : k < s.size
    · have hltz : (k : Int) < s.size := by omega
      have HT : Hid (s.data.toList.take (k + 1) = s.data.toList.take k ++ [s[k]]) := by
        unfold Hid; rw [take_snoc _ k (by rw [HZ.out]; exact hlt), get_at s k hlt]
      cases hb : wordB s[k]
      · have HN : Hid (tokB s = false) := tok_not (by rw [← List.take_append_drop (k + 1) s.data.toList, HT.out]; simp) hb
        go_wp2_with (go_at_call 55; refine (word_any _ _).mono ?_; rintro e w' ⟨rfl, rfl⟩; rw [hb])
        go_ret
        exact ⟨by rw [HN.out]; rfl, rfl⟩
      · go_wp2_with (go_at_call 55; refine (word_any _ _).mono ?_; rintro e w' ⟨rfl, rfl⟩; rw [hb])
        refine ⟨⟨k + 1, by omega, by go_num, ?_⟩, by simp [intOf]; omega⟩
        unfold Hid
        rw [HT.out]
        intro c hc
        rcases List.mem_append.1 hc with hc | hc
        · exact hall.out c hc
        · obtain rfl : c = s[k] := by simpa using hc
          exact hb
    · have hd : decide ((k : Int) < s.size) = false := decide_eq_false (by omega)
      rw [List.take_of_length_le (by rw [HZ.out]; omega)] at hall
      have HN := hide (tok_of hall.out)
      go_wp2_with fail
      go_ret
      refine ⟨?_, rfl⟩
      rw [HN.out]
      rfl

def lowS (s : ByteArray) : ByteArray := ⟨(lowL s.data.toList).toArray⟩
theorem lowS_list (s : ByteArray) : (lowS s).data.toList = lowL s.data.toList := by simp [lowS]
theorem lowS_size (s : ByteArray) : (lowS s).size = s.size := by rw [← size_list, ← size_list, lowS_list, lowL_length]
/-- The small letters of the first k bytes. -/
def lowT (s : ByteArray) (k : Nat) : ByteArray := ⟨(lowL (s.data.toList.take k)).toArray⟩
theorem lowT_zero (s : ByteArray) : lowT s 0 = ⟨#[]⟩ := by simp [lowT, lowL]
theorem lowT_size (s : ByteArray) (k : Nat) : (lowT s k).size ≤ k := by
  rw [← size_list]; simp [lowT, lowL]; omega
theorem lowT_succ {s : ByteArray} {k : Nat} (h : k < s.size) : lowT s k ++ ⟨#[lowB s[k]]⟩ = lowT s (k + 1) := by
  apply bytes_ext
  rw [app_list]
  simp only [lowT, List.toList_toArray]
  rw [take_snoc _ k (by rw [size_list]; exact h), get_at s k h]
  simp [lowL]
theorem lowT_all {s : ByteArray} {k : Nat} (h : s.size ≤ k) : lowT s k = lowS s := by
  unfold lowT lowS
  rw [List.take_of_length_le (by rw [size_list]; exact h)]
theorem low_yes {c : UInt8} (h : 65 ≤ c.toNat) (g : c.toNat ≤ 90) : ((lowB c).toNat : Int) = (c.toNat : Int) + 32 := by
  have hc : capB c = true := by rw [capB_iff]; simp [h, g]
  unfold lowB
  rw [if_pos hc, UInt8.toNat_add]
  have : (32 : UInt8).toNat = 32 := rfl
  rw [this]
  omega
theorem low_no {c : UInt8} (h : ¬ (65 ≤ c.toNat ∧ c.toNat ≤ 90)) : lowB c = c := by
  have hc : capB c = false := by rw [capB_iff]; simp; omega
  unfold lowB
  rw [if_neg (by simp [hc])]

set_option maxHeartbeats 1000000 in
theorem reflower_any (s : ByteArray) (w : World) (hs : s.size ≤ 1000000) :
    Calls Tryd.prog 38 #[.string s] w fun e w' => e = .returned (.string (lowS s)) ∧ Below w.heap.size w w' := by
  go_enter Tryd.func38, Tryd.ntmps38
  go_wp2_with fail
  go_loopw [3, 4] (fun o i wr => ∃ k : Nat, k ≤ s.size ∧ i = .int .i64 k ∧ o = .string (lowT s k) ∧ Below w.heap.size w wr) (fun _ i _ => s.size - (intOf i).toNat)
  case atStart => exact ⟨0, Nat.zero_le _, rfl, by rw [lowT_zero], Below.refl _ _⟩
  case round =>
    obtain ⟨k, hk, rfl, rfl, hbr⟩ := hrel
    have hts := lowT_size s k
    by_cases hlt : k < s.size
    · have hltz : (k : Int) < s.size := by omega
      have hc := (s[k]).toNat_lt
      have HS := hide (lowT_succ hlt)
      have hBN : ∀ x, Below w.heap.size w (wr.alloc (.cells #[x] 5)) := fun x => hbr.alloc hbr.size _
      have HBN := hide hBN
      clear hBN
      by_cases hcap : 65 ≤ (s[k]).toNat ∧ (s[k]).toNat ≤ 90
      · obtain ⟨h1, h2⟩ := hcap
        have hcv := one_byte wr (lowB s[k]) ((s[k]).toNat + 32) (low_yes h1 h2).symm
        go_wp2_with fail
        refine ⟨⟨k + 1, by omega, by go_num, by rw [← HS.out], HBN.out _⟩, by simp [intOf]; omega⟩
      · have hlo := low_no hcap
        rw [hlo] at HS
        have hcv := one_byte wr s[k] (s[k]).toNat rfl
        clear hlo
        by_cases h1 : 65 ≤ (s[k]).toNat
        · have h2 : ¬ (s[k]).toNat ≤ 90 := fun h => hcap ⟨h1, h⟩
          have h2d : decide (((s[k]).toNat : Int) ≤ 90) = false := decide_eq_false (by omega)
          clear hcap
          go_wp2_with fail
          refine ⟨⟨k + 1, by omega, by go_num, by rw [← HS.out], HBN.out _⟩, by simp [intOf]; omega⟩
        · clear hcap
          go_wp2_with fail
          refine ⟨⟨k + 1, by omega, by go_num, by rw [← HS.out], HBN.out _⟩, by simp [intOf]; omega⟩
    · have hd : decide ((k : Int) < s.size) = false := decide_eq_false (by omega)
      have HS := hide (lowT_all (s := s) (k := k) (by omega))
      go_wp2_with fail
      go_ret
      exact ⟨ret_str HS.out, hbr⟩

end Go.Proofs.YtojoidhjlbcijaaDoor
