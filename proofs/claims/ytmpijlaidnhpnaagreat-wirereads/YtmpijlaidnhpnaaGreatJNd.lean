/- The walks of the document's own readings. The walks of ReadDec, ReadHex, Signed, and of the document's own readings. The walks of Dec and Hex, of the document's own digits, and of the statement's own question whether anything answers. -/
import Derived.Test.YtmpijlaidnhpnaaGreatJNb
import Derived.Test.YtmpijlaidnhpnaaGreatJShelf
namespace Go.Proofs.YtmpijlaidnhpnaaGreat
set_option linter.unusedVariables false
set_option linter.unusedSimpArgs false
set_option maxRecDepth 100000
open Go.RowKit

set_option maxHeartbeats 1000000 in
theorem value_any (c : UInt8) (w : World) :
    Calls Tryz.prog 85 #[.int .u8 (c.toNat : Int)] w fun e w' => e = .returned (.int .u64 (vr c : Nat)) ∧ w' = w := by
  have hc := c.toNat_lt
  go_enter Tryz.func85, Tryz.ntmps85
  go_wp2
  all_goals (go_ret; refine ⟨ret_int ?_, rfl⟩)
  all_goals (unfold vr vl; repeat' split)
  all_goals omega
set_option maxHeartbeats 1000000 in
theorem refRead10 (s : ByteArray) (w : World) (hs : s.size ≤ maxLen) :
    Calls Tryz.prog 66 #[.string s, .int .u64 10] w fun e w' => e = .returned (.tuple #[.int .u64 (rdN 10 s.data.toList : Nat), .int .i64 (rdE 10 s.data.toList : Nat)]) ∧ w' = w := by
  unfold maxLen at hs
  have HZ : Hid (s.data.toList.length = s.size) := by unfold Hid; simp
  by_cases h0 : s.data.toList = []
  · have he := empty_of h0
    have H0 : Hid (s.data.toList = []) := h0
    clear h0
    go_enter Tryz.func66, Tryz.ntmps66
    go_wp2
    go_ret2
    exact ⟨ret_ii (by rw [rdN_bad (Or.inl H0.out)]; rfl) (by rw [rdE_bad (Or.inl H0.out)]; rfl), rfl⟩
  · have he := empty_not h0
    have H0 : Hid (s.data.toList ≠ []) := h0
    clear h0
    go_enter Tryz.func66, Tryz.ntmps66
    go_wp2
    go_loop [6] (fun i => ∃ k : Nat, k ≤ s.size ∧ i = .int .i64 k ∧ Hid (okay 10 (s.data.toList.take k) = true)) (fun i => s.size - (intOf i).toNat)
    case atStart => exact ⟨0, Nat.zero_le _, rfl, by simp [Hid, okay]⟩
    case round =>
      obtain ⟨k, hk, rfl, hok⟩ := hrel
      by_cases hlt : k < s.size
      · have HT : Hid (s.data.toList.take (k + 1) = s.data.toList.take k ++ [s[k]]) := by
          unfold Hid; rw [take_snoc _ k (by rw [HZ.out]; exact hlt), get_at s k hlt]
        have hv := vr_le s[k]
        by_cases hd : vr s[k] < 10
        · go_wp2_with (go_at_call 85; refine (value_any _ _).mono ?_; rintro e w' ⟨rfl, rfl⟩)
          refine ⟨⟨k + 1, by omega, by go_num, ?_⟩, by simp [intOf]; omega⟩
          unfold Hid; rw [HT.out, okay_snoc, hok.out, decide_eq_true ((vr_lt _ _ (by omega)).1 hd)]; rfl
        · go_wp2_with (go_at_call 85; refine (value_any _ _).mono ?_; rintro e w' ⟨rfl, rfl⟩)
          go_ret2
          have hf : okay 10 s.data.toList = false := okay_at_false (k := k) (by rw [HZ.out]; exact hlt) (by rw [get_at s k hlt]; exact fun e => hd ((vr_lt _ _ (by omega)).2 e))
          exact ⟨ret_ii (by rw [rdN_bad (Or.inr hf)]; rfl) (by rw [rdE_bad (Or.inr hf)]; rfl), rfl⟩
      · have HK : Hid (okay 10 s.data.toList = true) := by
          have := hok.out
          rw [List.take_of_length_le (by rw [HZ.out]; omega)] at this
          exact this
        clear hok
        go_wp2
        go_loop [7, 8] (fun n i => ∃ k : Nat, k ≤ s.size ∧ i = .int .i64 k ∧ n = .int .u64 (val 10 (s.data.toList.take k) : Nat) ∧ val 10 (s.data.toList.take k) ≤ 1099511627776) (fun _ i => s.size - (intOf i).toNat)
        case atStart => exact ⟨0, Nat.zero_le _, rfl, by simp [val_nil], by simp [val_nil]⟩
        case round =>
          obtain ⟨k, hk, rfl, rfl, hn⟩ := hrel
          by_cases hlt : k < s.size
          · have HT : Hid (val 10 (s.data.toList.take (k + 1)) = val 10 (s.data.toList.take k) * 10 + vl s[k]) := by
              unfold Hid; rw [take_snoc _ k (by rw [HZ.out]; exact hlt), get_at s k hlt, val_snoc]
            have hv : vl s[k] < 10 := by
              have := okay_at HK.out k (by rw [HZ.out]; exact hlt)
              rw [get_at s k hlt] at this
              exact this
            have HR : Hid (vr s[k] = vl s[k]) := vr_of (by omega) hv
            have hG := val_grows 10 (by omega) (s.data.toList.take (k + 1)) (s.data.toList.drop (k + 1))
            rw [List.take_append_drop] at hG
            by_cases hg : 1099511627776 < val 10 (s.data.toList.take k) * 10 + vl s[k]
            · have HG : Hid (1099511627776 < val 10 s.data.toList) := by unfold Hid; rw [HT.out] at hG; omega
              clear hG
              go_wp2_with (go_at_call 85; refine (value_any _ _).mono ?_; rintro e w' ⟨rfl, rfl⟩; rw [HR.out])
              go_ret2
              exact ⟨ret_ii (by rw [rdN_long HG.out]; rfl) (by rw [rdE_long H0.out HK.out HG.out]; rfl), rfl⟩
            · clear hG
              go_wp2_with (go_at_call 85; refine (value_any _ _).mono ?_; rintro e w' ⟨rfl, rfl⟩; rw [HR.out])
              all_goals first
                | (exfalso; omega)
                | (refine ⟨⟨k + 1, by omega, by go_num, ?_, ?_⟩, by simp [intOf]; omega⟩
                   · rw [HT.out]; congr 1; omega
                   · rw [HT.out]; omega)
          · have HE : Hid (s.data.toList.take k = s.data.toList) := by
              unfold Hid; rw [List.take_of_length_le (by rw [HZ.out]; omega)]
            go_wp2
            go_ret2
            rw [HE.out] at hn
            exact ⟨ret_ii (by rw [rdN_fine H0.out HK.out (by omega), HE.out]) (by rw [rdE_fine H0.out HK.out (by omega)]; rfl), rfl⟩

end Go.Proofs.YtmpijlaidnhpnaaGreat

namespace Go.Proofs.YtmpijlaidnhpnaaGreat
set_option linter.unusedVariables false
set_option linter.unusedSimpArgs false
set_option maxRecDepth 100000
open Go.RowKit

theorem below_drewM (w : World) (n : Nat) : Below w.heap.size w (w.drewN n) := ⟨rfl, rfl, rfl, Nat.le_refl _, fun _ _ => rfl⟩

set_option maxHeartbeats 400000 in
theorem below_u (b : Nat) (w : World) :
    Calls Tryz.prog 155 #[.int .u64 (b : Int)] w fun e w' => e = .returned (.func (.func 162) #[] #[.pointer (some ⟨w.heap.size, 0, none⟩)]) ∧ w' = w.alloc (.cells #[.int .u64 (b : Int)] 97) := by
  go_enter Tryz.func155, Tryz.ntmps155
  go_wp2
  go_ret
  exact ⟨rfl, rfl⟩

set_option maxHeartbeats 400000 in
theorem readDec_any (s : ByteArray) (w : World) (hs : s.size ≤ maxLen) :
    Calls Tryz.prog 138 #[.string s] w fun e w' => e = .returned (.tuple #[.int .u64 (rdN 10 s.data.toList : Nat), .int .i64 (rdE 10 s.data.toList : Nat)]) ∧ Below w.heap.size w w' := by
  go_enter Tryz.func138, Tryz.ntmps138
  go_wp2_with fail
  refine (below_u 10 _).mono ?_
  rintro e w1 ⟨rfl, rfl⟩
  go_wp2_with fail
  refine (read_u10 s _ _ hs (by simp)).mono ?_
  rintro e w2 ⟨rfl, n, rfl⟩
  go_wp2_with fail
  go_ret2
  exact ⟨rfl, ((Below.refl _ _).alloc (Nat.le_refl _) _).trans ((below_drewM _ n).mono (by simp))⟩

end Go.Proofs.YtmpijlaidnhpnaaGreat

namespace Go.Proofs.YtmpijlaidnhpnaaGreat.Sr
set_option linter.unusedVariables false
set_option linter.unusedSimpArgs false
set_option maxRecDepth 100000
open Go.RowKit

/-- The decimal digits, as a string. -/
def decS (u : Nat) : ByteArray := ⟨(dgs 10 (by omega) u).toArray⟩
theorem decS_list (u : Nat) : (decS u).data.toList = dgs 10 (by omega) u := by simp [decS]
theorem decS_size (u : Nat) : (decS u).size = (dgs 10 (by omega) u).length := by rw [← decS_list]; simp
theorem decS_le (u : Nat) (h : u < 18446744073709551616) : (decS u).size ≤ 20 := by rw [decS_size]; exact dgs_length_lt _ 19 u (by omega)
/-- What the digits that were found, and the number that is left, come to. -/
def more (b : Nat) (hb : 2 ≤ b) (n : Nat) (o : List UInt8) : List UInt8 := if n = 0 ∧ o ≠ [] then o else dgs b hb n ++ o
def emptyOf : Value → Nat | .string s => if s.data.toList = [] then 1 else 0 | _ => 0

theorem more_step (b : Nat) (hb : 2 ≤ b) (n : Nat) (o : List UInt8) (h : ¬ (n = 0 ∧ o ≠ [])) : more b hb (n / b) (hx (n % b) :: o) = more b hb n o := by
  unfold more
  rw [if_neg h]
  by_cases hn : n < b
  · rw [Nat.div_eq_of_lt hn, if_pos (by simp), dgs_small hb hn, Nat.mod_eq_of_lt hn]; rfl
  · have : ¬ n / b = 0 := by
      have := Nat.div_pos (Nat.le_of_not_lt hn) (by omega)
      omega
    rw [if_neg (by simp [this]), dgs_big hb hn, List.append_assoc]; rfl

theorem d16_fin : ∀ i : Fin 16, (⟨List.toArray (48 :: 49 :: 50 :: 51 :: 52 :: 53 :: 54 :: 55 :: 56 :: 57 :: 97 :: 98 :: 99 :: 100 :: 101 :: 102 :: [])⟩ : ByteArray).extract i.val (i.val + 1) = ⟨#[hx i.val]⟩ := by decide +kernel
theorem d16_at (i : Nat) (h : i < 16) : (⟨List.toArray (48 :: 49 :: 50 :: 51 :: 52 :: 53 :: 54 :: 55 :: 56 :: 57 :: 97 :: 98 :: 99 :: 100 :: 101 :: 102 :: [])⟩ : ByteArray).extract i (i + 1) = ⟨#[hx i]⟩ := d16_fin ⟨i, h⟩
theorem ahead_list (c : UInt8) (s : ByteArray) : ((⟨#[c]⟩ : ByteArray) ++ s).data.toList = c :: s.data.toList := by simp
theorem more_len (b : Nat) (hb : 2 ≤ b) (n : Nat) (o : List UInt8) : o.length ≤ (more b hb n o).length := by
  unfold more; split
  · exact Nat.le_refl _
  · simp
theorem emptyOf_ahead (c : UInt8) (s : ByteArray) : emptyOf (.string ((⟨#[c]⟩ : ByteArray) ++ s)) = 0 := by
  simp only [emptyOf]; rw [ahead_list]; simp

set_option maxHeartbeats 1000000 in
theorem refDigits10 (u : Nat) (hu64 : u < 18446744073709551616) (w : World) :
    Calls Tryz.prog 84 #[.int .u64 (u : Int), .int .u64 10] w fun e w' => e = .returned (.string ⟨(dgs 10 (by omega) u).toArray⟩) ∧ ∃ n, w' = w.drewN n := by
  go_enter Tryz.func84, Tryz.ntmps84
  go_wp2
  go_loopw [0, 5] (fun n o wr => ∃ (v t : Nat) (s : ByteArray), n = .int .u64 v ∧ o = .string s ∧ v ≤ u ∧ s.size ≤ 20 ∧ Hid (more 10 (by omega) v s.data.toList = dgs 10 (by omega) u) ∧ wr = w.drewN t) (fun n o _ => (intOf n).toNat * 2 + emptyOf o)
  case atStart => exact ⟨u, 0, ⟨#[]⟩, rfl, rfl, Nat.le_refl _, by decide, by simp [Hid, more], by simp [World.drewN]⟩
  case round =>
    obtain ⟨v, t, s, rfl, rfl, hv, hs, HM, rfl⟩ := hrel
    by_cases hend : v = 0 ∧ s.data.toList ≠ []
    · obtain ⟨rfl, hne⟩ := hend
      have he := empty_not hne
      have HN : Hid (s.data.toList ≠ []) := hne
      clear hne
      go_wp2
      go_ret
      refine ⟨?_, t, rfl⟩
      have := HM.out
      rw [more, if_pos ⟨rfl, HN.out⟩] at this
      have hS : (⟨(dgs 10 (by omega) u).toArray⟩ : ByteArray) = s := by rw [← this]
      rw [hS]
      rfl
    · have hmod : v % 10 < 10 := Nat.mod_lt _ (by omega)
      have HE : Hid (¬ (v = 0 ∧ s.data.toList ≠ [])) := hend
      by_cases h0 : v = 0
      · have he := empty_of (s := s) (by
          by_cases e : s.data.toList = []
          · exact e
          · exact absurd ⟨h0, e⟩ hend)
        have HZ : Hid (s.data.toList = []) := by
          by_cases e : s.data.toList = []
          · exact e
          · exact absurd ⟨h0, e⟩ hend
        subst h0
        have HS : Hid (more 10 (by omega) 0 ((⟨#[hx 0]⟩ : ByteArray) ++ s).data.toList = dgs 10 (by omega) u) := by
          unfold Hid
          rw [ahead_list, ← HM.out, ← more_step 10 (by omega) 0 s.data.toList HE.out]
        clear hend hmod
        go_wp2
        go_quiet (fail)
        rw [d16_at 0 (by omega)]
        go_wp2
        refine ⟨⟨0, t + nq, ⟨#[hx 0]⟩ ++ s, rfl, rfl, by omega, ?_, ?_, rfl⟩, ?_⟩
        · have hlen := more_len 10 (by omega) 0 ((⟨#[hx 0]⟩ : ByteArray) ++ s).data.toList
          rw [HS.out] at hlen
          have h20 := dgs_length_lt (b := 10) (by omega) 19 u (by omega)
          simp only [Array.length_toList, ByteArray.size_data] at hlen
          omega
        · exact HS.out
        · rw [emptyOf_ahead]; simp [intOf, emptyOf, HZ.out]
      · have h1 : 0 < v := by omega
        have HS : Hid (more 10 (by omega) (v / 10) ((⟨#[hx (v % 10)]⟩ : ByteArray) ++ s).data.toList = dgs 10 (by omega) u) := by
          unfold Hid
          rw [ahead_list, ← HM.out, ← more_step 10 (by omega) v s.data.toList HE.out]
        clear hend h0
        go_wp2
        go_quiet (fail)
        rw [d16_at (v % 10) (by omega)]
        go_wp2
        refine ⟨⟨v / 10, t + nq, ⟨#[hx (v % 10)]⟩ ++ s, ?_, rfl, ?_, ?_, ?_, rfl⟩, ?_⟩
        · exact congrArg (Value.int .u64) (by omega)
        · omega
        · have hlen := more_len 10 (by omega) (v / 10) ((⟨#[hx (v % 10)]⟩ : ByteArray) ++ s).data.toList
          rw [HS.out] at hlen
          have h20 := dgs_length_lt (b := 10) (by omega) 19 u (by omega)
          simp only [Array.length_toList, ByteArray.size_data] at hlen
          omega
        · exact HS.out
        · rw [emptyOf_ahead]; simp only [intOf]; omega

end Go.Proofs.YtmpijlaidnhpnaaGreat.Sr
