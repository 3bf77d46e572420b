/- The walks of the document's own answers: bytes, cutting, which may be. -/
import Derived.Test.YtmpijlaidnhpnaaGreatJSc
namespace Go.Proofs.YtmpijlaidnhpnaaGreat.Sr
set_option linter.unusedVariables false
set_option linter.unusedSimpArgs false
set_option maxRecDepth 100000
open Go.RowKit

theorem hasL_false (c : UInt8) (l : List UInt8) : hasL c l = false ↔ c ∉ l := by
  rw [← hasL_iff, Bool.not_eq_true]
def bar9 : List UInt8 := [34, 35, 60, 62, 92, 94, 123, 124, 125]
theorem addr_no {c : UInt8} (h : c.toNat < 33 ∨ 126 < c.toNat ∨ c = 96 ∨ hasL c bar9 = true) : addrB c = false := by
  unfold addrB
  rcases h with h | h | h | h
  · rw [decide_eq_false (by omega)]; rfl
  · rw [decide_eq_false (show ¬ c.toNat ≤ 126 by omega)]; simp
  · subst h; rfl
  · rw [hasL_iff] at h
    have : barL.contains c = true := by
      rw [List.contains_iff_mem]
      unfold bar9 at h
      unfold barL
      simp only [List.mem_cons, List.mem_nil_iff, or_false] at h ⊢
      rcases h with h | h | h | h | h | h | h | h | h <;> simp [h]
    rw [this]; simp
theorem addr_yes {c : UInt8} (h1 : ¬ c.toNat < 33) (h2 : ¬ 126 < c.toNat) (h3 : ¬ c = 96) (h4 : hasL c bar9 = false) : addrB c = true := by
  unfold addrB
  rw [decide_eq_true (show 33 ≤ c.toNat by omega), decide_eq_true (show c.toNat ≤ 126 by omega)]
  rw [hasL_false] at h4
  have : barL.contains c = false := by
    cases e : barL.contains c with
    | false => rfl
    | true =>
      rw [List.contains_iff_mem] at e
      unfold barL at e
      unfold bar9 at h4
      simp only [List.mem_cons, List.mem_nil_iff, or_false, not_or] at e h4
      rcases e with e | e | e | e | e | e | e | e | e | e <;> simp_all
  rw [this]; rfl

theorem findBar (c : UInt8) (w : World) : Calls Tryz.prog 43 #[.string ⟨#[34, 35, 60, 62, 92, 94, 123, 124, 125]⟩, .int .u8 (c.toNat : Int)] w fun e w' => e = .returned (.int .i64 (ixI c bar9)) ∧ w' = w := by
  have h := find_any ⟨#[34, 35, 60, 62, 92, 94, 123, 124, 125]⟩ c w (by decide)
  exact h
theorem allB_yes {p : UInt8 → Bool} {l : List UInt8} (h : ∀ x ∈ l, p x = true) : allB p l = true := List.all_eq_true.2 h
theorem allB_no {p : UInt8 → Bool} {s : ByteArray} {k : Nat} (hk : k < s.size) (h : p s[k] = false) : allB p s.data.toList = false := by
  unfold allB
  rw [List.all_eq_false]
  refine ⟨s[k], ?_, by simp [h]⟩
  rw [← get_at s k hk]
  exact List.getElem_mem _
theorem allB_more {p : UInt8 → Bool} {s : ByteArray} {k : Nat} (hk : k < s.size) (h : ∀ x ∈ s.data.toList.take k, p x = true) (g : p s[k] = true) : ∀ x ∈ s.data.toList.take (k + 1), p x = true := by
  rw [take_snoc _ k (by rw [size_list]; exact hk), get_at s k hk]
  intro x hx
  rcases List.mem_append.1 hx with hx | hx
  · exact h x hx
  · obtain rfl : x = s[k] := by simpa using hx
    exact g

set_option maxRecDepth 100000 in
set_option maxHeartbeats 1000000 in
theorem refbytes_any (s : ByteArray) (w : World) (hs : s.size ≤ 1000000) :
    Calls Tryz.prog 31 #[.string s] w fun e w' => e = .returned (.bool (allB addrB s.data.toList)) ∧ w' = w := by
  go_enter Tryz.func31, Tryz.ntmps31
  go_wp2_with fail
  go_loop [3] (fun i => ∃ k : Nat, k ≤ s.size ∧ i = .int .i64 k ∧ Hid (∀ x ∈ s.data.toList.take k, addrB x = true)) (fun i => s.size - (intOf i).toNat)
  case atStart => exact ⟨0, Nat.zero_le _, rfl, by simp [Hid]⟩
  case round =>
    obtain ⟨k, hk, rfl, hall⟩ := hrel
    by_cases hlt : k < s.size
    · have hltz : (k : Int) < s.size := by omega
      by_cases h1 : (s[k]).toNat < 33
      · have HN := hide (allB_no hlt (addr_no (Or.inl h1)))
        go_wp2_with fail
        go_ret
        exact ⟨by rw [HN.out]; rfl, rfl⟩
      have h1d : decide (((s[k]).toNat : Int) < 33) = false := decide_eq_false (by omega)
      by_cases h2 : 126 < (s[k]).toNat
      · have HN := hide (allB_no hlt (addr_no (Or.inr (Or.inl h2))))
        go_wp2_with fail
        go_ret
        exact ⟨by rw [HN.out]; rfl, rfl⟩
      have h2d : decide (126 < ((s[k]).toNat : Int)) = false := decide_eq_false (by omega)
      by_cases h3 : s[k] = 96
      · have HN := hide (allB_no hlt (addr_no (Or.inr (Or.inr (Or.inl h3)))))
        have h3d : (((s[k]).toNat : Int) == 96) = true := by rw [h3]; rfl
        clear h3
        go_wp2_with fail
        go_ret
        exact ⟨by rw [HN.out]; rfl, rfl⟩
      have h3d : (((s[k]).toNat : Int) == 96) = false := by
        rw [beq_eq_false_iff_ne]
        intro e
        have h96 : (96 : UInt8).toNat = 96 := rfl
        exact h3 (UInt8.toNat_inj.1 (by omega))
      have H3 := hide h3
      clear h3
      have hix := ixI_ge s[k] bar9
      cases h4 : hasL s[k] bar9
      · rw [h4] at hix
        have HY := hide (allB_more hlt hall.out (addr_yes h1 h2 H3.out h4))
        have HX := hide hix
        clear h4 hix
        go_wp2_with fail
        refine (findBar s[k] _).mono ?_
        rintro e w1 ⟨rfl, hw1⟩
        subst hw1
        have hixd := HX.out
        go_wp2_with fail
        exact ⟨⟨k + 1, by omega, by go_num, HY⟩, by simp [intOf]; omega⟩
      · rw [h4] at hix
        have HN := hide (allB_no hlt (addr_no (Or.inr (Or.inr (Or.inr h4)))))
        have HX := hide hix
        clear h4 hix
        go_wp2_with fail
        refine (findBar s[k] _).mono ?_
        rintro e w1 ⟨rfl, hw1⟩
        subst hw1
        have hixd := HX.out
        go_wp2_with fail
        go_ret
        exact ⟨by rw [HN.out]; rfl, rfl⟩
    · have hd : decide ((k : Int) < s.size) = false := decide_eq_false (by omega)
      have HN : Hid (allB addrB s.data.toList = true) := by
        have := hall.out
        rw [List.take_of_length_le (by rw [size_list]; omega)] at this
        exact allB_yes this
      go_wp2_with fail
      go_ret
      exact ⟨by rw [HN.out]; rfl, rfl⟩

theorem at_here {s : ByteArray} {k : Nat} (hk : k < s.size) (h : ∀ x ∈ s.data.toList.take k, neB 32 x = true) (g : s[k] = 32) : atN 32 s.data.toList = k := by
  unfold atN
  exact takeWhile_at (by rw [size_list]; exact hk) h (by rw [get_at s k hk, g]; rfl)

set_option maxRecDepth 100000 in
set_option maxHeartbeats 1000000 in
theorem refcut_any (s : ByteArray) (w : World) (hs : s.size ≤ 1000000) :
    Calls Tryz.prog 64 #[.string s] w fun e w' => e = .returned (.tuple #[.string (befS 32 s), .string (aftS 32 s), .bool (hasB 32 s)]) ∧ ∃ n, w' = w.drewN n := by
  go_enter Tryz.func64, Tryz.ntmps64
  go_wp2_with fail
  go_loop [5] (fun i => ∃ k : Nat, k ≤ s.size ∧ i = .int .i64 k ∧ Hid (∀ x ∈ s.data.toList.take k, neB 32 x = true)) (fun i => s.size - (intOf i).toNat)
  case atStart => exact ⟨0, Nat.zero_le _, rfl, by simp [Hid]⟩
  case round =>
    obtain ⟨k, hk, rfl, hall⟩ := hrel
    by_cases hlt : k < s.size
    · have hltz : (k : Int) < s.size := by omega
      by_cases hb : s[k] = 32
      · have hk1 := at_here hlt hall.out hb
        have HB := hide (bef_ext 32 s)
        have HA := hide (aft_ext 32 s)
        have HH : Hid (hasB 32 s = true) := by unfold Hid hasB; rw [hk1, size_list]; simpa using hlt
        rw [hk1] at HB HA
        clear hk1
        have hbd : (((s[k]).toNat : Int) == 32) = true := by rw [hb]; rfl
        clear hb
        go_wp2_with fail
        go_quiet (fail)
        go_wp2_with fail
        go_ret3
        exact ⟨by rw [← HB.out, ← HA.out, HH.out]; rfl, nq, rfl⟩
      · have hbd : (((s[k]).toNat : Int) == 32) = false := by
          rw [beq_eq_false_iff_ne]
          intro e
          have h32 : (32 : UInt8).toNat = 32 := rfl
          exact hb (UInt8.toNat_inj.1 (by omega))
        have HY := hide (allB_more hlt hall.out (show neB 32 s[k] = true by simpa [neB] using hb))
        clear hb
        go_wp2_with fail
        exact ⟨⟨k + 1, by omega, by go_num, HY⟩, by simp [intOf]; omega⟩
    · have hd : decide ((k : Int) < s.size) = false := decide_eq_false (by omega)
      have hn : ¬ atN 32 s.data.toList < s.data.toList.length := by
        have := hall.out
        rw [List.take_of_length_le (by rw [size_list]; omega)] at this
        unfold atN
        rw [takeWhile_all this]
        omega
      have HB := hide (bef_none hn)
      have HA := hide (aft_none hn)
      have HH : Hid (hasB 32 s = false) := by unfold Hid hasB; simpa using hn
      clear hn
      go_wp2_with fail
      go_ret3
      exact ⟨by rw [HB.out, HA.out, HH.out]; rfl, 0, by simp [World.drewN]⟩

theorem say_no {s : ByteArray} {k : Nat} (hk : k < s.size) (h : ctrlB s[k] = true) : rsnB s = false := rsn_bad (allB_no hk (by unfold sayB; rw [h]; rfl))
theorem tgt_nil {s : ByteArray} (h : s.data.toList = []) : tgtB s = false := by unfold tgtB tgtL; rw [h]; rfl
theorem tgt_long {s : ByteArray} (h : s.data.toList ≠ [42]) (g : ¬ s.size ≤ 500) : tgtB s = false := by rw [tgt_else h rfl, decide_eq_false g]; simp
theorem tgt_bad {s : ByteArray} (h : s.data.toList ≠ [42]) (g : allB addrB s.data.toList = false) : tgtB s = false := by rw [tgt_else h rfl, g]; simp
theorem tgt_good {s : ByteArray} {b : Bool} (h : s.data.toList ≠ [42]) (k : s.size ≤ 500) (g : allB addrB s.data.toList = true) (hb : (pre [47] s.data.toList || pre httpL s.data.toList) = b) : tgtB s = b := by
  rw [tgt_else h hb, decide_eq_true k, g]; simp
theorem pre_slash {s : ByteArray} (h : 0 < s.size) : pre [47] s.data.toList = decide (s[0] = 47) := by
  have hl : 0 < s.data.toList.length := by rw [size_list]; exact h
  have e := get_at s 0 h
  cases hd : s.data.toList with
  | nil => rw [hd] at hl; cases hl
  | cons a l =>
    have : s[0] = a := by rw [← e]; simp [hd]
    rw [this]
    unfold pre
    rw [Bool.eq_iff_iff]
    simp [List.isPrefixOf]
    exact ⟨fun h => h.symm, fun h => h.symm⟩
theorem pre_http {s : ByteArray} (h : 7 ≤ s.size) : pre httpL s.data.toList = ((s.extract 0 7).toList == [104, 116, 116, 112, 58, 47, 47]) := by
  rw [ByteArray.toList_eq, ext_take]
  unfold pre
  rw [Bool.eq_iff_iff, List.isPrefixOf_iff_prefix, List.prefix_iff_eq_take, beq_iff_eq]
  exact ⟨fun h => h.symm, fun h => h.symm⟩
theorem pre_http_no {s : ByteArray} (h : ¬ 7 ≤ s.size) : pre httpL s.data.toList = false := by
  cases e : pre httpL s.data.toList
  · rfl
  · unfold pre at e
    rw [List.isPrefixOf_iff_prefix] at e
    have := e.length_le
    rw [size_list] at this
    exact absurd this h

end Go.Proofs.YtmpijlaidnhpnaaGreat.Sr
