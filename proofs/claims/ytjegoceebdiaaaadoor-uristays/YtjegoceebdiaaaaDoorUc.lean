/- The walks of a host's port, of a place, and of which addresses may be. -/
import Derived.Test.YtjegoceebdiaaaaDoorUb
namespace Go.Proofs.YtjegoceebdiaaaaDoor
set_option linter.unusedVariables false
set_option linter.unusedSimpArgs false
open Go.RowKit

def cpS (s : ByteArray) : ByteArray := bytes (cutP s.data.toList).1
def cpP (s : ByteArray) : Int := (cutP s.data.toList).2

theorem cut_keep {s : ByteArray} (h : laI 58 s.data.toList < 0 ∨ 5 < (s.data.toList.drop (laI 58 s.data.toList + 1).toNat).length ∨ rdN 10 (s.data.toList.drop (laI 58 s.data.toList + 1).toNat) = 0) : cpS s = s ∧ cpP s = 0 := by
  unfold cpS cpP cutP
  rw [if_pos h]
  exact ⟨bytes_back s, rfl⟩
theorem cut_part {s : ByteArray} {k : Nat} (hk : laI 58 s.data.toList = k) (h1 : ¬ 5 < (s.data.toList.drop (k + 1)).length) (h2 : ¬ rdN 10 (s.data.toList.drop (k + 1)) = 0) : cpS s = s.extract 0 k ∧ cpP s = (rdN 10 (s.data.toList.drop (k + 1)) : Int) := by
  unfold cpS cpP cutP
  rw [hk]
  have e : ((k : Int) + 1).toNat = k + 1 := by omega
  have e2 : ((k : Int)).toNat = k := by omega
  rw [e, e2, if_neg (by simp only [not_or]; exact ⟨by omega, h1, h2⟩)]
  refine ⟨?_, rfl⟩
  apply bytes_ext
  rw [bytes_list, ext_take]

set_option maxRecDepth 100000 in
set_option maxHeartbeats 1000000 in
theorem cutPort_any (s : ByteArray) (w : World) (hs : s.size ≤ 100000) :
    Calls Tryd.prog 55 #[.string s] w fun e w' => e = .returned (.tuple #[.string (cpS s), .int .i64 (cpP s)]) ∧ Below w.heap.size w w' := by
  have hla := Tryd.strings_LastIndexByte s 58 (by omega) w
  rw [lastIndexByte_la s 58 58 rfl] at hla
  have hge := laI_ge 58 s.data.toList
  have hlt := laI_lt 58 s.data.toList
  rw [size_list] at hlt
  by_cases hneg : laI 58 s.data.toList = -1
  · have HR := hide (cut_keep (s := s) (Or.inl (by omega)))
    rw [hneg] at hla
    clear hneg hge hlt
    have hrd := rdN_le 10 s.data.toList
    go_enter Tryd.func55, Tryd.ntmps55
    go_wp2_with fail
    refine hla.mono ?_
    rintro e w1 ⟨rfl, hw1⟩
    subst hw1
    go_wp2_with fail
    refine (readDec_any _ _ (maxLen_of (by omega))).mono ?_
    rintro e w2 ⟨rfl, hb⟩
    go_wp2_with fail
    go_ret2
    exact ⟨ret_pair HR.out.1.symm HR.out.2.symm, hb⟩
  · obtain ⟨k, hk⟩ : ∃ k : Nat, laI 58 s.data.toList = k := ⟨(laI 58 s.data.toList).toNat, by omega⟩
    have hks : k + 1 ≤ s.size := by
      rcases hlt with h | h
      · omega
      · rw [h] at hk; rw [laI_nil] at hk; omega
    rw [hk] at hla
    have e : ((k : Int) + 1).toNat = k + 1 := by omega
    have hel : (s.extract (k + 1) s.size).data.toList = s.data.toList.drop (k + 1) := ext_drop _ _
    have hes : (s.extract (k + 1) s.size).size = (s.data.toList.drop (k + 1)).length := by rw [← size_list, hel]
    have hrd := rdN_le 10 (s.data.toList.drop (k + 1))
    have hrr := readDec_any (s.extract (k + 1) s.size) w (maxLen_of (by rw [ByteArray.size_extract]; omega))
    rw [hel] at hrr
    by_cases h5 : 5 < (s.data.toList.drop (k + 1)).length
    · have HR := hide (cut_keep (s := s) (Or.inr (Or.inl (by rw [hk, e]; exact h5))))
      have hz : (5 : Int) < ((s.extract (k + 1) s.size).size : Int) := by rw [hes]; omega
      clear hneg hge hlt hes hel
      go_enter Tryd.func55, Tryd.ntmps55
      go_wp2_with fail
      refine hla.mono ?_
      rintro e w1 ⟨rfl, hw1⟩
      subst hw1
      go_wp2_with fail
      refine hrr.mono ?_
      rintro e w2 ⟨rfl, hb⟩
      go_wp2_with fail
      all_goals first
        | (exfalso; simp [ByteArray.size_extract] at *; omega)
        | (go_ret2; exact ⟨ret_pair HR.out.1.symm HR.out.2.symm, hb⟩)
    · have h5z : decide ((5 : Int) < ((s.extract (k + 1) s.size).size : Int)) = false := decide_eq_false (by rw [hes]; omega)
      by_cases h0 : rdN 10 (s.data.toList.drop (k + 1)) = 0
      · have HR := hide (cut_keep (s := s) (Or.inr (Or.inr (by rw [hk, e]; exact h0))))
        rw [h0] at hrr
        clear hneg hge hlt hes hel h0 hrd
        go_enter Tryd.func55, Tryd.ntmps55
        go_wp2_with fail
        refine hla.mono ?_
        rintro e w1 ⟨rfl, hw1⟩
        subst hw1
        go_wp2_with fail
        refine hrr.mono ?_
        rintro e w2 ⟨rfl, hb⟩
        go_wp2_with fail
        all_goals first
          | (exfalso; simp [ByteArray.size_extract] at *; omega)
          | (go_ret2; exact ⟨ret_pair HR.out.1.symm HR.out.2.symm, hb⟩)
      · have HR := hide (cut_part hk h5 h0)
        generalize rdN 10 (s.data.toList.drop (k + 1)) = m at hrr hrd h0 HR
        have hm0 : ((m : Int) == 0) = false := by rw [beq_eq_false_iff_ne]; omega
        have hwr : IntKind.i64.wrap (m : Int) = m := by simp [IntKind.wrap, IntKind.bits, IntKind.signed]; omega
        clear hneg hge hlt hes hel
        go_enter Tryd.func55, Tryd.ntmps55
        go_wp2_with fail
        refine hla.mono ?_
        rintro e w1 ⟨rfl, hw1⟩
        subst hw1
        go_wp2_with fail
        refine hrr.mono ?_
        rintro e w2 ⟨rfl, hb⟩
        go_wp2_with fail
        all_goals first
          | (exfalso; simp [ByteArray.size_extract] at *; omega)
          | (go_ret2; exact ⟨ret_pair HR.out.1.symm HR.out.2.symm, hb⟩)

theorem ret_place {a c : ByteArray} {b d : Int} {x y : ByteArray} (h : a = c) (g : b = d) (k : x = y) : Ending.returned (.tuple #[.string a, .int .i64 b, .string x]) = .returned (.tuple #[.string c, .int .i64 d, .string y]) := by rw [h, g, k]

set_option maxRecDepth 100000 in
set_option maxHeartbeats 1000000 in
theorem place_any (s : ByteArray) (w : World) (hs : s.size ≤ 100000) :
    Calls Tryd.prog 26 #[.string s] w fun e w' => e = .returned (.tuple #[.string (cpS (lowS (befS 47 s))), .int .i64 (cpP (lowS (befS 47 s))), .string ((⟨#[47]⟩ : ByteArray) ++ aftS 47 s)]) ∧ Below w.heap.size w w' := by
  have h1 := befS_size 47 s
  have h2 := aftS_size 47 s
  have h3 := lowS_size (befS 47 s)
  go_enter Tryd.func26, Tryd.ntmps26
  go_wp2_with fail
  refine (cut_any s 47 _ (by omega)).mono ?_
  rintro e w1 ⟨rfl, n, rfl⟩
  go_wp2_with fail
  refine (lower_any (befS 47 s) _ (by omega)).mono ?_
  rintro e w2 ⟨rfl, hb2⟩
  go_wp2_with fail
  refine (cutPort_any (lowS (befS 47 s)) _ (by omega)).mono ?_
  rintro e w3 ⟨rfl, hb3⟩
  go_wp2_with fail
  go_ret3
  exact ⟨rfl, ((below_drewN w n).trans hb2).trans (hb3.mono hb2.size)⟩

set_option maxRecDepth 100000 in
set_option maxHeartbeats 1000000 in
theorem rightPlace_any (u : U) (w : World) (hh : u.host.size ≤ 10000) (hp : u.path.size ≤ 10000) :
    Calls Tryd.prog 31 #[u.v] w fun e w' => e = .returned (.bool (placeB u)) ∧ Below w.heap.size w w' := by
  unfold U.v
  have hbn : ∀ vs : Array Value, Below w.heap.size w (w.alloc (.cells vs 23)) := fun vs => (Below.refl _ _).alloc (Nat.le_refl _) _
  cases ha : u.abs
  · by_cases h0 : u.host.data.toList = []
    · have he := empty_of h0
      have HE : Hid (u.host.data.toList.isEmpty = true) := by unfold Hid; rw [h0]; rfl
      clear h0
      by_cases hz : u.port = 0
      · have HR : Hid (placeB u = startB u.path.data.toList) := by unfold Hid placeB; rw [ha, HE.out, hz]; rfl
        go_enter Tryd.func31, Tryd.ntmps31
        go_wp2_with fail
        refine (rightStart_any u.path _ (by omega)).mono ?_
        rintro e w1 ⟨rfl, n, rfl⟩
        go_wp2_with fail
        go_ret
        exact ⟨by rw [HR.out]; rfl, (hbn _).trans ((below_drewN _ n).mono (hbn _).size)⟩
      · have HR : Hid (placeB u = false) := by unfold Hid placeB; rw [ha, decide_eq_false hz]; simp
        have hzb : (u.port == 0) = false := by rw [beq_eq_false_iff_ne]; exact hz
        go_enter Tryd.func31, Tryd.ntmps31
        go_wp2_with fail
        go_ret
        exact ⟨by rw [HR.out]; rfl, hbn _⟩
    · have he := empty_not h0
      have HR : Hid (placeB u = false) := by
        unfold Hid placeB; rw [ha, show u.host.data.toList.isEmpty = false by simpa using h0]; simp
      clear h0
      go_enter Tryd.func31, Tryd.ntmps31
      go_wp2_with fail
      go_ret
      exact ⟨by rw [HR.out]; rfl, hbn _⟩
  · have hrh := rightHost_any u.host
    cases hok : hostOk u.host.data.toList
    · have HR : Hid (placeB u = false) := by unfold Hid placeB; rw [ha, hok]; simp
      have HK := hide hok
      clear hok
      go_enter Tryd.func31, Tryd.ntmps31
      go_wp2_with fail
      refine (hrh _ (by omega)).mono ?_
      rintro e w1 ⟨rfl, hw1⟩
      subst hw1
      rw [HK.out]
      go_wp2_with fail
      go_ret
      exact ⟨by rw [HR.out]; rfl, hbn _⟩
    · have HK := hide hok
      by_cases h1 : 0 ≤ u.port
      · by_cases h2 : u.port ≤ 65535
        · obtain ⟨b, hb⟩ : ∃ b, pre [47] u.path.data.toList = b := ⟨_, rfl⟩
          have HR : Hid (placeB u = b) := by unfold Hid placeB; rw [ha, hok, hb, decide_eq_true h1, decide_eq_true h2]; simp
          have HB := hide hb
          clear hok hb
          go_enter Tryd.func31, Tryd.ntmps31
          go_wp2_with fail
          refine (hrh _ (by omega)).mono ?_
          rintro e w1 ⟨rfl, hw1⟩
          subst hw1
          rw [HK.out]
          go_wp2_with fail
          refine (pre_any u.path ⟨#[47]⟩ _ HB.out _).mono ?_
          rintro e w1 ⟨rfl, hw1⟩
          subst hw1
          go_wp2_with fail
          go_ret
          exact ⟨by rw [HR.out]; rfl, hbn _⟩
        · have HR : Hid (placeB u = false) := by unfold Hid placeB; rw [ha, decide_eq_false h2]; simp
          have h2d : decide (u.port ≤ 65535) = false := decide_eq_false h2
          clear hok
          go_enter Tryd.func31, Tryd.ntmps31
          go_wp2_with fail
          refine (hrh _ (by omega)).mono ?_
          rintro e w1 ⟨rfl, hw1⟩
          subst hw1
          rw [HK.out]
          go_wp2_with fail
          go_ret
          exact ⟨by rw [HR.out]; rfl, hbn _⟩
      · have HR : Hid (placeB u = false) := by unfold Hid placeB; rw [ha, decide_eq_false h1]; simp
        have h1d : decide (0 ≤ u.port) = false := decide_eq_false h1
        clear hok
        go_enter Tryd.func31, Tryd.ntmps31
        go_wp2_with fail
        refine (hrh _ (by omega)).mono ?_
        rintro e w1 ⟨rfl, hw1⟩
        subst hw1
        rw [HK.out]
        go_wp2_with fail
        go_ret
        exact ⟨by rw [HR.out]; rfl, hbn _⟩

end Go.Proofs.YtjegoceebdiaaaaDoor
