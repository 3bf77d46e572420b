/- The walks of the document's own answers: where a head ends, and what its lines are read as. -/
import Derived.Test.YtmpijlaidnhpnaaGreatJHf
import Derived.Test.YtmpijlaidnhpnaaGreatJWo
namespace Go.Proofs.YtmpijlaidnhpnaaGreat.Hd
set_option linter.unusedVariables false
set_option linter.unusedSimpArgs false
set_option maxRecDepth 100000
open Go.RowKit

theorem ret_ends {a b : Int} {R : Int × Int} (h : R = (a, b)) : Ending.returned (.tuple #[.int .i64 a, .int .i64 b]) = .returned (.tuple #[.int .i64 R.1, .int .i64 R.2]) := by rw [h]
theorem ext_mid (s : ByteArray) (k m : Nat) : (s.extract k (k + m)).data.toList = (s.data.toList.drop k).take m := by
  simp [ByteArray.data_extract, List.extract_eq_take_drop]
theorem find_is (s : ByteArray) (c : UInt8) (n v : Int) (hn : (c.toNat : Int) = n) (hv : ixI c s.data.toList = v) (w : World) (hs : s.size ≤ 1000000) :
    Calls Tryz.prog 36 #[.string s, .int .u8 n] w fun e w' => e = .returned (.int .i64 v) ∧ w' = w := by
  subst hn hv; exact find_any s c w hs
theorem ix_yes {c : UInt8} {l : List UInt8} (h : atN c l < l.length) : ixI c l = (atN c l : Int) := by unfold ixI; rw [if_pos h]
theorem ix_not {c : UInt8} {l : List UInt8} (h : ¬ atN c l < l.length) : ixI c l = -1 := by unfold ixI; rw [if_neg h]
theorem bs_toList' (l : List UInt8) : (bs l).toList = l := by rw [ByteArray.toList_eq, bs_list]

set_option maxRecDepth 100000 in
set_option maxHeartbeats 2000000 in
theorem refend_any (s : ByteArray) (w : World) (hs : s.size ≤ 10000) :
    Calls Tryz.prog 22 #[.string s] w fun e w' => e = .returned (.tuple #[.int .i64 (enU s.data.toList).1, .int .i64 (enU s.data.toList).2]) ∧ w' = w := by
  have HE : Hid (erA s.size (lns 0 (s.data.toList.drop 0)) = enU s.data.toList) := by unfold Hid; rw [List.drop_zero, en_er, size_list]
  generalize enU s.data.toList = R at HE ⊢
  go_enter Tryz.func22, Tryz.ntmps22
  go_wp2_with fail
  go_loop [4, 5, 6] (fun p _ _ => ∃ k : Nat, k ≤ s.size ∧ p = .int .i64 k ∧ Hid (erA s.size (lns k (s.data.toList.drop k)) = R)) (fun p _ _ => s.size - (intOf p).toNat)
  case atStart => exact ⟨0, Nat.zero_le _, rfl, HE⟩
  case round =>
    obtain ⟨k, hk, rfl, hE⟩ := hrel
    have hX := ext_drop s k
    have hxs : (s.extract k s.size).size = s.size - k := by rw [ByteArray.size_extract]; omega
    obtain ⟨d, hd⟩ : ∃ d, s.extract k s.size = d := ⟨_, rfl⟩
    rw [hd] at hX hxs
    have hdl : d.data.toList.length = s.size - k := by rw [size_list]; exact hxs
    by_cases hm : atN 10 d.data.toList < d.data.toList.length
    · have hF := hide (find_is d 10 10 _ rfl (ix_yes hm))
      have hyes := lns_yes (a := k) hm
      rw [hdl] at hm
      rw [hX] at hyes
      have HT := hide (ext_mid s k (atN 10 d.data.toList))
      rw [← hX] at HT hyes
      generalize atN 10 d.data.toList = m at hm hF hyes HT
      have hkm : k + m + 1 ≤ s.size := by omega
      obtain ⟨t, ht⟩ : ∃ t, s.extract k (k + m) = t := ⟨_, rfl⟩
      rw [ht] at HT
      have hts : t.size ≤ 10000 := by rw [← ht, ByteArray.size_extract]; omega
      have hB := hide (bare_any t)
      rw [HT.out] at hB
      have hE' : Hid (erA s.size ((bareL (d.data.toList.take m), k + m + 1) :: lns (k + m + 1) (s.data.toList.drop (k + m + 1))) = R) := by
        have h := hE.out
        rw [← hX, hyes, hX, List.drop_drop] at h
        rw [hX]
        exact h
      generalize bareL (d.data.toList.take m) = l at hE' hB
      clear hE hyes hX HT hdl
      go_wp2_with fail
      refine (hF.out _ (by omega)).mono ?_
      rintro e w1 ⟨rfl, rfl⟩
      go_wp2_with fail
      refine (hB.out _ (by omega)).mono ?_
      rintro e w1 ⟨rfl, rfl⟩
      by_cases h4 : 4000 < k + m + 1
      · have hR : Hid (R = (0, 2)) := by have h := hE'.out; rw [erA, if_pos h4] at h; exact h.symm
        have h4z : (4000 : Int) < (k : Int) + m + 1 := by omega
        go_wp2_with fail
        go_ret2
        exact ⟨ret_ends hR.out, rfl⟩
      · have h4z : decide ((4000 : Int) < (k : Int) + m + 1) = false := decide_eq_false (by omega)
        cases hl : l.isEmpty
        · have hR : Hid (erA s.size (lns (k + m + 1) (s.data.toList.drop (k + m + 1))) = R) := by have h := hE'.out; rw [erA, if_neg h4, if_neg (by rw [hl]; decide)] at h; exact h
          have hl' : (bs l).toList.isEmpty = false := by rw [bs_toList']; exact hl
          go_wp2_with fail
          exact ⟨⟨k + m + 1, by omega, by congr 1, hR⟩, by simp [intOf]; omega⟩
        · have hR : Hid (R = (((k + m + 1 : Nat) : Int), 0)) := by have h := hE'.out; rw [erA, if_neg h4, if_pos hl] at h; exact h.symm
          have hl' : (bs l).toList.isEmpty = true := by rw [bs_toList']; exact hl
          go_wp2_with fail
          go_ret2
          exact ⟨ret_ends hR.out, rfl⟩
    · have hF := hide (find_is d 10 10 _ rfl (ix_not hm))
      have hR : Hid (R = if 4000 < s.size then (0, 2) else (0, 3)) := by
        have h := hE.out
        rw [← hX, lns_no hm, erA] at h
        exact h.symm
      clear hE hX hdl hm
      by_cases h4 : 4000 < s.size
      · have h4z : (4000 : Int) < (s.size : Int) := by omega
        rw [if_pos h4] at hR
        go_wp2_with fail
        refine (hF.out _ (by omega)).mono ?_
        rintro e w1 ⟨rfl, rfl⟩
        go_wp2_with fail
        go_ret2
        exact ⟨ret_ends hR.out, rfl⟩
      · have h4z : decide ((4000 : Int) < (s.size : Int)) = false := decide_eq_false (by omega)
        rw [if_neg h4] at hR
        go_wp2_with fail
        refine (hF.out _ (by omega)).mono ?_
        rintro e w1 ⟨rfl, rfl⟩
        go_wp2_with fail
        go_ret2
        exact ⟨ret_ends hR.out, rfl⟩

/-- What stands behind a line ends as all does. -/
theorem ends_drop {l : List UInt8} (n : Nat) (h : endsB l = true) : endsB (l.drop n) = true := by
  unfold endsB at *
  by_cases hn : l.length ≤ n
  · rw [List.drop_of_length_le hn]; rfl
  · have hl : l.isEmpty = false := by cases l with
      | nil => simp at hn
      | cons a l => rfl
    rw [hl, Bool.false_or] at h
    rw [List.getLast?_drop, if_neg hn, h, Bool.or_true]
theorem ends_at {l : List UInt8} (h : endsB l = true) (hn : l ≠ []) : atN 10 l < l.length := by
  by_cases g : atN 10 l < l.length
  · exact g
  · have hl : l.isEmpty = false := by simpa using hn
    unfold endsB at h
    rw [hl, Bool.false_or, decide_eq_true_eq] at h
    have := none_no g 10 (List.mem_of_getLast? h)
    simp [neB] at this
theorem fdL_bs (l : List UInt8) : (befS 58 (bs l), trimS (aftS 58 (bs l))) = fdL l := by rw [fd_eq, bs_list]
theorem okL_yes {l : List UInt8} (h : atN 58 l < l.length) : okL l = mayF (fdL l) := by unfold okL; rw [decide_eq_true h, Bool.true_and]
theorem okL_not {l : List UInt8} (h : ¬ atN 58 l < l.length) : okL l = false := by unfold okL; rw [decide_eq_false h, Bool.false_and]
set_option maxRecDepth 100000 in
set_option maxHeartbeats 8000000 in
theorem refparse_any (s : ByteArray) (w : World) (hs : s.size ≤ 10000) :
    Calls Tryz.prog 50 #[.string s] w fun e w' => ∃ v, e = .returned (.tuple #[v, .int .i64 (psU s.data.toList).2]) ∧ Row w' v (psU s.data.toList).1 ∧ Below w.heap.size w w' := by
  have HZ := hide (size_list s)
  by_cases h4 : 4000 < s.size
  · have h4z : (4000 : Int) < (s.size : Int) := by omega
    have HV : Hid (psU s.data.toList = ([], 2)) := ps_long (by rw [HZ.out]; exact h4)
    go_enter Tryz.func50, Tryz.ntmps50
    go_wp2_with fail
    refine bodyPost_ret (v := .tuple #[.slice none 0 0, .int .i64 2]) (by simp [results, Tryz.results50, go_sem]) rfl ⟨.slice none 0 0, by rw [HV.out], by rw [HV.out]; exact Row.nil _, Below.refl _ _⟩
  · have h4d : decide ((4000 : Int) < (s.size : Int)) = false := decide_eq_false (by omega)
    obtain ⟨R, hR⟩ : ∃ R, psU s.data.toList = R := ⟨_, rfl⟩
    rw [hR]
    cases he : endsB s.data.toList
    · have HV : Hid (R = ([], 31)) := by unfold Hid; rw [← hR]; unfold psU; rw [if_neg (by rw [HZ.out]; exact h4), if_neg (by rw [he]; decide)]
      have hne : s.toList.isEmpty = false := by rw [ByteArray.toList_eq]; unfold endsB at he; simp only [Bool.or_eq_false_iff] at he; exact he.1
      have hpos : 0 < s.size := by
        rw [← HZ.out]
        cases hl : s.data.toList with
        | nil => rw [hl] at he; cases he
        | cons a l => simp
      have hk : s.size - 1 < s.size := by omega
      have hkz : ((s.size - 1 : Nat) : Int) = (s.size : Int) - 1 := by omega
      have hg : s.data.toList.getLast? = some (s[s.size - 1]'hk) := last_at (m := s.size - 1) (by omega) hk
      have hbd : (((s[s.size - 1]'hk).toNat : Int) == 10) = false := by
        rw [beq_eq_false_iff_ne]
        intro e
        have : s[s.size - 1]'hk = 10 := UInt8.toNat_inj.1 (by rw [show (10 : UInt8).toNat = 10 from rfl]; omega)
        unfold endsB at he
        rw [hg, this] at he
        simp at he
      clear he hg hR
      go_enter Tryz.func50, Tryz.ntmps50
      go_wp2_with fail
      refine bodyPost_ret (v := .tuple #[.slice none 0 0, .int .i64 31]) (by simp [results, Tryz.results50, go_sem]) rfl ⟨.slice none 0 0, by rw [HV.out], by rw [HV.out]; exact Row.nil _, Below.refl _ _⟩
    · have HP : Hid (psA [] ((lns 0 s.data.toList).map Prod.fst) = R) := by unfold Hid; rw [← hR]; exact (ps_of (by rw [HZ.out]; omega) he).symm
      have HEN := hide he
      have hst : s.toList.isEmpty = true ∨ s.toList.isEmpty = false ∧ ∃ hk : s.size - 1 < s.size, ((s.size - 1 : Nat) : Int) = (s.size : Int) - 1 ∧ (((s[s.size - 1]'hk).toNat : Int) != 10) = false := by
        cases hl : s.data.toList with
        | nil => exact Or.inl (empty_of hl)
        | cons a l =>
          have hpos : 0 < s.size := by rw [← HZ.out, hl]; simp
          refine Or.inr ⟨empty_not (by rw [hl]; simp), by omega, by omega, ?_⟩
          have hg : s.data.toList.getLast? = some (s[s.size - 1]'(by omega)) := last_at (m := s.size - 1) (by omega) (by omega)
          unfold endsB at he
          rw [hg, hl] at he
          have h10 : s[s.size - 1]'(by omega) = 10 := by simpa using he
          rw [h10]; rfl
      clear he hR
      have HO : Hid (Own (w.alloc (.cells #[] 68)) w.heap.size (.slice (some ⟨w.heap.size, 0, none⟩) 0 0) []) := World.ownsRow_lit w #[] 0 (Nat.le_refl _) (by decide) rfl
      go_enter Tryz.func50, Tryz.ntmps50
      go_upto_region 3 with fail
      go_cut [21] (fun x wd => x = .bool false ∧ w = wd)
      case first =>
        rcases hst with hst | ⟨hst, hk, hkz, hbd⟩
        · go_wp2_with fail
          go_meet
          exact ⟨rfl, rfl⟩
        · go_wp2_with fail
          go_meet
          exact ⟨rfl, rfl⟩
      case rest =>
        obtain ⟨rfl, rfl⟩ := hcut
        go_wp2_with fail
        go_loopw [0, 4, 5, 6, 7, 8] (fun p v _ _ _ _ wr => ∃ (r : ByteArray) (acc : List Fd), p = .string r ∧ r.size ≤ 4000 ∧ acc.length ≤ 40 ∧ Hid (endsB r.data.toList = true) ∧ Hid (psA acc ((lns 0 r.data.toList).map Prod.fst) = R) ∧ Own wr w.heap.size v acc ∧ Below w.heap.size w wr) (fun p _ _ _ _ _ _ => match p with | .string r => r.size | _ => 0)
        case atStart => exact ⟨s, [], rfl, by omega, by simp, HEN, HP, HO.out, one_alloc w #[] 68⟩
        case round =>
          obtain ⟨r, acc, rfl, hrs, hal, hre, hrp, hown, hbr⟩ := hrel
          obtain ⟨va, vc, rfl⟩ := hown.row.slice
          have HOWN := hide hown
          clear hown
          by_cases h0 : r.data.toList = []
          · have hE := empty_of h0
            have HV : Hid (R = (acc, 0)) := by unfold Hid; rw [← hrp.out, h0]; rfl
            go_wp2_with fail
            refine bodyPost_ret (v := .tuple #[.slice va acc.length vc, .int .i64 0]) (by simp [results, Tryz.results50, go_sem]) rfl ⟨_, by rw [HV.out], by rw [HV.out]; exact HOWN.out.row, hbr⟩
          · have hE := empty_not h0
            have hm := ends_at hre.out h0
            have hF := hide (find_is r 10 10 _ rfl (ix_yes hm))
            have hyes := lns_yes (a := 0) hm
            rw [size_list] at hm
            have HT := hide (ext_take r (atN 10 r.data.toList))
            have HD := hide (ext_drop r (atN 10 r.data.toList + 1))
            generalize atN 10 r.data.toList = n at hm hF hyes HT HD
            obtain ⟨t, ht⟩ : ∃ t, r.extract 0 n = t := ⟨_, rfl⟩
            rw [ht] at HT
            obtain ⟨r', hr'⟩ : ∃ r', r.extract (n + 1) r.size = r' := ⟨_, rfl⟩
            rw [hr'] at HD
            have hts : t.size ≤ 4000 := by rw [← ht, ByteArray.size_extract]; omega
            have hrs' : r'.size = r.size - (n + 1) := by rw [← hr', ByteArray.size_extract]; omega
            have hre' : Hid (endsB r'.data.toList = true) := by unfold Hid; rw [HD.out]; exact ends_drop _ hre.out
            have hB := hide (bare_any t)
            have hll := bareL_le t.data.toList
            rw [size_list] at hll
            have hpp : Hid (psA acc (bareL t.data.toList :: (lns 0 r'.data.toList).map Prod.fst) = R) := by
              unfold Hid
              rw [← hrp.out, hyes, List.map_cons, HT.out, HD.out, lns_fst _ (0 + n + 1) 0]
            generalize bareL t.data.toList = l at hpp hB hll
            clear hyes HT HD hre hrp h0
            have hbs : (bs l).size = l.length := bs_size l
            by_cases h58 : atN 58 l < l.length
            · have hF2 := hide (find_is (bs l) 58 58 (atN 58 l : Int) rfl (by rw [bs_list]; exact ix_yes h58))
              have hB2 := bef_ext 58 (bs l)
              have hA2 := aft_ext 58 (bs l)
              have hs1 := befS_size 58 (bs l)
              have hs2 := aftS_size 58 (bs l)
              have hs3 := trimS_size (aftS 58 (bs l))
              have HFD := hide (fdL_bs l)
              have HOK := hide (okL_yes h58)
              have HT2 := hide (reftrim_any (aftS 58 (bs l)))
              rw [bs_list] at hB2 hA2
              rw [hbs] at hs1 hs2 hA2
              generalize trimS (aftS 58 (bs l)) = v at hs3 HFD HT2
              generalize befS 58 (bs l) = nm at hB2 hs1 HFD
              generalize aftS 58 (bs l) = a at hA2 hs2 hs3 HT2
              generalize atN 58 l = m at h58 hF2 hB2 hA2
              rw [← hbs] at h58 hA2
              have hlb := hll
              rw [← hbs] at hlb
              generalize bs l = b at hB hF2 hB2 hA2 h58 hbs hlb
              have hnm : nm.size ≤ 4000 := by omega
              have hvs : v.size ≤ 4000 := by omega
              have has : a.size ≤ 4000 := by omega
              clear hbs hll hs1 hs2 hs3
              have hwm : IntKind.i64.wrap ((m : Int) + 1) = (m : Int) + 1 := i64_wrap_id _ (by omega) (by omega)
              have hm0 : (0 : Int) ≤ (m : Int) := by omega
              have hm1 : (m : Int) ≤ (b.size : Int) := by omega
              have hm2 : (0 : Int) ≤ (m : Int) + 1 := by omega
              have hm3 : (m : Int) + 1 ≤ (b.size : Int) := by omega
              go_wp2_with fail
              refine (hF.out _ (by omega)).mono ?_
              rintro e w1 ⟨rfl, rfl⟩
              go_wp2_with fail
              refine (hB.out _ (by omega)).mono ?_
              rintro e w1 ⟨rfl, rfl⟩
              go_wp2_with fail
              refine (hF2.out _ (by omega)).mono ?_
              rintro e w1 ⟨rfl, rfl⟩
              go_wp2_with fail
              refine wp_region_held_drew (S := (fun _ => True)) (by kernel_rfl) (trivial) (fun hHeld => ?_)
              refine wpAnyH_take (i := 0) (oi := _) (v := .string b) rfl (by kernel_rfl) (by kernel_rfl) (by kernel_rfl) (fun _ _ _ h => h) (Or.inl ⟨by rfl, fun wS hSw => by go_simp⟩) (by first | trivial | assumption) ?_
              simp only [Act.put, List.setIfInBounds_toArray, List.set_cons_zero, List.set_cons_succ]
              refine wpAnyH_take (i := 1) (oi := _) (v := .int .i64 m) rfl (by kernel_rfl) (by kernel_rfl) (by kernel_rfl) (fun _ _ _ h => h) (Or.inl ⟨by rfl, fun wS hSw => by go_simp⟩) (by first | trivial | assumption) ?_
              simp only [Act.put, List.setIfInBounds_toArray, List.set_cons_zero, List.set_cons_succ]
              refine wpAnyH_take (i := 2) (oi := _) (v := .string nm) rfl (by kernel_rfl) (by kernel_rfl) (by kernel_rfl) (fun _ _ _ h => h) (Or.inl ⟨by rfl, fun wS hSw => by go_simp⟩) (by first | trivial | assumption) ?_
              simp only [Act.put, List.setIfInBounds_toArray, List.set_cons_zero, List.set_cons_succ]
              refine wpAnyH_take (i := 3) (oi := _) (v := .string b) rfl (by kernel_rfl) (by kernel_rfl) (by kernel_rfl) (fun _ _ _ h => h) (Or.inl ⟨by rfl, fun wS hSw => by go_simp⟩) (by first | trivial | assumption) ?_
              simp only [Act.put, List.setIfInBounds_toArray, List.set_cons_zero, List.set_cons_succ]
              refine wpAnyH_take (i := 4) (oi := _) (v := .int .i64 m) rfl (by kernel_rfl) (by kernel_rfl) (by kernel_rfl) (fun _ _ _ h => h) (Or.inl ⟨by rfl, fun wS hSw => by go_simp⟩) (by first | trivial | assumption) ?_
              simp only [Act.put, List.setIfInBounds_toArray, List.set_cons_zero, List.set_cons_succ]
              refine wpAnyH_take (i := 5) (oi := _) (v := .int .i64 ((m : Int) + 1)) rfl (by kernel_rfl) (by kernel_rfl) (by kernel_rfl) (fun _ _ _ h => h) (Or.inl ⟨by rfl, fun wS hSw => by go_simp⟩) (by first | trivial | assumption) ?_
              simp only [Act.put, List.setIfInBounds_toArray, List.set_cons_zero, List.set_cons_succ]
              refine wpAnyH_take (i := 6) (oi := _) (v := .string a) rfl (by kernel_rfl) (by kernel_rfl) (by kernel_rfl) (fun _ _ _ h => h) (Or.inl ⟨by rfl, fun wS hSw => by go_simp⟩) (by first | trivial | assumption) ?_
              simp only [Act.put, List.setIfInBounds_toArray, List.set_cons_zero, List.set_cons_succ]
              refine wpAnyH_ready (rs := [7, 9]) (by kernel_rfl) (by simp) ?_
              refine AllReadyH.cons (o := _) rfl (fun K hK => ?_) (AllReadyH.cons (o := _) rfl (fun K hK => ?_) AllReadyH.nil)
              · go_simp
                refine (HT2.out _ (by omega)).mono ?_
                rintro e w2 ⟨rfl, rfl⟩
                refine hK.out _ _ (trivial) (fun hHeld => ?_)
                clear hK K
                refine wpAnyH_take (i := 8) (oi := _) (v := .agg #[.string nm, .string v]) rfl (by kernel_rfl) (by kernel_rfl) (by kernel_rfl) (fun _ _ _ h => h) (Or.inl ⟨by rfl, fun wS hSw => by go_simp⟩) (by first | trivial | assumption) ?_
                simp only [Act.put, List.setIfInBounds_toArray, List.set_cons_zero, List.set_cons_succ]
                refine wpAnyH_ready (rs := [9]) (by kernel_rfl) (by simp) ?_
                refine AllReadyH.cons (o := _) rfl (fun K hK => ?_) AllReadyH.nil
                go_simp
                refine hK.out _ _ (trivial) (fun hHeld => ?_)
                clear hK K
                refine wpAnyH_ready (rs := [10]) (by kernel_rfl) (by simp) ?_
                refine AllReadyH.cons (o := _) rfl (fun K hK => ?_) AllReadyH.nil
                go_simp
                refine hK.out _ _ (trivial) (fun hHeld => ?_)
                clear hK K
                refine wpAnyH_done (by kernel_rfl) ?_ _
                have hb3 : Below w1.heap.size w1 (w1.alloc (.cells #[.string nm, .string v] 68)).drew := (one_alloc w1 #[.string nm, .string v] 68).drew
                have hB3 := hbr.trans (hb3.mono hbr.size)
                have HO3 := hide (HOWN.out.below hb3)
                have d0 : (w1.alloc (.cells #[.string nm, .string v] 68)).drew.cell? ⟨w1.heap.size, 0, none⟩ = some (.string nm) := by show (w1.alloc _).cell? _ = _; go_simp
                have d1 : (w1.alloc (.cells #[.string nm, .string v] 68)).drew.cell? ⟨w1.heap.size, 1, none⟩ = some (.string v) := by show (w1.alloc _).cell? _ = _; go_simp
                have hN : w1.heap.size < (w1.alloc (.cells #[.string nm, .string v] 68)).drew.heap.size := by show _ < (w1.alloc _).heap.size; simp
                generalize (w1.alloc (.cells #[.string nm, .string v] 68)).drew = w3 at hb3 hB3 HO3 d0 d1 hN ⊢
                generalize w1.heap.size = N at hb3 d0 d1 hN ⊢
                clear hb3 hbr HOWN HT2 hF hB hF2
                have HM : Hid (Calls Tryz.prog 33 #[.agg #[.string nm, .string v]] w3 fun e w' => e = .returned (.bool (okL l)) ∧ Below w3.heap.size w3 w') := by
                  have h := may_any (nm, v) w3 (show nm.size ≤ 1000000 by omega) (show v.size ≤ 1000000 by omega)
                  rw [show mayF (nm, v) = okL l by rw [HFD.out, HOK.out]] at h
                  exact h
                go_wp2_with fail
                refine HM.out.mono ?_
                rintro e w4 ⟨rfl, hb4⟩
                have hB4 := hB3.trans (hb4.mono hB3.size)
                have HO4 := hide (HO3.out.below hb4)
                have e0 := ((stays hb4).1 _ _ hN).trans d0
                have e1 := ((stays hb4).1 _ _ hN).trans d1
                have hN4 : N < w4.heap.size := Nat.lt_of_lt_of_le hN hb4.size
                clear hb4 hB3 HO3 d0 d1 hN HM
                cases hok : okL l
                · have HV : Hid (R = ([], 31)) := by unfold Hid; rw [← hpp.out, psA, if_neg (by rw [hok]; decide)]
                  go_wp2_with fail
                  refine bodyPost_ret (v := .tuple #[.slice none 0 0, .int .i64 31]) (by simp [results, Tryz.results50, go_sem]) rfl ⟨.slice none 0 0, by rw [HV.out], by rw [HV.out]; exact Row.nil _, hB4⟩
                · by_cases h40 : acc.length = 40
                  · have HV : Hid (R = ([], 4)) := by unfold Hid; rw [← hpp.out, psA, if_pos hok, if_pos h40]
                    have h40z : ((acc.length : Int) == 40) = true := by rw [h40]; rfl
                    go_wp2_with fail
                    refine bodyPost_ret (v := .tuple #[.slice none 0 0, .int .i64 4]) (by simp [results, Tryz.results50, go_sem]) rfl ⟨.slice none 0 0, by rw [HV.out], by rw [HV.out]; exact Row.nil _, hB4⟩
                  · have HV : Hid (psA (acc ++ [(nm, v)]) ((lns 0 r'.data.toList).map Prod.fst) = R) := by unfold Hid; rw [HFD.out, ← hpp.out, psA, if_pos hok, if_neg h40]
                    have h40z : ((acc.length : Int) == 40) = false := by rw [beq_eq_false_iff_ne]; omega
                    have hb5 := one_alloc w4 #[.string nm, .string v] 68
                    have hB5 := hB4.trans (hb5.mono hB4.size)
                    have HY := hide (And.intro (HO4.out.below hb5) (row_one (w := w4.alloc (.cells #[.string nm, .string v] 68)) (B := w4.heap.size) (f := (nm, v)) (by go_simp) (by go_simp)))
                    have hba : w.heap.size ≤ (w4.alloc (.cells #[.string nm, .string v] 68)).heap.size := hB5.size
                    clear hb5
                    go_wp2_with (at_builtin; refine wpList_append_Row rfl (.tmp 54) (.tmp 56) rfl w.heap.size (.slice va acc.length vc) (.slice (some ⟨w4.heap.size, 0, none⟩) 1 1) acc [(nm, v)] rfl rfl HY.out.1 HY.out.2 (by simp; omega) hba ?_; intro v' w6 ho6 hg6)
                    refine ⟨⟨r', acc ++ [(nm, v)], rfl, by omega, by simp; omega, hre', HV, ho6, hB5.grown hg6 hB5.size (own_block HY.out.1)⟩, by show r'.size < r.size; omega⟩
              · go_simp
                refine hK.out _ _ trivial (fun hHeld => ?_)
                clear hK K
                refine wpAnyH_ready (rs := [7]) (by kernel_rfl) (by simp) ?_
                refine AllReadyH.cons (o := _) rfl (fun K hK => ?_) AllReadyH.nil
                go_simp
                refine (HT2.out _ (by omega)).mono ?_
                rintro e w2 ⟨rfl, rfl⟩
                refine hK.out _ _ (trivial) (fun hHeld => ?_)
                clear hK K
                refine wpAnyH_take (i := 8) (oi := _) (v := .agg #[.string nm, .string v]) rfl (by kernel_rfl) (by kernel_rfl) (by kernel_rfl) (fun _ _ _ h => h) (Or.inl ⟨by rfl, fun wS hSw => by go_simp⟩) (by first | trivial | assumption) ?_
                simp only [Act.put, List.setIfInBounds_toArray, List.set_cons_zero, List.set_cons_succ]
                refine wpAnyH_ready (rs := [10]) (by kernel_rfl) (by simp) ?_
                refine AllReadyH.cons (o := _) rfl (fun K hK => ?_) AllReadyH.nil
                go_simp
                refine hK.out _ _ (trivial) (fun hHeld => ?_)
                clear hK K
                refine wpAnyH_done (by kernel_rfl) ?_ _
                have hb3 : Below w1.heap.size w1 (w1.alloc (.cells #[.string nm, .string v] 68)).drew := (one_alloc w1 #[.string nm, .string v] 68).drew
                have hB3 := hbr.trans (hb3.mono hbr.size)
                have HO3 := hide (HOWN.out.below hb3)
                have d0 : (w1.alloc (.cells #[.string nm, .string v] 68)).drew.cell? ⟨w1.heap.size, 0, none⟩ = some (.string nm) := by show (w1.alloc _).cell? _ = _; go_simp
                have d1 : (w1.alloc (.cells #[.string nm, .string v] 68)).drew.cell? ⟨w1.heap.size, 1, none⟩ = some (.string v) := by show (w1.alloc _).cell? _ = _; go_simp
                have hN : w1.heap.size < (w1.alloc (.cells #[.string nm, .string v] 68)).drew.heap.size := by show _ < (w1.alloc _).heap.size; simp
                generalize (w1.alloc (.cells #[.string nm, .string v] 68)).drew = w3 at hb3 hB3 HO3 d0 d1 hN ⊢
                generalize w1.heap.size = N at hb3 d0 d1 hN ⊢
                clear hb3 hbr HOWN HT2 hF hB hF2
                have HM : Hid (Calls Tryz.prog 33 #[.agg #[.string nm, .string v]] w3 fun e w' => e = .returned (.bool (okL l)) ∧ Below w3.heap.size w3 w') := by
                  have h := may_any (nm, v) w3 (show nm.size ≤ 1000000 by omega) (show v.size ≤ 1000000 by omega)
                  rw [show mayF (nm, v) = okL l by rw [HFD.out, HOK.out]] at h
                  exact h
                go_wp2_with fail
                refine HM.out.mono ?_
                rintro e w4 ⟨rfl, hb4⟩
                have hB4 := hB3.trans (hb4.mono hB3.size)
                have HO4 := hide (HO3.out.below hb4)
                have e0 := ((stays hb4).1 _ _ hN).trans d0
                have e1 := ((stays hb4).1 _ _ hN).trans d1
                have hN4 : N < w4.heap.size := Nat.lt_of_lt_of_le hN hb4.size
                clear hb4 hB3 HO3 d0 d1 hN HM
                cases hok : okL l
                · have HV : Hid (R = ([], 31)) := by unfold Hid; rw [← hpp.out, psA, if_neg (by rw [hok]; decide)]
                  go_wp2_with fail
                  refine bodyPost_ret (v := .tuple #[.slice none 0 0, .int .i64 31]) (by simp [results, Tryz.results50, go_sem]) rfl ⟨.slice none 0 0, by rw [HV.out], by rw [HV.out]; exact Row.nil _, hB4⟩
                · by_cases h40 : acc.length = 40
                  · have HV : Hid (R = ([], 4)) := by unfold Hid; rw [← hpp.out, psA, if_pos hok, if_pos h40]
                    have h40z : ((acc.length : Int) == 40) = true := by rw [h40]; rfl
                    go_wp2_with fail
                    refine bodyPost_ret (v := .tuple #[.slice none 0 0, .int .i64 4]) (by simp [results, Tryz.results50, go_sem]) rfl ⟨.slice none 0 0, by rw [HV.out], by rw [HV.out]; exact Row.nil _, hB4⟩
                  · have HV : Hid (psA (acc ++ [(nm, v)]) ((lns 0 r'.data.toList).map Prod.fst) = R) := by unfold Hid; rw [HFD.out, ← hpp.out, psA, if_pos hok, if_neg h40]
                    have h40z : ((acc.length : Int) == 40) = false := by rw [beq_eq_false_iff_ne]; omega
                    have hb5 := one_alloc w4 #[.string nm, .string v] 68
                    have hB5 := hB4.trans (hb5.mono hB4.size)
                    have HY := hide (And.intro (HO4.out.below hb5) (row_one (w := w4.alloc (.cells #[.string nm, .string v] 68)) (B := w4.heap.size) (f := (nm, v)) (by go_simp) (by go_simp)))
                    have hba : w.heap.size ≤ (w4.alloc (.cells #[.string nm, .string v] 68)).heap.size := hB5.size
                    clear hb5
                    go_wp2_with (at_builtin; refine wpList_append_Row rfl (.tmp 54) (.tmp 56) rfl w.heap.size (.slice va acc.length vc) (.slice (some ⟨w4.heap.size, 0, none⟩) 1 1) acc [(nm, v)] rfl rfl HY.out.1 HY.out.2 (by simp; omega) hba ?_; intro v' w6 ho6 hg6)
                    refine ⟨⟨r', acc ++ [(nm, v)], rfl, by omega, by simp; omega, hre', HV, ho6, hB5.grown hg6 hB5.size (own_block HY.out.1)⟩, by show r'.size < r.size; omega⟩
            · have hF2 := hide (find_is (bs l) 58 58 (-1) rfl (by rw [bs_list]; exact ix_not h58))
              have HV : Hid (R = ([], 31)) := by unfold Hid; rw [← hpp.out, psA, if_neg (by rw [okL_not h58]; decide)]
              clear h58
              go_wp2_with fail
              refine (hF.out _ (by omega)).mono ?_
              rintro e w1 ⟨rfl, rfl⟩
              go_wp2_with fail
              refine (hB.out _ (by omega)).mono ?_
              rintro e w1 ⟨rfl, rfl⟩
              go_wp2_with fail
              refine (hF2.out _ (by omega)).mono ?_
              rintro e w1 ⟨rfl, rfl⟩
              go_wp2_with fail
              refine bodyPost_ret (v := .tuple #[.slice none 0 0, .int .i64 31]) (by simp [results, Tryz.results50, go_sem]) rfl ⟨.slice none 0 0, by rw [HV.out], by rw [HV.out]; exact Row.nil _, hbr⟩

end Go.Proofs.YtmpijlaidnhpnaaGreat.Hd
