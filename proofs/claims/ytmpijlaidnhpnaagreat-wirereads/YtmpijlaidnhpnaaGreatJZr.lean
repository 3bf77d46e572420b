/- The walk of what the document reads the lines of a head as, with whose row that is. The walk of what a head is read as, as the document goes. The walk of what a head that ends at a place is read as, as the document goes. -/
import Derived.Test.YtmpijlaidnhpnaaGreatJHr
import Derived.Test.YtmpijlaidnhpnaaGreatJZf
import Derived.Test.YtmpijlaidnhpnaaGreatJZc
import Derived.Test.YtmpijlaidnhpnaaGreatJSf
import Derived.Test.YtmpijlaidnhpnaaGreatJRa
import Derived.Test.YtmpijlaidnhpnaaGreatJXh
import Derived.Test.YtmpijlaidnhpnaaGreatJYe
namespace Go.Proofs.YtmpijlaidnhpnaaGreat.Hd
set_option linter.unusedVariables false
set_option linter.unusedSimpArgs false
set_option maxRecDepth 100000
open Go.RowKit

set_option maxRecDepth 100000 in
set_option maxHeartbeats 8000000 in
theorem refparse_own (s : ByteArray) (w : World) (hs : s.size ≤ 10000) :
    Calls Tryz.prog 50 #[.string s] w fun e w' => ∃ v, e = .returned (.tuple #[v, .int .i64 (psU s.data.toList).2]) ∧ Own w' w.heap.size v (psU s.data.toList).1 ∧ Below w.heap.size w w' := by
  have HZ := hide (size_list s)
  by_cases h4 : 4000 < s.size
  · have h4z : (4000 : Int) < (s.size : Int) := by omega
    have HV : Hid (psU s.data.toList = ([], 2)) := ps_long (by rw [HZ.out]; exact h4)
    go_enter Tryz.func50, Tryz.ntmps50
    go_wp2_with fail
    refine bodyPost_ret (v := .tuple #[.slice none 0 0, .int .i64 2]) (by simp [results, Tryz.results50, go_sem]) rfl ⟨.slice none 0 0, by rw [HV.out], by rw [HV.out]; exact World.ownsRow_nil _ _ _ _, Below.refl _ _⟩
  · have h4d : decide ((4000 : Int) < (s.size : Int)) = false := decide_eq_false (by omega)
    obtain ⟨R, hR⟩ : ∃ R, psU s.data.toList = R := ⟨_, rfl⟩
    rw [hR]
    cases he : endsB s.data.toList
    · have HV : Hid (R = ([], 31)) := by unfold Hid; rw [← hR]; unfold psU; rw [if_neg (by rw [HZ.out]; exact h4), if_neg (by rw [he]; decide)]
      have hne : s.toList.isEmpty = false := by rw [ByteArray.toList_eq]; unfold endsB at he; simp only [Bool.or_eq_false_iff] at he; exact he.1
      have hpos : 0 < s.size := by
        rw [← HZ.out]
        cases hl : s.data.toList with
        | nil => rw [hl] at he; cases he
        | cons a l => simp
      have hk : s.size - 1 < s.size := by omega
      have hkz : ((s.size - 1 : Nat) : Int) = (s.size : Int) - 1 := by omega
      have hg : s.data.toList.getLast? = some (s[s.size - 1]'hk) := last_at (m := s.size - 1) (by omega) hk
      have hbd : (((s[s.size - 1]'hk).toNat : Int) == 10) = false := by
        rw [beq_eq_false_iff_ne]
        intro e
        have : s[s.size - 1]'hk = 10 := UInt8.toNat_inj.1 (by rw [show (10 : UInt8).toNat = 10 from rfl]; omega)
        unfold endsB at he
        rw [hg, this] at he
        simp at he
      clear he hg hR
      go_enter Tryz.func50, Tryz.ntmps50
      go_wp2_with fail
      refine bodyPost_ret (v := .tuple #[.slice none 0 0, .int .i64 31]) (by simp [results, Tryz.results50, go_sem]) rfl ⟨.slice none 0 0, by rw [HV.out], by rw [HV.out]; exact World.ownsRow_nil _ _ _ _, Below.refl _ _⟩
    · have HP : Hid (psA [] ((lns 0 s.data.toList).map Prod.fst) = R) := by unfold Hid; rw [← hR]; exact (ps_of (by rw [HZ.out]; omega) he).symm
      have HEN := hide he
      have hst : s.toList.isEmpty = true ∨ s.toList.isEmpty = false ∧ ∃ hk : s.size - 1 < s.size, ((s.size - 1 : Nat) : Int) = (s.size : Int) - 1 ∧ (((s[s.size - 1]'hk).toNat : Int) != 10) = false := by
        cases hl : s.data.toList with
        | nil => exact Or.inl (empty_of hl)
        | cons a l =>
          have hpos : 0 < s.size := by rw [← HZ.out, hl]; simp
          refine Or.inr ⟨empty_not (by rw [hl]; simp), by omega, by omega, ?_⟩
          have hg : s.data.toList.getLast? = some (s[s.size - 1]'(by omega)) := last_at (m := s.size - 1) (by omega) (by omega)
          unfold endsB at he
          rw [hg, hl] at he
          have h10 : s[s.size - 1]'(by omega) = 10 := by simpa using he
          rw [h10]; rfl
      clear he hR
      have HO : Hid (Own (w.alloc (.cells #[] 68)) w.heap.size (.slice (some ⟨w.heap.size, 0, none⟩) 0 0) []) := World.ownsRow_lit w #[] 0 (Nat.le_refl _) (by decide) rfl
      go_enter Tryz.func50, Tryz.ntmps50
      go_upto_region 3 with fail
      go_cut [21] (fun x wd => x = .bool false ∧ w = wd)
      case first =>
        rcases hst with hst | ⟨hst, hk, hkz, hbd⟩
        · go_wp2_with fail
          go_meet
          exact ⟨rfl, rfl⟩
        · go_wp2_with fail
          go_meet
          exact ⟨rfl, rfl⟩
      case rest =>
        obtain ⟨rfl, rfl⟩ := hcut
        go_wp2_with fail
        go_loopw [0, 4, 5, 6, 7, 8] (fun p v _ _ _ _ wr => ∃ (r : ByteArray) (acc : List Fd), p = .string r ∧ r.size ≤ 4000 ∧ acc.length ≤ 40 ∧ Hid (endsB r.data.toList = true) ∧ Hid (psA acc ((lns 0 r.data.toList).map Prod.fst) = R) ∧ Own wr w.heap.size v acc ∧ Below w.heap.size w wr) (fun p _ _ _ _ _ _ => match p with | .string r => r.size | _ => 0)
        case atStart => exact ⟨s, [], rfl, by omega, by simp, HEN, HP, HO.out, one_alloc w #[] 68⟩
        case round =>
          obtain ⟨r, acc, rfl, hrs, hal, hre, hrp, hown, hbr⟩ := hrel
          obtain ⟨va, vc, rfl⟩ := hown.row.slice
          have HOWN := hide hown
          clear hown
          by_cases h0 : r.data.toList = []
          · have hE := empty_of h0
            have HV : Hid (R = (acc, 0)) := by unfold Hid; rw [← hrp.out, h0]; rfl
            go_wp2_with fail
            refine bodyPost_ret (v := .tuple #[.slice va acc.length vc, .int .i64 0]) (by simp [results, Tryz.results50, go_sem]) rfl ⟨_, by rw [HV.out], by rw [HV.out]; exact HOWN.out, hbr⟩
          · have hE := empty_not h0
            have hm := ends_at hre.out h0
            have hF := hide (find_is r 10 10 _ rfl (ix_yes hm))
            have hyes := lns_yes (a := 0) hm
            rw [size_list] at hm
            have HT := hide (ext_take r (atN 10 r.data.toList))
            have HD := hide (ext_drop r (atN 10 r.data.toList + 1))
            generalize atN 10 r.data.toList = n at hm hF hyes HT HD
            obtain ⟨t, ht⟩ : ∃ t, r.extract 0 n = t := ⟨_, rfl⟩
            rw [ht] at HT
            obtain ⟨r', hr'⟩ : ∃ r', r.extract (n + 1) r.size = r' := ⟨_, rfl⟩
            rw [hr'] at HD
            have hts : t.size ≤ 4000 := by rw [← ht, ByteArray.size_extract]; omega
            have hrs' : r'.size = r.size - (n + 1) := by rw [← hr', ByteArray.size_extract]; omega
            have hre' : Hid (endsB r'.data.toList = true) := by unfold Hid; rw [HD.out]; exact ends_drop _ hre.out
            have hB := hide (bare_any t)
            have hll := bareL_le t.data.toList
            rw [size_list] at hll
            have hpp : Hid (psA acc (bareL t.data.toList :: (lns 0 r'.data.toList).map Prod.fst) = R) := by
              unfold Hid
              rw [← hrp.out, hyes, List.map_cons, HT.out, HD.out, lns_fst _ (0 + n + 1) 0]
            generalize bareL t.data.toList = l at hpp hB hll
            clear hyes HT HD hre hrp h0
            have hbs : (bs l).size = l.length := bs_size l
            by_cases h58 : atN 58 l < l.length
            · have hF2 := hide (find_is (bs l) 58 58 (atN 58 l : Int) rfl (by rw [bs_list]; exact ix_yes h58))
              have hB2 := bef_ext 58 (bs l)
              have hA2 := aft_ext 58 (bs l)
              have hs1 := befS_size 58 (bs l)
              have hs2 := aftS_size 58 (bs l)
              have hs3 := trimS_size (aftS 58 (bs l))
              have HFD := hide (fdL_bs l)
              have HOK := hide (okL_yes h58)
              have HT2 := hide (reftrim_any (aftS 58 (bs l)))
              rw [bs_list] at hB2 hA2
              rw [hbs] at hs1 hs2 hA2
              generalize trimS (aftS 58 (bs l)) = v at hs3 HFD HT2
              generalize befS 58 (bs l) = nm at hB2 hs1 HFD
              generalize aftS 58 (bs l) = a at hA2 hs2 hs3 HT2
              generalize atN 58 l = m at h58 hF2 hB2 hA2
              rw [← hbs] at h58 hA2
              have hlb := hll
              rw [← hbs] at hlb
              generalize bs l = b at hB hF2 hB2 hA2 h58 hbs hlb
              have hnm : nm.size ≤ 4000 := by omega
              have hvs : v.size ≤ 4000 := by omega
              have has : a.size ≤ 4000 := by omega
              clear hbs hll hs1 hs2 hs3
              have hwm : IntKind.i64.wrap ((m : Int) + 1) = (m : Int) + 1 := i64_wrap_id _ (by omega) (by omega)
              have hm0 : (0 : Int) ≤ (m : Int) := by omega
              have hm1 : (m : Int) ≤ (b.size : Int) := by omega
              have hm2 : (0 : Int) ≤ (m : Int) + 1 := by omega
              have hm3 : (m : Int) + 1 ≤ (b.size : Int) := by omega
              go_wp2_with fail
              refine (hF.out _ (by omega)).mono ?_
              rintro e w1 ⟨rfl, rfl⟩
              go_wp2_with fail
              refine (hB.out _ (by omega)).mono ?_
              rintro e w1 ⟨rfl, rfl⟩
              go_wp2_with fail
              refine (hF2.out _ (by omega)).mono ?_
              rintro e w1 ⟨rfl, rfl⟩
              go_wp2_with fail
              refine wp_region_held_drew (S := (fun _ => True)) (by kernel_rfl) (trivial) (fun hHeld => ?_)
              refine wpAnyH_take (i := 0) (oi := _) (v := .string b) rfl (by kernel_rfl) (by kernel_rfl) (by kernel_rfl) (fun _ _ _ h => h) (Or.inl ⟨by rfl, fun wS hSw => by go_simp⟩) (by first | trivial | assumption) ?_
              simp only [Act.put, List.setIfInBounds_toArray, List.set_cons_zero, List.set_cons_succ]
              refine wpAnyH_take (i := 1) (oi := _) (v := .int .i64 m) rfl (by kernel_rfl) (by kernel_rfl) (by kernel_rfl) (fun _ _ _ h => h) (Or.inl ⟨by rfl, fun wS hSw => by go_simp⟩) (by first | trivial | assumption) ?_
              simp only [Act.put, List.setIfInBounds_toArray, List.set_cons_zero, List.set_cons_succ]
              refine wpAnyH_take (i := 2) (oi := _) (v := .string nm) rfl (by kernel_rfl) (by kernel_rfl) (by kernel_rfl) (fun _ _ _ h => h) (Or.inl ⟨by rfl, fun wS hSw => by go_simp⟩) (by first | trivial | assumption) ?_
              simp only [Act.put, List.setIfInBounds_toArray, List.set_cons_zero, List.set_cons_succ]
              refine wpAnyH_take (i := 3) (oi := _) (v := .string b) rfl (by kernel_rfl) (by kernel_rfl) (by kernel_rfl) (fun _ _ _ h => h) (Or.inl ⟨by rfl, fun wS hSw => by go_simp⟩) (by first | trivial | assumption) ?_
              simp only [Act.put, List.setIfInBounds_toArray, List.set_cons_zero, List.set_cons_succ]
              refine wpAnyH_take (i := 4) (oi := _) (v := .int .i64 m) rfl (by kernel_rfl) (by kernel_rfl) (by kernel_rfl) (fun _ _ _ h => h) (Or.inl ⟨by rfl, fun wS hSw => by go_simp⟩) (by first | trivial | assumption) ?_
              simp only [Act.put, List.setIfInBounds_toArray, List.set_cons_zero, List.set_cons_succ]
              refine wpAnyH_take (i := 5) (oi := _) (v := .int .i64 ((m : Int) + 1)) rfl (by kernel_rfl) (by kernel_rfl) (by kernel_rfl) (fun _ _ _ h => h) (Or.inl ⟨by rfl, fun wS hSw => by go_simp⟩) (by first | trivial | assumption) ?_
              simp only [Act.put, List.setIfInBounds_toArray, List.set_cons_zero, List.set_cons_succ]
              refine wpAnyH_take (i := 6) (oi := _) (v := .string a) rfl (by kernel_rfl) (by kernel_rfl) (by kernel_rfl) (fun _ _ _ h => h) (Or.inl ⟨by rfl, fun wS hSw => by go_simp⟩) (by first | trivial | assumption) ?_
              simp only [Act.put, List.setIfInBounds_toArray, List.set_cons_zero, List.set_cons_succ]
              refine wpAnyH_ready (rs := [7, 9]) (by kernel_rfl) (by simp) ?_
              refine AllReadyH.cons (o := _) rfl (fun K hK => ?_) (AllReadyH.cons (o := _) rfl (fun K hK => ?_) AllReadyH.nil)
              · go_simp
                refine (HT2.out _ (by omega)).mono ?_
                rintro e w2 ⟨rfl, rfl⟩
                refine hK.out _ _ (trivial) (fun hHeld => ?_)
                clear hK K
                refine wpAnyH_take (i := 8) (oi := _) (v := .agg #[.string nm, .string v]) rfl (by kernel_rfl) (by kernel_rfl) (by kernel_rfl) (fun _ _ _ h => h) (Or.inl ⟨by rfl, fun wS hSw => by go_simp⟩) (by first | trivial | assumption) ?_
                simp only [Act.put, List.setIfInBounds_toArray, List.set_cons_zero, List.set_cons_succ]
                refine wpAnyH_ready (rs := [9]) (by kernel_rfl) (by simp) ?_
                refine AllReadyH.cons (o := _) rfl (fun K hK => ?_) AllReadyH.nil
                go_simp
                refine hK.out _ _ (trivial) (fun hHeld => ?_)
                clear hK K
                refine wpAnyH_ready (rs := [10]) (by kernel_rfl) (by simp) ?_
                refine AllReadyH.cons (o := _) rfl (fun K hK => ?_) AllReadyH.nil
                go_simp
                refine hK.out _ _ (trivial) (fun hHeld => ?_)
                clear hK K
                refine wpAnyH_done (by kernel_rfl) ?_ _
                have hb3 : Below w1.heap.size w1 (w1.alloc (.cells #[.string nm, .string v] 68)).drew := (one_alloc w1 #[.string nm, .string v] 68).drew
                have hB3 := hbr.trans (hb3.mono hbr.size)
                have HO3 := hide (HOWN.out.below hb3)
                have d0 : (w1.alloc (.cells #[.string nm, .string v] 68)).drew.cell? ⟨w1.heap.size, 0, none⟩ = some (.string nm) := by show (w1.alloc _).cell? _ = _; go_simp
                have d1 : (w1.alloc (.cells #[.string nm, .string v] 68)).drew.cell? ⟨w1.heap.size, 1, none⟩ = some (.string v) := by show (w1.alloc _).cell? _ = _; go_simp
                have hN : w1.heap.size < (w1.alloc (.cells #[.string nm, .string v] 68)).drew.heap.size := by show _ < (w1.alloc _).heap.size; simp
                generalize (w1.alloc (.cells #[.string nm, .string v] 68)).drew = w3 at hb3 hB3 HO3 d0 d1 hN ⊢
                generalize w1.heap.size = N at hb3 d0 d1 hN ⊢
                clear hb3 hbr HOWN HT2 hF hB hF2
                have HM : Hid (Calls Tryz.prog 33 #[.agg #[.string nm, .string v]] w3 fun e w' => e = .returned (.bool (okL l)) ∧ Below w3.heap.size w3 w') := by
                  have h := may_any (nm, v) w3 (show nm.size ≤ 1000000 by omega) (show v.size ≤ 1000000 by omega)
                  rw [show mayF (nm, v) = okL l by rw [HFD.out, HOK.out]] at h
                  exact h
                go_wp2_with fail
                refine HM.out.mono ?_
                rintro e w4 ⟨rfl, hb4⟩
                have hB4 := hB3.trans (hb4.mono hB3.size)
                have HO4 := hide (HO3.out.below hb4)
                have e0 := ((stays hb4).1 _ _ hN).trans d0
                have e1 := ((stays hb4).1 _ _ hN).trans d1
                have hN4 : N < w4.heap.size := Nat.lt_of_lt_of_le hN hb4.size
                clear hb4 hB3 HO3 d0 d1 hN HM
                cases hok : okL l
                · have HV : Hid (R = ([], 31)) := by unfold Hid; rw [← hpp.out, psA, if_neg (by rw [hok]; decide)]
                  go_wp2_with fail
                  refine bodyPost_ret (v := .tuple #[.slice none 0 0, .int .i64 31]) (by simp [results, Tryz.results50, go_sem]) rfl ⟨.slice none 0 0, by rw [HV.out], by rw [HV.out]; exact World.ownsRow_nil _ _ _ _, hB4⟩
                · by_cases h40 : acc.length = 40
                  · have HV : Hid (R = ([], 4)) := by unfold Hid; rw [← hpp.out, psA, if_pos hok, if_pos h40]
                    have h40z : ((acc.length : Int) == 40) = true := by rw [h40]; rfl
                    go_wp2_with fail
                    refine bodyPost_ret (v := .tuple #[.slice none 0 0, .int .i64 4]) (by simp [results, Tryz.results50, go_sem]) rfl ⟨.slice none 0 0, by rw [HV.out], by rw [HV.out]; exact World.ownsRow_nil _ _ _ _, hB4⟩
                  · have HV : Hid (psA (acc ++ [(nm, v)]) ((lns 0 r'.data.toList).map Prod.fst) = R) := by unfold Hid; rw [HFD.out, ← hpp.out, psA, if_pos hok, if_neg h40]
                    have h40z : ((acc.length : Int) == 40) = false := by rw [beq_eq_false_iff_ne]; omega
                    have hb5 := one_alloc w4 #[.string nm, .string v] 68
                    have hB5 := hB4.trans (hb5.mono hB4.size)
                    have HY := hide (And.intro (HO4.out.below hb5) (row_one (w := w4.alloc (.cells #[.string nm, .string v] 68)) (B := w4.heap.size) (f := (nm, v)) (by go_simp) (by go_simp)))
                    have hba : w.heap.size ≤ (w4.alloc (.cells #[.string nm, .string v] 68)).heap.size := hB5.size
                    clear hb5
                    go_wp2_with (at_builtin; refine wpList_append_Row rfl (.tmp 54) (.tmp 56) rfl w.heap.size (.slice va acc.length vc) (.slice (some ⟨w4.heap.size, 0, none⟩) 1 1) acc [(nm, v)] rfl rfl HY.out.1 HY.out.2 (by simp; omega) hba ?_; intro v' w6 ho6 hg6)
                    refine ⟨⟨r', acc ++ [(nm, v)], rfl, by omega, by simp; omega, hre', HV, ho6, hB5.grown hg6 hB5.size (own_block HY.out.1)⟩, by show r'.size < r.size; omega⟩
              · go_simp
                refine hK.out _ _ trivial (fun hHeld => ?_)
                clear hK K
                refine wpAnyH_ready (rs := [7]) (by kernel_rfl) (by simp) ?_
                refine AllReadyH.cons (o := _) rfl (fun K hK => ?_) AllReadyH.nil
                go_simp
                refine (HT2.out _ (by omega)).mono ?_
                rintro e w2 ⟨rfl, rfl⟩
                refine hK.out _ _ (trivial) (fun hHeld => ?_)
                clear hK K
                refine wpAnyH_take (i := 8) (oi := _) (v := .agg #[.string nm, .string v]) rfl (by kernel_rfl) (by kernel_rfl) (by kernel_rfl) (fun _ _ _ h => h) (Or.inl ⟨by rfl, fun wS hSw => by go_simp⟩) (by first | trivial | assumption) ?_
                simp only [Act.put, List.setIfInBounds_toArray, List.set_cons_zero, List.set_cons_succ]
                refine wpAnyH_ready (rs := [10]) (by kernel_rfl) (by simp) ?_
                refine AllReadyH.cons (o := _) rfl (fun K hK => ?_) AllReadyH.nil
                go_simp
                refine hK.out _ _ (trivial) (fun hHeld => ?_)
                clear hK K
                refine wpAnyH_done (by kernel_rfl) ?_ _
                have hb3 : Below w1.heap.size w1 (w1.alloc (.cells #[.string nm, .string v] 68)).drew := (one_alloc w1 #[.string nm, .string v] 68).drew
                have hB3 := hbr.trans (hb3.mono hbr.size)
                have HO3 := hide (HOWN.out.below hb3)
                have d0 : (w1.alloc (.cells #[.string nm, .string v] 68)).drew.cell? ⟨w1.heap.size, 0, none⟩ = some (.string nm) := by show (w1.alloc _).cell? _ = _; go_simp
                have d1 : (w1.alloc (.cells #[.string nm, .string v] 68)).drew.cell? ⟨w1.heap.size, 1, none⟩ = some (.string v) := by show (w1.alloc _).cell? _ = _; go_simp
                have hN : w1.heap.size < (w1.alloc (.cells #[.string nm, .string v] 68)).drew.heap.size := by show _ < (w1.alloc _).heap.size; simp
                generalize (w1.alloc (.cells #[.string nm, .string v] 68)).drew = w3 at hb3 hB3 HO3 d0 d1 hN ⊢
                generalize w1.heap.size = N at hb3 d0 d1 hN ⊢
                clear hb3 hbr HOWN HT2 hF hB hF2
                have HM : Hid (Calls Tryz.prog 33 #[.agg #[.string nm, .string v]] w3 fun e w' => e = .returned (.bool (okL l)) ∧ Below w3.heap.size w3 w') := by
                  have h := may_any (nm, v) w3 (show nm.size ≤ 1000000 by omega) (show v.size ≤ 1000000 by omega)
                  rw [show mayF (nm, v) = okL l by rw [HFD.out, HOK.out]] at h
                  exact h
                go_wp2_with fail
                refine HM.out.mono ?_
                rintro e w4 ⟨rfl, hb4⟩
                have hB4 := hB3.trans (hb4.mono hB3.size)
                have HO4 := hide (HO3.out.below hb4)
                have e0 := ((stays hb4).1 _ _ hN).trans d0
                have e1 := ((stays hb4).1 _ _ hN).trans d1
                have hN4 : N < w4.heap.size := Nat.lt_of_lt_of_le hN hb4.size
                clear hb4 hB3 HO3 d0 d1 hN HM
                cases hok : okL l
                · have HV : Hid (R = ([], 31)) := by unfold Hid; rw [← hpp.out, psA, if_neg (by rw [hok]; decide)]
                  go_wp2_with fail
                  refine bodyPost_ret (v := .tuple #[.slice none 0 0, .int .i64 31]) (by simp [results, Tryz.results50, go_sem]) rfl ⟨.slice none 0 0, by rw [HV.out], by rw [HV.out]; exact World.ownsRow_nil _ _ _ _, hB4⟩
                · by_cases h40 : acc.length = 40
                  · have HV : Hid (R = ([], 4)) := by unfold Hid; rw [← hpp.out, psA, if_pos hok, if_pos h40]
                    have h40z : ((acc.length : Int) == 40) = true := by rw [h40]; rfl
                    go_wp2_with fail
                    refine bodyPost_ret (v := .tuple #[.slice none 0 0, .int .i64 4]) (by simp [results, Tryz.results50, go_sem]) rfl ⟨.slice none 0 0, by rw [HV.out], by rw [HV.out]; exact World.ownsRow_nil _ _ _ _, hB4⟩
                  · have HV : Hid (psA (acc ++ [(nm, v)]) ((lns 0 r'.data.toList).map Prod.fst) = R) := by unfold Hid; rw [HFD.out, ← hpp.out, psA, if_pos hok, if_neg h40]
                    have h40z : ((acc.length : Int) == 40) = false := by rw [beq_eq_false_iff_ne]; omega
                    have hb5 := one_alloc w4 #[.string nm, .string v] 68
                    have hB5 := hB4.trans (hb5.mono hB4.size)
                    have HY := hide (And.intro (HO4.out.below hb5) (row_one (w := w4.alloc (.cells #[.string nm, .string v] 68)) (B := w4.heap.size) (f := (nm, v)) (by go_simp) (by go_simp)))
                    have hba : w.heap.size ≤ (w4.alloc (.cells #[.string nm, .string v] 68)).heap.size := hB5.size
                    clear hb5
                    go_wp2_with (at_builtin; refine wpList_append_Row rfl (.tmp 54) (.tmp 56) rfl w.heap.size (.slice va acc.length vc) (.slice (some ⟨w4.heap.size, 0, none⟩) 1 1) acc [(nm, v)] rfl rfl HY.out.1 HY.out.2 (by simp; omega) hba ?_; intro v' w6 ho6 hg6)
                    refine ⟨⟨r', acc ++ [(nm, v)], rfl, by omega, by simp; omega, hre', HV, ho6, hB5.grown hg6 hB5.size (own_block HY.out.1)⟩, by show r'.size < r.size; omega⟩
            · have hF2 := hide (find_is (bs l) 58 58 (-1) rfl (by rw [bs_list]; exact ix_not h58))
              have HV : Hid (R = ([], 31)) := by unfold Hid; rw [← hpp.out, psA, if_neg (by rw [okL_not h58]; decide)]
              clear h58
              go_wp2_with fail
              refine (hF.out _ (by omega)).mono ?_
              rintro e w1 ⟨rfl, rfl⟩
              go_wp2_with fail
              refine (hB.out _ (by omega)).mono ?_
              rintro e w1 ⟨rfl, rfl⟩
              go_wp2_with fail
              refine (hF2.out _ (by omega)).mono ?_
              rintro e w1 ⟨rfl, rfl⟩
              go_wp2_with fail
              refine bodyPost_ret (v := .tuple #[.slice none 0 0, .int .i64 31]) (by simp [results, Tryz.results50, go_sem]) rfl ⟨.slice none 0 0, by rw [HV.out], by rw [HV.out]; exact World.ownsRow_nil _ _ _ _, hbr⟩

end Go.Proofs.YtmpijlaidnhpnaaGreat.Hd

namespace Go.Proofs.YtmpijlaidnhpnaaGreat
set_option linter.unusedVariables false
set_option linter.unusedSimpArgs false
set_option maxRecDepth 100000
open Go.RowKit

/-- Two results, and a message. -/
structure Bx (w W : World) (M : Nat) (C : List Value) : Prop where
  b : Below w.heap.size w W
  r : Blk W w.heap.size 26 [.string ⟨#[]⟩, .string ⟨#[]⟩, .int .i64 0, .string ⟨#[]⟩, .int .i64 0, .slice none 0 0, .string ⟨#[]⟩]
  t : Blk W (w.heap.size + 1) 28 [.int .i64 0, .int .i64 0]
  m : Blk W M 26 C
  ne : w.heap.size + 1 < M
theorem Bx.below {w W W' : World} {M : Nat} {C : List Value} (h : Bx w W M C) (hb : Below W.heap.size W W') : Bx w W' M C :=
  ⟨h.b.trans (hb.mono h.b.size), h.r.below hb, h.t.below hb, h.m.below hb, h.ne⟩
theorem Bx.alloc {w W : World} {M : Nat} {C : List Value} (h : Bx w W M C) (o : Obj) : Bx w (W.alloc o) M C := h.below ((Below.refl _ _).alloc (Nat.le_refl _) o)
theorem Bx.drew {w W : World} {M : Nat} {C : List Value} (h : Bx w W M C) : Bx w W.drew M C := h.below (Below.refl _ _).drew
theorem Bx.set {w W : World} {M : Nat} {C : List Value} (h : Bx w W M C) (i : Nat) (hi : i < C.length) (v : Value) : Bx w (W.setCell ⟨M, i, none⟩ v) M (C.set i v) :=
  have hne := h.ne
  ⟨h.b.setCell (show w.heap.size ≤ M by omega) _, h.r.other _ _ _ (by omega), h.t.other _ _ _ (by omega), h.m.set i hi v, h.ne⟩
theorem Bx.other {w W : World} {M : Nat} {C : List Value} (h : Bx w W M C) (Q i : Nat) (v : Value) (h1 : w.heap.size + 1 < Q) (h2 : Q ≠ M) : Bx w (W.setCell ⟨Q, i, none⟩ v) M C :=
  ⟨h.b.setCell (show w.heap.size ≤ Q by omega) _, h.r.other _ _ _ (by omega), h.t.other _ _ _ (by omega), h.m.other _ _ _ h2, h.ne⟩

/-- What reading a head tells, as the document goes. -/
def BP (w : World) (H : Hh) (en : Ending) : Prop := ∃ (m : Ms) (va : Option Addr) (vn vc : Nat) (k z : Int), en = .returned (.tuple #[m.v (.slice va vn vc), .agg #[.int .i64 k, .int .i64 z], .int .i64 H.e]) ∧ (H.e = 0 → m = ⟨H.s, H.L, []⟩ ∧ k = H.k ∧ z = H.z ∧ FR w (.slice va vn vc) m.L)
theorem bp_bad {w : World} {H : Hh} {E : Int} (m : Ms) (va : Option Addr) (vn vc : Nat) (h : Hid (H.e = E)) (hE : E ≠ 0) : BP w H (.returned (.tuple #[m.v (.slice va vn vc), .agg #[.int .i64 0, .int .i64 0], .int .i64 E])) :=
  ⟨m, va, vn, vc, 0, 0, by rw [h.out], fun e => absurd (h.out.symm.trans e) hE⟩
theorem drop_le (p : List UInt8) (n : Nat) : (p.drop n).length ≤ p.length := by rw [List.length_drop]; omega

set_option maxHeartbeats 16000000 in
theorem begin_any (a : Bool) (t : ByteArray) (p : List UInt8) (w : World) (hp : p.length ≤ 4000) (h10 : Hd.atN 10 p < p.length) :
    Calls Tryz.prog 38 #[.bool a, .string t, .string (Ck.bs p)] w fun en w' => BP w' (hpF a t p) en ∧ Below w.heap.size w w' := by
  have hp0 : p ≠ [] := fun e => by subst e; exact absurd h10 (by simp)
  have hln := fun W => refline_any p W (by omega) h10
  have hfl := firL_le p
  have hrl := drop_le p (Hd.atN 10 p + 1)
  have hpa := fun W => Sr.refparse_any (Ck.bs (firL p)) W (by rw [Ck.bs_size]; omega)
  have hsa := fun W => Sr.refstatus_any (Ck.bs (firL p)) W (by rw [Ck.bs_size]; omega)
  have hfp := fun W => Hd.refparse_own (Ck.bs (p.drop (Hd.atN 10 p + 1))) W (by rw [Ck.bs_size]; omega)
  rw [Ck.bs_list] at hfp
  have hall := Hd.ps_all (p.drop (Hd.atN 10 p + 1))
  have hHP : hpF a t p = if rtB (fiU a (firL p)) = false then ⟨30, St.no, [], 0, 0⟩
    else if (Hd.psU (p.drop (Hd.atN 10 p + 1))).2 ≠ 0 then ⟨(Hd.psU (p.drop (Hd.atN 10 p + 1))).2, St.no, [], 0, 0⟩
    else ⟨(lgF a t (fiU a (firL p)) (Hd.psU (p.drop (Hd.atN 10 p + 1))).1).2.2, fiU a (firL p), (Hd.psU (p.drop (Hd.atN 10 p + 1))).1, (lgF a t (fiU a (firL p)) (Hd.psU (p.drop (Hd.atN 10 p + 1))).1).1, (lgF a t (fiU a (firL p)) (Hd.psU (p.drop (Hd.atN 10 p + 1))).1).2.1⟩ := by
    unfold hpF; rw [if_neg hp0]
  have hsh := fi_short (a := a) (l := firL p) (by omega)
  have hM : Blk ((w.alloc (.cells #[.string ⟨#[]⟩, .string ⟨#[]⟩, .int .i64 0, .string ⟨#[]⟩, .int .i64 0, .slice none 0 0, .string ⟨#[]⟩] 26)).alloc (.cells #[.int .i64 0, .int .i64 0] 28)) w.heap.size 26 [.string ⟨#[]⟩, .string ⟨#[]⟩, .int .i64 0, .string ⟨#[]⟩, .int .i64 0, .slice none 0 0, .string ⟨#[]⟩] := (Blk.new w 26 [.string ⟨#[]⟩, .string ⟨#[]⟩, .int .i64 0, .string ⟨#[]⟩, .int .i64 0, .slice none 0 0, .string ⟨#[]⟩]).alloc _
  have hT : Blk ((w.alloc (.cells #[.string ⟨#[]⟩, .string ⟨#[]⟩, .int .i64 0, .string ⟨#[]⟩, .int .i64 0, .slice none 0 0, .string ⟨#[]⟩] 26)).alloc (.cells #[.int .i64 0, .int .i64 0] 28)) (w.heap.size + 1) 28 [.int .i64 0, .int .i64 0] := by
    have := Blk.new (w.alloc (.cells #[.string ⟨#[]⟩, .string ⟨#[]⟩, .int .i64 0, .string ⟨#[]⟩, .int .i64 0, .slice none 0 0, .string ⟨#[]⟩] 26)) 28 [.int .i64 0, .int .i64 0]
    rwa [show (w.alloc (.cells #[.string ⟨#[]⟩, .string ⟨#[]⟩, .int .i64 0, .string ⟨#[]⟩, .int .i64 0, .slice none 0 0, .string ⟨#[]⟩] 26)).heap.size = w.heap.size + 1 by simp] at this
  have hB : Below w.heap.size w ((w.alloc (.cells #[.string ⟨#[]⟩, .string ⟨#[]⟩, .int .i64 0, .string ⟨#[]⟩, .int .i64 0, .slice none 0 0, .string ⟨#[]⟩] 26)).alloc (.cells #[.int .i64 0, .int .i64 0] 28)) := ((Below.refl _ _).alloc (Nat.le_refl _) _).alloc (by simp) _
  generalize hpF a t p = H at hHP ⊢
  generalize Hd.psU (p.drop (Hd.atN 10 p + 1)) = PS at hfp hall hHP
  obtain ⟨L, E⟩ := PS
  have hfu : fiU a (firL p) = if a then Sr.psU (Ck.bs (firL p)) else Sr.stU (Ck.bs (firL p)) := rfl
  have b1 := Ck.bs_size (firL p)
  generalize firL p = F at hln hpa hsa hHP hsh hfl hfu b1
  generalize p.drop (Hd.atN 10 p + 1) = R at hln hfp hrl
  generalize Ck.bs F = FS at hln hpa hsa hfu b1
  generalize Ck.bs R = RS at hln hfp
  generalize Ck.bs p = PB at hln ⊢
  simp only at hfp hall hHP
  have HA := hide hall
  clear hall hp0 h10 hfl hrl hp b1
  cases a
  · simp only [Bool.false_eq_true, if_false] at hfu
    rw [← hfu] at hsa
    generalize fiU false F = G at hHP hsh hsa hfu
    clear hfu
    generalize Sr.gvU (Sr.psU FS) = G0 at hpa
    generalize Sr.gvE (Sr.psU FS) = E0 at hpa
    unfold St.v at hpa
    cases h1 : rtB G
    · obtain ⟨e1, e2⟩ := Sr.gv_no h1
      rw [e1, e2] at hsa
      unfold St.no noS St.v at hsa
      dsimp only at hsa
      have HV : Hid (H.e = 30) := by unfold Hid; rw [hHP, if_pos h1]
      clear e1 e2 h1 hHP hsh hfp HA
      go_enter Tryz.func38, Tryz.ntmps38
      go_upto_region 1 with fail
      generalize World.alloc (World.alloc _ _) _ = V0 at hM hT hB ⊢
      go_wp2_with fail
      refine (hln _).mono ?_
      rintro en w1 ⟨rfl, hb1⟩
      replace hB := hB.trans (hb1.mono hB.size)
      replace hM := hM.below hb1
      replace hT := hT.below hb1
      have hTl := hT.lt
      clear hb1 hln
      go_upto_region 3 with fail
      have hX : Bx w (w1.alloc (.cells #[.string ⟨#[]⟩, .string ⟨#[]⟩, .int .i64 0, .string ⟨#[]⟩, .int .i64 0, .slice none 0 0, .string ⟨#[]⟩] 26)) w1.heap.size [.string ⟨#[]⟩, .string ⟨#[]⟩, .int .i64 0, .string ⟨#[]⟩, .int .i64 0, .slice none 0 0, .string ⟨#[]⟩] := ⟨hB.alloc hB.size _, hM.alloc _, hT.alloc _, Blk.new w1 26 [.string ⟨#[]⟩, .string ⟨#[]⟩, .int .i64 0, .string ⟨#[]⟩, .int .i64 0, .slice none 0 0, .string ⟨#[]⟩], hTl⟩
      clear hM hT hB hTl
      generalize World.alloc w1 _ = V1 at hX ⊢
      generalize w1.heap.size = M at hX ⊢
      go_wp2_with fail
      refine (hpa _).mono ?_
      rintro en w3 ⟨rfl, hb3⟩
      replace hX := hX.below hb3
      clear hb3 hpa
      go_upto_region 4 with fail
      have hS : Blk (w3.alloc (.cells #[.string G0.m, .string G0.t, .int .i64 G0.c, .string G0.r, .int .i64 G0.n] 23)) w3.heap.size 23 [.string G0.m, .string G0.t, .int .i64 G0.c, .string G0.r, .int .i64 G0.n] := Blk.new w3 23 [.string G0.m, .string G0.t, .int .i64 G0.c, .string G0.r, .int .i64 G0.n]
      have hMS : M < w3.heap.size := hX.m.lt
      replace hX := hX.alloc (.cells #[.string G0.m, .string G0.t, .int .i64 G0.c, .string G0.r, .int .i64 G0.n] 23)
      generalize World.alloc w3 _ = V3 at hX hS ⊢
      generalize w3.heap.size = S3 at hS hMS ⊢
      have s0 := hS.cell 0 _ rfl
      have s1 := hS.cell 1 _ rfl
      have s2 := hS.cell 2 _ rfl
      have s3 := hS.cell 3 _ rfl
      have s4 := hS.cell 4 _ rfl
      have sf := hS.fz
      have m0 := hX.m.cell 0 _ rfl
      have m1 := hX.m.cell 1 _ rfl
      have m2 := hX.m.cell 2 _ rfl
      have m3 := hX.m.cell 3 _ rfl
      have m4 := hX.m.cell 4 _ rfl
      have m5 := hX.m.cell 5 _ rfl
      have m6 := hX.m.cell 6 _ rfl
      have mf := hX.m.fz
      go_wp2_with fail
      refine (hsa _).mono ?_
      rintro en w5 ⟨rfl, hb5⟩
      replace hX := hX.below hb5
      replace hS := hS.below hb5
      clear s0 s1 s2 s3 s4 sf m0 m1 m2 m3 m4 m5 m6 mf hb5 hsa
      go_upto_region 6 with fail
      have hQ : Blk (w5.alloc (.cells #[.string ⟨#[]⟩, .string ⟨#[]⟩, .int .i64 0, .string ⟨#[]⟩, .int .i64 0] 23)) w5.heap.size 23 [.string ⟨#[]⟩, .string ⟨#[]⟩, .int .i64 0, .string ⟨#[]⟩, .int .i64 0] := Blk.new w5 23 [.string ⟨#[]⟩, .string ⟨#[]⟩, .int .i64 0, .string ⟨#[]⟩, .int .i64 0]
      have hSQ : S3 < w5.heap.size := hS.lt
      replace hX := hX.alloc (.cells #[.string ⟨#[]⟩, .string ⟨#[]⟩, .int .i64 0, .string ⟨#[]⟩, .int .i64 0] 23)
      replace hS := hS.alloc (.cells #[.string ⟨#[]⟩, .string ⟨#[]⟩, .int .i64 0, .string ⟨#[]⟩, .int .i64 0] 23)
      generalize World.alloc w5 _ = V5 at hX hS hQ ⊢
      generalize w5.heap.size = Q at hQ hSQ ⊢
      have q0 := hQ.cell 0 _ rfl
      have q1 := hQ.cell 1 _ rfl
      have q2 := hQ.cell 2 _ rfl
      have q3 := hQ.cell 3 _ rfl
      have q4 := hQ.cell 4 _ rfl
      have qf := hQ.fz
      have s0 := hS.cell 0 _ rfl
      have s1 := hS.cell 1 _ rfl
      have s2 := hS.cell 2 _ rfl
      have s3 := hS.cell 3 _ rfl
      have s4 := hS.cell 4 _ rfl
      have sf := hS.fz
      have hne := hX.ne
      have hX6 : Bx w (((((V5.setCell ⟨S3, 0, none⟩ (.string ⟨#[]⟩)).setCell ⟨S3, 1, none⟩ (.string ⟨#[]⟩)).setCell ⟨S3, 2, none⟩ (.int .i64 0)).setCell ⟨S3, 3, none⟩ (.string ⟨#[]⟩)).setCell ⟨S3, 4, none⟩ (.int .i64 0)) M [.string ⟨#[]⟩, .string ⟨#[]⟩, .int .i64 0, .string ⟨#[]⟩, .int .i64 0, .slice none 0 0, .string ⟨#[]⟩] := (((((hX.other S3 0 _ (by omega) (by omega)).other S3 1 _ (by omega) (by omega)).other S3 2 _ (by omega) (by omega)).other S3 3 _ (by omega) (by omega)).other S3 4 _ (by omega) (by omega))
      have hS6 : Blk (((((V5.setCell ⟨S3, 0, none⟩ (.string ⟨#[]⟩)).setCell ⟨S3, 1, none⟩ (.string ⟨#[]⟩)).setCell ⟨S3, 2, none⟩ (.int .i64 0)).setCell ⟨S3, 3, none⟩ (.string ⟨#[]⟩)).setCell ⟨S3, 4, none⟩ (.int .i64 0)) S3 23 [.string ⟨#[]⟩, .string ⟨#[]⟩, .int .i64 0, .string ⟨#[]⟩, .int .i64 0] := (((((hS.set 0 (show 0 < 5 by decide) _).set 1 (show 1 < 5 by decide) _).set 2 (show 2 < 5 by decide) _).set 3 (show 3 < 5 by decide) _).set 4 (show 4 < 5 by decide) _)
      go_upto_region 8 with fail
      generalize World.setCell _ _ _ = V6 at hX6 hS6 ⊢
      clear q0 q1 q2 q3 q4 qf s0 s1 s2 s3 s4 sf hQ hSQ hX hS hne
      have hX := hX6
      have hS := hS6
      clear hX6 hS6
      have s0 := hS.cell 0 _ rfl
      have s1 := hS.cell 1 _ rfl
      have s2 := hS.cell 2 _ rfl
      have s3 := hS.cell 3 _ rfl
      have s4 := hS.cell 4 _ rfl
      have sf := hS.fz
      have m0 := hX.m.cell 0 _ rfl
      have m1 := hX.m.cell 1 _ rfl
      have m2 := hX.m.cell 2 _ rfl
      have m3 := hX.m.cell 3 _ rfl
      have m4 := hX.m.cell 4 _ rfl
      have m5 := hX.m.cell 5 _ rfl
      have m6 := hX.m.cell 6 _ rfl
      have mf := hX.m.fz
      have hX8 : Bx w (((((V6.setCell ⟨M, 0, none⟩ (.string ⟨#[]⟩)).setCell ⟨M, 1, none⟩ (.string ⟨#[]⟩)).setCell ⟨M, 2, none⟩ (.int .i64 0)).setCell ⟨M, 3, none⟩ (.string ⟨#[]⟩)).setCell ⟨M, 4, none⟩ (.int .i64 0)) M [.string ⟨#[]⟩, .string ⟨#[]⟩, .int .i64 0, .string ⟨#[]⟩, .int .i64 0, .slice none 0 0, .string ⟨#[]⟩] := (((((hX.set 0 (show 0 < 7 by decide) _).set 1 (show 1 < 7 by decide) _).set 2 (show 2 < 7 by decide) _).set 3 (show 3 < 7 by decide) _).set 4 (show 4 < 7 by decide) _)
      go_upto_region 9 with fail
      generalize World.setCell _ _ _ = V8 at hX8 ⊢
      clear s0 s1 s2 s3 s4 sf hS hMS m0 m1 m2 m3 m4 m5 m6 mf hX
      have hX := hX8
      clear hX8
      have m0 := hX.m.cell 0 _ rfl
      have m1 := hX.m.cell 1 _ rfl
      have m2 := hX.m.cell 2 _ rfl
      have m3 := hX.m.cell 3 _ rfl
      have m4 := hX.m.cell 4 _ rfl
      have m5 := hX.m.cell 5 _ rfl
      have m6 := hX.m.cell 6 _ rfl
      have mf := hX.m.fz
      have r0 := hX.r.cell 0 _ rfl
      have r1 := hX.r.cell 1 _ rfl
      have r2 := hX.r.cell 2 _ rfl
      have r3 := hX.r.cell 3 _ rfl
      have r4 := hX.r.cell 4 _ rfl
      have r5 := hX.r.cell 5 _ rfl
      have r6 := hX.r.cell 6 _ rfl
      have rf := hX.r.fz
      have t0 := hX.t.cell 0 _ rfl
      have t1 := hX.t.cell 1 _ rfl
      have tf := hX.t.fz
      go_wp2_with fail
      change bodyPost _ _ _ _ _ (putM V8 w.heap.size ⟨⟨⟨#[]⟩, ⟨#[]⟩, 0, ⟨#[]⟩, 0⟩, [], []⟩ (.slice none 0 0) 0 0)
      obtain ⟨x1, x2⟩ := putM_is hX.r hX.t ⟨⟨⟨#[]⟩, ⟨#[]⟩, 0, ⟨#[]⟩, 0⟩, [], []⟩ (.slice none 0 0) 0 0
      have x3 := putM_below hX.b (Nat.le_refl _) hX.b.size ⟨⟨⟨#[]⟩, ⟨#[]⟩, 0, ⟨#[]⟩, 0⟩, [], []⟩ (.slice none 0 0) 0 0
      clear m0 m1 m2 m3 m4 m5 m6 mf r0 r1 r2 r3 r4 r5 r6 rf t0 t1 tf
      generalize putM _ _ _ _ _ _ = V9 at x1 x2 x3 ⊢
      have m0 := x1.cell 0 _ rfl
      have m1 := x1.cell 1 _ rfl
      have m2 := x1.cell 2 _ rfl
      have m3 := x1.cell 3 _ rfl
      have m4 := x1.cell 4 _ rfl
      have m5 := x1.cell 5 _ rfl
      have m6 := x1.cell 6 _ rfl
      have t0 := x2.cell 0 _ rfl
      have t1 := x2.cell 1 _ rfl
      rw [show Ck.bs [] = (⟨#[]⟩ : ByteArray) from rfl] at m6
      refine bodyPost_ret (v := .tuple #[.agg #[.string ⟨#[]⟩, .string ⟨#[]⟩, .int .i64 0, .string ⟨#[]⟩, .int .i64 0, .slice none 0 0, .string ⟨#[]⟩], .agg #[.int .i64 0, .int .i64 0], .int .i64 30]) (by simp [results, Tryz.results38, go_sem, m0, m1, m2, m3, m4, m5, m6, t0, t1]) rfl ⟨bp_bad ⟨⟨⟨#[]⟩, ⟨#[]⟩, 0, ⟨#[]⟩, 0⟩, [], []⟩ none 0 0 HV (by decide), x3⟩
    · obtain ⟨e1, e2⟩ := Sr.gv_yes h1
      rw [e1, e2] at hsa
      unfold St.v at hsa
      by_cases hE : E = 0
      · have hrq := fun v W hr => refanswer_any G L t v W hsh hr (by have := HA.out.2.1; omega) (fun f hf => by have := HA.out.2.2.2 f hf; omega)
        unfold lgF at hHP
        simp only [Bool.false_eq_true, if_false] at hHP
        generalize ansF G L t = A at hHP hrq
        obtain ⟨A1, A2, A3⟩ := A
        have HV : Hid (H = ⟨A3, G, L, A1, A2⟩) := by unfold Hid; rw [hHP, if_neg (by rw [h1]; decide), if_neg (by simpa using hE)]
        subst hE
        unfold anV St.v at hrq
        simp only at hrq
        clear e1 e2 h1 hHP HA hsh
        go_enter Tryz.func38, Tryz.ntmps38
        go_upto_region 1 with fail
        generalize World.alloc (World.alloc _ _) _ = V0 at hM hT hB ⊢
        go_wp2_with fail
        refine (hln _).mono ?_
        rintro en w1 ⟨rfl, hb1⟩
        replace hB := hB.trans (hb1.mono hB.size)
        replace hM := hM.below hb1
        replace hT := hT.below hb1
        have hTl := hT.lt
        clear hb1 hln
        go_upto_region 3 with fail
        have hX : Bx w (w1.alloc (.cells #[.string ⟨#[]⟩, .string ⟨#[]⟩, .int .i64 0, .string ⟨#[]⟩, .int .i64 0, .slice none 0 0, .string ⟨#[]⟩] 26)) w1.heap.size [.string ⟨#[]⟩, .string ⟨#[]⟩, .int .i64 0, .string ⟨#[]⟩, .int .i64 0, .slice none 0 0, .string ⟨#[]⟩] := ⟨hB.alloc hB.size _, hM.alloc _, hT.alloc _, Blk.new w1 26 [.string ⟨#[]⟩, .string ⟨#[]⟩, .int .i64 0, .string ⟨#[]⟩, .int .i64 0, .slice none 0 0, .string ⟨#[]⟩], hTl⟩
        clear hM hT hB hTl
        generalize World.alloc w1 _ = V1 at hX ⊢
        generalize w1.heap.size = M at hX ⊢
        go_wp2_with fail
        refine (hpa _).mono ?_
        rintro en w3 ⟨rfl, hb3⟩
        replace hX := hX.below hb3
        clear hb3 hpa
        go_upto_region 4 with fail
        have hS : Blk (w3.alloc (.cells #[.string G0.m, .string G0.t, .int .i64 G0.c, .string G0.r, .int .i64 G0.n] 23)) w3.heap.size 23 [.string G0.m, .string G0.t, .int .i64 G0.c, .string G0.r, .int .i64 G0.n] := Blk.new w3 23 [.string G0.m, .string G0.t, .int .i64 G0.c, .string G0.r, .int .i64 G0.n]
        have hMS : M < w3.heap.size := hX.m.lt
        replace hX := hX.alloc (.cells #[.string G0.m, .string G0.t, .int .i64 G0.c, .string G0.r, .int .i64 G0.n] 23)
        generalize World.alloc w3 _ = V3 at hX hS ⊢
        generalize w3.heap.size = S3 at hS hMS ⊢
        have s0 := hS.cell 0 _ rfl
        have s1 := hS.cell 1 _ rfl
        have s2 := hS.cell 2 _ rfl
        have s3 := hS.cell 3 _ rfl
        have s4 := hS.cell 4 _ rfl
        have sf := hS.fz
        have m0 := hX.m.cell 0 _ rfl
        have m1 := hX.m.cell 1 _ rfl
        have m2 := hX.m.cell 2 _ rfl
        have m3 := hX.m.cell 3 _ rfl
        have m4 := hX.m.cell 4 _ rfl
        have m5 := hX.m.cell 5 _ rfl
        have m6 := hX.m.cell 6 _ rfl
        have mf := hX.m.fz
        go_wp2_with fail
        refine (hsa _).mono ?_
        rintro en w5 ⟨rfl, hb5⟩
        replace hX := hX.below hb5
        replace hS := hS.below hb5
        clear s0 s1 s2 s3 s4 sf m0 m1 m2 m3 m4 m5 m6 mf hb5 hsa
        go_upto_region 6 with fail
        have hQ : Blk (w5.alloc (.cells #[.string G.m, .string G.t, .int .i64 G.c, .string G.r, .int .i64 G.n] 23)) w5.heap.size 23 [.string G.m, .string G.t, .int .i64 G.c, .string G.r, .int .i64 G.n] := Blk.new w5 23 [.string G.m, .string G.t, .int .i64 G.c, .string G.r, .int .i64 G.n]
        have hSQ : S3 < w5.heap.size := hS.lt
        replace hX := hX.alloc (.cells #[.string G.m, .string G.t, .int .i64 G.c, .string G.r, .int .i64 G.n] 23)
        replace hS := hS.alloc (.cells #[.string G.m, .string G.t, .int .i64 G.c, .string G.r, .int .i64 G.n] 23)
        generalize World.alloc w5 _ = V5 at hX hS hQ ⊢
        generalize w5.heap.size = Q at hQ hSQ ⊢
        have q0 := hQ.cell 0 _ rfl
        have q1 := hQ.cell 1 _ rfl
        have q2 := hQ.cell 2 _ rfl
        have q3 := hQ.cell 3 _ rfl
        have q4 := hQ.cell 4 _ rfl
        have qf := hQ.fz
        have s0 := hS.cell 0 _ rfl
        have s1 := hS.cell 1 _ rfl
        have s2 := hS.cell 2 _ rfl
        have s3 := hS.cell 3 _ rfl
        have s4 := hS.cell 4 _ rfl
        have sf := hS.fz
        have hne := hX.ne
        have hX6 : Bx w (((((V5.setCell ⟨S3, 0, none⟩ (.string G.m)).setCell ⟨S3, 1, none⟩ (.string G.t)).setCell ⟨S3, 2, none⟩ (.int .i64 G.c)).setCell ⟨S3, 3, none⟩ (.string G.r)).setCell ⟨S3, 4, none⟩ (.int .i64 G.n)) M [.string ⟨#[]⟩, .string ⟨#[]⟩, .int .i64 0, .string ⟨#[]⟩, .int .i64 0, .slice none 0 0, .string ⟨#[]⟩] := (((((hX.other S3 0 _ (by omega) (by omega)).other S3 1 _ (by omega) (by omega)).other S3 2 _ (by omega) (by omega)).other S3 3 _ (by omega) (by omega)).other S3 4 _ (by omega) (by omega))
        have hS6 : Blk (((((V5.setCell ⟨S3, 0, none⟩ (.string G.m)).setCell ⟨S3, 1, none⟩ (.string G.t)).setCell ⟨S3, 2, none⟩ (.int .i64 G.c)).setCell ⟨S3, 3, none⟩ (.string G.r)).setCell ⟨S3, 4, none⟩ (.int .i64 G.n)) S3 23 [.string G.m, .string G.t, .int .i64 G.c, .string G.r, .int .i64 G.n] := (((((hS.set 0 (show 0 < 5 by decide) _).set 1 (show 1 < 5 by decide) _).set 2 (show 2 < 5 by decide) _).set 3 (show 3 < 5 by decide) _).set 4 (show 4 < 5 by decide) _)
        go_upto_region 8 with fail
        generalize World.setCell _ _ _ = V6 at hX6 hS6 ⊢
        clear q0 q1 q2 q3 q4 qf s0 s1 s2 s3 s4 sf hQ hSQ hX hS hne
        have hX := hX6
        have hS := hS6
        clear hX6 hS6
        have s0 := hS.cell 0 _ rfl
        have s1 := hS.cell 1 _ rfl
        have s2 := hS.cell 2 _ rfl
        have s3 := hS.cell 3 _ rfl
        have s4 := hS.cell 4 _ rfl
        have sf := hS.fz
        have m0 := hX.m.cell 0 _ rfl
        have m1 := hX.m.cell 1 _ rfl
        have m2 := hX.m.cell 2 _ rfl
        have m3 := hX.m.cell 3 _ rfl
        have m4 := hX.m.cell 4 _ rfl
        have m5 := hX.m.cell 5 _ rfl
        have m6 := hX.m.cell 6 _ rfl
        have mf := hX.m.fz
        have hX8 : Bx w (((((V6.setCell ⟨M, 0, none⟩ (.string G.m)).setCell ⟨M, 1, none⟩ (.string G.t)).setCell ⟨M, 2, none⟩ (.int .i64 G.c)).setCell ⟨M, 3, none⟩ (.string G.r)).setCell ⟨M, 4, none⟩ (.int .i64 G.n)) M [.string G.m, .string G.t, .int .i64 G.c, .string G.r, .int .i64 G.n, .slice none 0 0, .string ⟨#[]⟩] := (((((hX.set 0 (show 0 < 7 by decide) _).set 1 (show 1 < 7 by decide) _).set 2 (show 2 < 7 by decide) _).set 3 (show 3 < 7 by decide) _).set 4 (show 4 < 7 by decide) _)
        go_upto_region 9 with fail
        generalize World.setCell _ _ _ = V8 at hX8 ⊢
        clear s0 s1 s2 s3 s4 sf hS hMS m0 m1 m2 m3 m4 m5 m6 mf hX
        have hX := hX8
        clear hX8
        have m0 := hX.m.cell 0 _ rfl
        have m1 := hX.m.cell 1 _ rfl
        have m2 := hX.m.cell 2 _ rfl
        have m3 := hX.m.cell 3 _ rfl
        have m4 := hX.m.cell 4 _ rfl
        have m5 := hX.m.cell 5 _ rfl
        have m6 := hX.m.cell 6 _ rfl
        have mf := hX.m.fz
        have r0 := hX.r.cell 0 _ rfl
        have r1 := hX.r.cell 1 _ rfl
        have r2 := hX.r.cell 2 _ rfl
        have r3 := hX.r.cell 3 _ rfl
        have r4 := hX.r.cell 4 _ rfl
        have r5 := hX.r.cell 5 _ rfl
        have r6 := hX.r.cell 6 _ rfl
        have rf := hX.r.fz
        have t0 := hX.t.cell 0 _ rfl
        have t1 := hX.t.cell 1 _ rfl
        have tf := hX.t.fz
        go_wp2_with fail
        refine (hfp _).mono ?_
        rintro en w5 ⟨v5, rfl, ho5, hb5⟩
        obtain ⟨va, vc, rfl⟩ := ho5.row.slice
        replace hX := hX.below hb5
        have hF := FR.own ho5
        clear ho5 hb5 hfp
        clear m0 m1 m2 m3 m4 m5 m6 mf r0 r1 r2 r3 r4 r5 r6 rf t0 t1 tf
        have m0 := hX.m.cell 0 _ rfl
        have m1 := hX.m.cell 1 _ rfl
        have m2 := hX.m.cell 2 _ rfl
        have m3 := hX.m.cell 3 _ rfl
        have m4 := hX.m.cell 4 _ rfl
        have m5 := hX.m.cell 5 _ rfl
        have m6 := hX.m.cell 6 _ rfl
        have mf := hX.m.fz
        have hX12 : Bx w (w5.setCell ⟨M, 5, none⟩ (.slice va L.length vc)) M [.string G.m, .string G.t, .int .i64 G.c, .string G.r, .int .i64 G.n, .slice va L.length vc, .string ⟨#[]⟩] := hX.set 5 (show 5 < 7 by decide) _
        replace hF := hF.keep (Kf.only (only_set (only_refl w5 M) 5 (.slice va L.length vc)) (by rw [hX.m.ty]; decide))
        go_upto_region 13 with fail
        generalize World.setCell _ _ _ = V8 at hX12 hF ⊢
        clear m0 m1 m2 m3 m4 m5 m6 mf hX
        have hX := hX12
        clear hX12
        have m0 := hX.m.cell 0 _ rfl
        have m1 := hX.m.cell 1 _ rfl
        have m2 := hX.m.cell 2 _ rfl
        have m3 := hX.m.cell 3 _ rfl
        have m4 := hX.m.cell 4 _ rfl
        have m5 := hX.m.cell 5 _ rfl
        have m6 := hX.m.cell 6 _ rfl
        have mf := hX.m.fz
        have r0 := hX.r.cell 0 _ rfl
        have r1 := hX.r.cell 1 _ rfl
        have r2 := hX.r.cell 2 _ rfl
        have r3 := hX.r.cell 3 _ rfl
        have r4 := hX.r.cell 4 _ rfl
        have r5 := hX.r.cell 5 _ rfl
        have r6 := hX.r.cell 6 _ rfl
        have rf := hX.r.fz
        have t0 := hX.t.cell 0 _ rfl
        have t1 := hX.t.cell 1 _ rfl
        have tf := hX.t.fz
        go_wp2_with fail
        refine (hrq _ _ hF.row).mono ?_
        rintro en w6 ⟨rfl, hb6⟩
        replace hX := hX.below hb6
        replace hF := hF.below hb6
        clear m0 m1 m2 m3 m4 m5 m6 mf r0 r1 r2 r3 r4 r5 r6 rf t0 t1 tf
        clear hb6
        go_upto_region 19 with fail
        have hP := Blk.new w6 28 [.int .i64 A1, .int .i64 A2]
        change Blk (w6.alloc (.cells #[.int .i64 A1, .int .i64 A2] 28)) _ _ _ at hP
        have hPne1 : M < w6.heap.size := hX.m.lt
        replace hX := hX.alloc (.cells #[.int .i64 A1, .int .i64 A2] 28)
        replace hF := hF.below ((Below.refl _ w6).alloc (Nat.le_refl _) (.cells #[.int .i64 A1, .int .i64 A2] 28))
        generalize World.alloc w6 _ = W7 at hX hF hP ⊢
        generalize w6.heap.size = PP at hP hPne1 ⊢
        have hne := hX.ne
        refine wp_region_held_drew (S := (fun w' => Blk w' M 26 [.string G.m, .string G.t, .int .i64 G.c, .string G.r, .int .i64 G.n, .slice va L.length vc, .string ⟨#[]⟩] ∧ Blk w' PP 28 [.int .i64 A1, .int .i64 A2])) (by kernel_rfl) (⟨hX.m.drew, hP.drew⟩) (fun hHeld => ?_)
        refine wpAnyH_take (i := 0) (oi := _) (v := .agg #[.string G.m, .string G.t, .int .i64 G.c, .string G.r, .int .i64 G.n, .slice va L.length vc, .string ⟨#[]⟩]) rfl (by kernel_rfl) (by kernel_rfl) (by kernel_rfl) (fun _ _ _ h => h) (yieldsIf_load_mid (by kernel_rfl) 26 (.tmp 11) rfl M 0 rfl _ _ (fun _ hS => Blk.range (hS.1) 0 7) Tryz.underlying26 rfl (by kernel_rfl)) (by first | trivial | assumption) ?_
        simp only [Act.put, List.getElem_toArray, List.getElem_cons_zero, List.getElem_cons_succ, List.setIfInBounds_toArray, List.set_cons_zero, List.set_cons_succ]
        refine wpAnyH_take (i := 1) (oi := _) (v := .agg #[.int .i64 A1, .int .i64 A2]) rfl (by kernel_rfl) (by kernel_rfl) (by kernel_rfl) (fun _ _ _ h => h) (yieldsIf_load_mid (by kernel_rfl) 28 (.tmp 20) rfl PP 0 rfl _ _ (fun _ hS => Blk.range (hS.2) 0 2) Tryz.underlying28 rfl (by kernel_rfl)) (by first | trivial | assumption) ?_
        simp only [Act.put, List.getElem_toArray, List.getElem_cons_zero, List.getElem_cons_succ, List.setIfInBounds_toArray, List.set_cons_zero, List.set_cons_succ]
        refine wpAnyH_take (i := 2) (oi := _) (v := .int .i64 A3) rfl (by kernel_rfl) (by kernel_rfl) (by kernel_rfl) (fun _ _ _ h => h) (Or.inl ⟨by rfl, fun wS hSw => by go_simp⟩) (by first | trivial | assumption) ?_
        simp only [Act.put, List.getElem_toArray, List.getElem_cons_zero, List.getElem_cons_succ, List.setIfInBounds_toArray, List.set_cons_zero, List.set_cons_succ]
        have hX1 := only_sets [.string G.m, .string G.t, .int .i64 G.c, .string G.r, .int .i64 G.n, .slice va L.length vc, .string ⟨#[]⟩] 0 (only_refl W7.drew w.heap.size)
        have hQ1 : Blk (W7.drew.setCells w.heap.size 0 [.string G.m, .string G.t, .int .i64 G.c, .string G.r, .int .i64 G.n, .slice va L.length vc, .string ⟨#[]⟩]) M 26 [.string G.m, .string G.t, .int .i64 G.c, .string G.r, .int .i64 G.n, .slice va L.length vc, .string ⟨#[]⟩] := hX.m.drew.keep (hX1.block M hX.m.lt (fun e => absurd (Option.some.inj e) (by omega)))
        have hP1 : Blk (W7.drew.setCells w.heap.size 0 [.string G.m, .string G.t, .int .i64 G.c, .string G.r, .int .i64 G.n, .slice va L.length vc, .string ⟨#[]⟩]) PP 28 [.int .i64 A1, .int .i64 A2] := hP.drew.keep (hX1.block PP hP.lt (fun e => absurd (Option.some.inj e) (by omega)))
        have hT1 : Blk (W7.drew.setCells w.heap.size 0 [.string G.m, .string G.t, .int .i64 G.c, .string G.r, .int .i64 G.n, .slice va L.length vc, .string ⟨#[]⟩]) (w.heap.size + 1) 28 [.int .i64 0, .int .i64 0] := hX.t.drew.keep (hX1.block _ hX.t.lt (by simp))
        have hM1 : Blk (W7.drew.setCells w.heap.size 0 [.string G.m, .string G.t, .int .i64 G.c, .string G.r, .int .i64 G.n, .slice va L.length vc, .string ⟨#[]⟩]) w.heap.size 26 [.string G.m, .string G.t, .int .i64 G.c, .string G.r, .int .i64 G.n, .slice va L.length vc, .string ⟨#[]⟩] := hX.r.drew.sets [.string G.m, .string G.t, .int .i64 G.c, .string G.r, .int .i64 G.n, .slice va L.length vc, .string ⟨#[]⟩] 0 (show 0 + 7 ≤ 7 by decide)
        have hB1 : Below w.heap.size w (W7.drew.setCells w.heap.size 0 [.string G.m, .string G.t, .int .i64 G.c, .string G.r, .int .i64 G.n, .slice va L.length vc, .string ⟨#[]⟩]) := hX.b.drew.trans (below_only hX1 (Nat.le_refl _) hX.b.size)
        have hF1 : FR (W7.drew.setCells w.heap.size 0 [.string G.m, .string G.t, .int .i64 G.c, .string G.r, .int .i64 G.n, .slice va L.length vc, .string ⟨#[]⟩]) (.slice va L.length vc) L := (hF.below ((Below.refl _ W7).drew)).keep (Kf.only hX1 (by rw [hX.r.drew.ty]; decide))
        have hMth := hX.r.drew.there 0 7 (show 0 + 7 ≤ 7 by decide)
        refine wpAnyH_ready (rs := [3]) (by kernel_rfl) (by simp) ?_
        refine AllReadyH.cons (o := _) rfl (fun K hK => ?_) AllReadyH.nil
        rw [if_pos (by kernel_rfl)]
        refine wp_store_mid 26 (.tmp 6) (.tmp 80) rfl _ _ _ rfl rfl (hMth) (by kernel_rfl) (by simp [Value.oneCell']) ?_
        simp only [Act.put, List.getElem_toArray, List.getElem_cons_zero, List.getElem_cons_succ, List.setIfInBounds_toArray, List.set_cons_zero, List.set_cons_succ]
        refine hK.out _ _ (⟨hQ1, hP1⟩) (fun hHeld => ?_)
        clear hK K
        clear hX1 hMth
        generalize World.setCells _ _ _ _ = W8 at hHeld hQ1 hP1 hT1 hM1 hB1 hF1 ⊢
        have hX2 := only_sets [.int .i64 A1, .int .i64 A2] 0 (only_refl W8 (w.heap.size + 1))
        have hQ2 := hQ1.keep (hX2.block M hQ1.lt (fun e => absurd (Option.some.inj e) (by omega)))
        have hP2 := hP1.keep (hX2.block PP hP1.lt (fun e => absurd (Option.some.inj e) (by omega)))
        have hT2 := hT1.sets [.int .i64 A1, .int .i64 A2] 0 (show 0 + 2 ≤ 2 by decide)
        have hM2 := hM1.keep (hX2.block _ hM1.lt (by simp))
        have hB2 := hB1.trans (below_only hX2 (Nat.le_succ _) hB1.size)
        have hF2 := hF1.keep (Kf.only hX2 (by rw [hT1.ty]; decide))
        have hTth := hT1.there 0 2 (show 0 + 2 ≤ 2 by decide)
        refine wpAnyH_ready (rs := [4]) (by kernel_rfl) (by simp) ?_
        refine AllReadyH.cons (o := _) rfl (fun K hK => ?_) AllReadyH.nil
        rw [if_pos (by kernel_rfl)]
        refine wp_store_mid 28 (.tmp 7) (.tmp 81) rfl _ _ _ rfl rfl (hTth) (by kernel_rfl) (by simp [Value.oneCell']) ?_
        simp only [Act.put, List.getElem_toArray, List.getElem_cons_zero, List.getElem_cons_succ, List.setIfInBounds_toArray, List.set_cons_zero, List.set_cons_succ]
        refine hK.out _ _ (⟨hQ2, hP2⟩) (fun hHeld => ?_)
        clear hK K
        clear hX2 hTth
        generalize World.setCells _ _ _ _ = W9 at hHeld hQ2 hP2 hT2 hM2 hB2 hF2 ⊢
        refine wpAnyH_take (i := 5) (oi := _) (v := .int .i64 A3) rfl (by kernel_rfl) (by kernel_rfl) (by kernel_rfl) (fun _ _ _ h => h) (Or.inl ⟨by rfl, fun wS hSw => by go_simp⟩) (by first | trivial | assumption) ?_
        simp only [Act.put, List.getElem_toArray, List.getElem_cons_zero, List.getElem_cons_succ, List.setIfInBounds_toArray, List.set_cons_zero, List.set_cons_succ]
        refine wpAnyH_done (by kernel_rfl) ?_ _
        have m0 := hM2.cell 0 _ rfl
        have m1 := hM2.cell 1 _ rfl
        have m2 := hM2.cell 2 _ rfl
        have m3 := hM2.cell 3 _ rfl
        have m4 := hM2.cell 4 _ rfl
        have m5 := hM2.cell 5 _ rfl
        have m6 := hM2.cell 6 _ rfl
        have t0 : W9.cell? ⟨w.heap.size + 1, 0, none⟩ = some (.int .i64 A1) := hT2.cell 0 _ rfl
        have t1 : W9.cell? ⟨w.heap.size + 1, 1, none⟩ = some (.int .i64 A2) := hT2.cell 1 _ rfl
        have HF2 := hide (And.intro hF2 hB2)
        clear hF2 hB2 hQ2 hP2 hM2 hT2 hHeld hX hF hP
        go_wp2_with fail
        refine bodyPost_ret (v := .tuple #[.agg #[.string G.m, .string G.t, .int .i64 G.c, .string G.r, .int .i64 G.n, .slice va L.length vc, .string ⟨#[]⟩], .agg #[.int .i64 A1, .int .i64 A2], .int .i64 A3]) (by simp [results, Tryz.results38, go_sem, m0, m1, m2, m3, m4, m5, m6, t0, t1]) rfl ⟨⟨⟨G, L, []⟩, va, L.length, vc, A1, A2, by rw [HV.out]; rfl, fun _ => ⟨by rw [HV.out], by rw [HV.out], by rw [HV.out], HF2.out.1⟩⟩, HF2.out.2⟩
      · have HV : Hid (H.e = E) := by unfold Hid; rw [hHP, if_neg (by rw [h1]; decide), if_pos hE]
        have hEb : (E != 0) = true := by simpa using hE
        clear e1 e2 h1 hHP HA hsh
        go_enter Tryz.func38, Tryz.ntmps38
        go_upto_region 1 with fail
        generalize World.alloc (World.alloc _ _) _ = V0 at hM hT hB ⊢
        go_wp2_with fail
        refine (hln _).mono ?_
        rintro en w1 ⟨rfl, hb1⟩
        replace hB := hB.trans (hb1.mono hB.size)
        replace hM := hM.below hb1
        replace hT := hT.below hb1
        have hTl := hT.lt
        clear hb1 hln
        go_upto_region 3 with fail
        have hX : Bx w (w1.alloc (.cells #[.string ⟨#[]⟩, .string ⟨#[]⟩, .int .i64 0, .string ⟨#[]⟩, .int .i64 0, .slice none 0 0, .string ⟨#[]⟩] 26)) w1.heap.size [.string ⟨#[]⟩, .string ⟨#[]⟩, .int .i64 0, .string ⟨#[]⟩, .int .i64 0, .slice none 0 0, .string ⟨#[]⟩] := ⟨hB.alloc hB.size _, hM.alloc _, hT.alloc _, Blk.new w1 26 [.string ⟨#[]⟩, .string ⟨#[]⟩, .int .i64 0, .string ⟨#[]⟩, .int .i64 0, .slice none 0 0, .string ⟨#[]⟩], hTl⟩
        clear hM hT hB hTl
        generalize World.alloc w1 _ = V1 at hX ⊢
        generalize w1.heap.size = M at hX ⊢
        go_wp2_with fail
        refine (hpa _).mono ?_
        rintro en w3 ⟨rfl, hb3⟩
        replace hX := hX.below hb3
        clear hb3 hpa
        go_upto_region 4 with fail
        have hS : Blk (w3.alloc (.cells #[.string G0.m, .string G0.t, .int .i64 G0.c, .string G0.r, .int .i64 G0.n] 23)) w3.heap.size 23 [.string G0.m, .string G0.t, .int .i64 G0.c, .string G0.r, .int .i64 G0.n] := Blk.new w3 23 [.string G0.m, .string G0.t, .int .i64 G0.c, .string G0.r, .int .i64 G0.n]
        have hMS : M < w3.heap.size := hX.m.lt
        replace hX := hX.alloc (.cells #[.string G0.m, .string G0.t, .int .i64 G0.c, .string G0.r, .int .i64 G0.n] 23)
        generalize World.alloc w3 _ = V3 at hX hS ⊢
        generalize w3.heap.size = S3 at hS hMS ⊢
        have s0 := hS.cell 0 _ rfl
        have s1 := hS.cell 1 _ rfl
        have s2 := hS.cell 2 _ rfl
        have s3 := hS.cell 3 _ rfl
        have s4 := hS.cell 4 _ rfl
        have sf := hS.fz
        have m0 := hX.m.cell 0 _ rfl
        have m1 := hX.m.cell 1 _ rfl
        have m2 := hX.m.cell 2 _ rfl
        have m3 := hX.m.cell 3 _ rfl
        have m4 := hX.m.cell 4 _ rfl
        have m5 := hX.m.cell 5 _ rfl
        have m6 := hX.m.cell 6 _ rfl
        have mf := hX.m.fz
        go_wp2_with fail
        refine (hsa _).mono ?_
        rintro en w5 ⟨rfl, hb5⟩
        replace hX := hX.below hb5
        replace hS := hS.below hb5
        clear s0 s1 s2 s3 s4 sf m0 m1 m2 m3 m4 m5 m6 mf hb5 hsa
        go_upto_region 6 with fail
        have hQ : Blk (w5.alloc (.cells #[.string G.m, .string G.t, .int .i64 G.c, .string G.r, .int .i64 G.n] 23)) w5.heap.size 23 [.string G.m, .string G.t, .int .i64 G.c, .string G.r, .int .i64 G.n] := Blk.new w5 23 [.string G.m, .string G.t, .int .i64 G.c, .string G.r, .int .i64 G.n]
        have hSQ : S3 < w5.heap.size := hS.lt
        replace hX := hX.alloc (.cells #[.string G.m, .string G.t, .int .i64 G.c, .string G.r, .int .i64 G.n] 23)
        replace hS := hS.alloc (.cells #[.string G.m, .string G.t, .int .i64 G.c, .string G.r, .int .i64 G.n] 23)
        generalize World.alloc w5 _ = V5 at hX hS hQ ⊢
        generalize w5.heap.size = Q at hQ hSQ ⊢
        have q0 := hQ.cell 0 _ rfl
        have q1 := hQ.cell 1 _ rfl
        have q2 := hQ.cell 2 _ rfl
        have q3 := hQ.cell 3 _ rfl
        have q4 := hQ.cell 4 _ rfl
        have qf := hQ.fz
        have s0 := hS.cell 0 _ rfl
        have s1 := hS.cell 1 _ rfl
        have s2 := hS.cell 2 _ rfl
        have s3 := hS.cell 3 _ rfl
        have s4 := hS.cell 4 _ rfl
        have sf := hS.fz
        have hne := hX.ne
        have hX6 : Bx w (((((V5.setCell ⟨S3, 0, none⟩ (.string G.m)).setCell ⟨S3, 1, none⟩ (.string G.t)).setCell ⟨S3, 2, none⟩ (.int .i64 G.c)).setCell ⟨S3, 3, none⟩ (.string G.r)).setCell ⟨S3, 4, none⟩ (.int .i64 G.n)) M [.string ⟨#[]⟩, .string ⟨#[]⟩, .int .i64 0, .string ⟨#[]⟩, .int .i64 0, .slice none 0 0, .string ⟨#[]⟩] := (((((hX.other S3 0 _ (by omega) (by omega)).other S3 1 _ (by omega) (by omega)).other S3 2 _ (by omega) (by omega)).other S3 3 _ (by omega) (by omega)).other S3 4 _ (by omega) (by omega))
        have hS6 : Blk (((((V5.setCell ⟨S3, 0, none⟩ (.string G.m)).setCell ⟨S3, 1, none⟩ (.string G.t)).setCell ⟨S3, 2, none⟩ (.int .i64 G.c)).setCell ⟨S3, 3, none⟩ (.string G.r)).setCell ⟨S3, 4, none⟩ (.int .i64 G.n)) S3 23 [.string G.m, .string G.t, .int .i64 G.c, .string G.r, .int .i64 G.n] := (((((hS.set 0 (show 0 < 5 by decide) _).set 1 (show 1 < 5 by decide) _).set 2 (show 2 < 5 by decide) _).set 3 (show 3 < 5 by decide) _).set 4 (show 4 < 5 by decide) _)
        go_upto_region 8 with fail
        generalize World.setCell _ _ _ = V6 at hX6 hS6 ⊢
        clear q0 q1 q2 q3 q4 qf s0 s1 s2 s3 s4 sf hQ hSQ hX hS hne
        have hX := hX6
        have hS := hS6
        clear hX6 hS6
        have s0 := hS.cell 0 _ rfl
        have s1 := hS.cell 1 _ rfl
        have s2 := hS.cell 2 _ rfl
        have s3 := hS.cell 3 _ rfl
        have s4 := hS.cell 4 _ rfl
        have sf := hS.fz
        have m0 := hX.m.cell 0 _ rfl
        have m1 := hX.m.cell 1 _ rfl
        have m2 := hX.m.cell 2 _ rfl
        have m3 := hX.m.cell 3 _ rfl
        have m4 := hX.m.cell 4 _ rfl
        have m5 := hX.m.cell 5 _ rfl
        have m6 := hX.m.cell 6 _ rfl
        have mf := hX.m.fz
        have hX8 : Bx w (((((V6.setCell ⟨M, 0, none⟩ (.string G.m)).setCell ⟨M, 1, none⟩ (.string G.t)).setCell ⟨M, 2, none⟩ (.int .i64 G.c)).setCell ⟨M, 3, none⟩ (.string G.r)).setCell ⟨M, 4, none⟩ (.int .i64 G.n)) M [.string G.m, .string G.t, .int .i64 G.c, .string G.r, .int .i64 G.n, .slice none 0 0, .string ⟨#[]⟩] := (((((hX.set 0 (show 0 < 7 by decide) _).set 1 (show 1 < 7 by decide) _).set 2 (show 2 < 7 by decide) _).set 3 (show 3 < 7 by decide) _).set 4 (show 4 < 7 by decide) _)
        go_upto_region 9 with fail
        generalize World.setCell _ _ _ = V8 at hX8 ⊢
        clear s0 s1 s2 s3 s4 sf hS hMS m0 m1 m2 m3 m4 m5 m6 mf hX
        have hX := hX8
        clear hX8
        have m0 := hX.m.cell 0 _ rfl
        have m1 := hX.m.cell 1 _ rfl
        have m2 := hX.m.cell 2 _ rfl
        have m3 := hX.m.cell 3 _ rfl
        have m4 := hX.m.cell 4 _ rfl
        have m5 := hX.m.cell 5 _ rfl
        have m6 := hX.m.cell 6 _ rfl
        have mf := hX.m.fz
        have r0 := hX.r.cell 0 _ rfl
        have r1 := hX.r.cell 1 _ rfl
        have r2 := hX.r.cell 2 _ rfl
        have r3 := hX.r.cell 3 _ rfl
        have r4 := hX.r.cell 4 _ rfl
        have r5 := hX.r.cell 5 _ rfl
        have r6 := hX.r.cell 6 _ rfl
        have rf := hX.r.fz
        have t0 := hX.t.cell 0 _ rfl
        have t1 := hX.t.cell 1 _ rfl
        have tf := hX.t.fz
        go_wp2_with fail
        refine (hfp _).mono ?_
        rintro en w5 ⟨v5, rfl, ho5, hb5⟩
        obtain ⟨va, vc, rfl⟩ := ho5.row.slice
        replace hX := hX.below hb5
        have hF := FR.own ho5
        clear ho5 hb5 hfp
        clear m0 m1 m2 m3 m4 m5 m6 mf r0 r1 r2 r3 r4 r5 r6 rf t0 t1 tf
        have m0 := hX.m.cell 0 _ rfl
        have m1 := hX.m.cell 1 _ rfl
        have m2 := hX.m.cell 2 _ rfl
        have m3 := hX.m.cell 3 _ rfl
        have m4 := hX.m.cell 4 _ rfl
        have m5 := hX.m.cell 5 _ rfl
        have m6 := hX.m.cell 6 _ rfl
        have mf := hX.m.fz
        have hX12 : Bx w (w5.setCell ⟨M, 5, none⟩ (.slice va L.length vc)) M [.string G.m, .string G.t, .int .i64 G.c, .string G.r, .int .i64 G.n, .slice va L.length vc, .string ⟨#[]⟩] := hX.set 5 (show 5 < 7 by decide) _
        replace hF := hF.keep (Kf.only (only_set (only_refl w5 M) 5 (.slice va L.length vc)) (by rw [hX.m.ty]; decide))
        go_upto_region 13 with fail
        generalize World.setCell _ _ _ = V8 at hX12 hF ⊢
        clear m0 m1 m2 m3 m4 m5 m6 mf hX
        have hX := hX12
        clear hX12
        have m0 := hX.m.cell 0 _ rfl
        have m1 := hX.m.cell 1 _ rfl
        have m2 := hX.m.cell 2 _ rfl
        have m3 := hX.m.cell 3 _ rfl
        have m4 := hX.m.cell 4 _ rfl
        have m5 := hX.m.cell 5 _ rfl
        have m6 := hX.m.cell 6 _ rfl
        have mf := hX.m.fz
        have r0 := hX.r.cell 0 _ rfl
        have r1 := hX.r.cell 1 _ rfl
        have r2 := hX.r.cell 2 _ rfl
        have r3 := hX.r.cell 3 _ rfl
        have r4 := hX.r.cell 4 _ rfl
        have r5 := hX.r.cell 5 _ rfl
        have r6 := hX.r.cell 6 _ rfl
        have rf := hX.r.fz
        have t0 := hX.t.cell 0 _ rfl
        have t1 := hX.t.cell 1 _ rfl
        have tf := hX.t.fz
        go_wp2_with fail
        change bodyPost _ _ _ _ _ (putM V8 w.heap.size ⟨G, L, []⟩ (.slice va L.length vc) 0 0)
        obtain ⟨x1, x2⟩ := putM_is hX.r hX.t ⟨G, L, []⟩ (.slice va L.length vc) 0 0
        have x3 := putM_below hX.b (Nat.le_refl _) hX.b.size ⟨G, L, []⟩ (.slice va L.length vc) 0 0
        clear m0 m1 m2 m3 m4 m5 m6 mf r0 r1 r2 r3 r4 r5 r6 rf t0 t1 tf
        generalize putM _ _ _ _ _ _ = V9 at x1 x2 x3 ⊢
        have m0 := x1.cell 0 _ rfl
        have m1 := x1.cell 1 _ rfl
        have m2 := x1.cell 2 _ rfl
        have m3 := x1.cell 3 _ rfl
        have m4 := x1.cell 4 _ rfl
        have m5 := x1.cell 5 _ rfl
        have m6 := x1.cell 6 _ rfl
        have t0 := x2.cell 0 _ rfl
        have t1 := x2.cell 1 _ rfl
        rw [show Ck.bs [] = (⟨#[]⟩ : ByteArray) from rfl] at m6
        refine bodyPost_ret (v := .tuple #[.agg #[.string G.m, .string G.t, .int .i64 G.c, .string G.r, .int .i64 G.n, .slice va L.length vc, .string ⟨#[]⟩], .agg #[.int .i64 0, .int .i64 0], .int .i64 E]) (by simp [results, Tryz.results38, go_sem, m0, m1, m2, m3, m4, m5, m6, t0, t1]) rfl ⟨bp_bad ⟨G, L, []⟩ va L.length vc HV hE, x3⟩
  · simp only [if_true] at hfu
    rw [← hfu] at hpa
    generalize fiU true F = G at hHP hsh hpa hfu
    clear hsa hfu
    cases h1 : rtB G
    · obtain ⟨e1, e2⟩ := Sr.gv_no h1
      rw [e1, e2] at hpa
      unfold St.no noS St.v at hpa
      dsimp only at hpa
      have HV : Hid (H.e = 30) := by unfold Hid; rw [hHP, if_pos h1]
      clear e1 e2 h1 hHP hsh hfp HA
      go_enter Tryz.func38, Tryz.ntmps38
      go_upto_region 1 with fail
      generalize World.alloc (World.alloc _ _) _ = V0 at hM hT hB ⊢
      go_wp2_with fail
      refine (hln _).mono ?_
      rintro en w1 ⟨rfl, hb1⟩
      replace hB := hB.trans (hb1.mono hB.size)
      replace hM := hM.below hb1
      replace hT := hT.below hb1
      have hTl := hT.lt
      clear hb1 hln
      go_upto_region 3 with fail
      have hX : Bx w (w1.alloc (.cells #[.string ⟨#[]⟩, .string ⟨#[]⟩, .int .i64 0, .string ⟨#[]⟩, .int .i64 0, .slice none 0 0, .string ⟨#[]⟩] 26)) w1.heap.size [.string ⟨#[]⟩, .string ⟨#[]⟩, .int .i64 0, .string ⟨#[]⟩, .int .i64 0, .slice none 0 0, .string ⟨#[]⟩] := ⟨hB.alloc hB.size _, hM.alloc _, hT.alloc _, Blk.new w1 26 [.string ⟨#[]⟩, .string ⟨#[]⟩, .int .i64 0, .string ⟨#[]⟩, .int .i64 0, .slice none 0 0, .string ⟨#[]⟩], hTl⟩
      clear hM hT hB hTl
      generalize World.alloc w1 _ = V1 at hX ⊢
      generalize w1.heap.size = M at hX ⊢
      go_wp2_with fail
      refine (hpa _).mono ?_
      rintro en w3 ⟨rfl, hb3⟩
      replace hX := hX.below hb3
      clear hb3 hpa
      go_upto_region 4 with fail
      have hS : Blk (w3.alloc (.cells #[.string ⟨#[]⟩, .string ⟨#[]⟩, .int .i64 0, .string ⟨#[]⟩, .int .i64 0] 23)) w3.heap.size 23 [.string ⟨#[]⟩, .string ⟨#[]⟩, .int .i64 0, .string ⟨#[]⟩, .int .i64 0] := Blk.new w3 23 [.string ⟨#[]⟩, .string ⟨#[]⟩, .int .i64 0, .string ⟨#[]⟩, .int .i64 0]
      have hMS : M < w3.heap.size := hX.m.lt
      replace hX := hX.alloc (.cells #[.string ⟨#[]⟩, .string ⟨#[]⟩, .int .i64 0, .string ⟨#[]⟩, .int .i64 0] 23)
      generalize World.alloc w3 _ = V3 at hX hS ⊢
      generalize w3.heap.size = S3 at hS hMS ⊢
      have s0 := hS.cell 0 _ rfl
      have s1 := hS.cell 1 _ rfl
      have s2 := hS.cell 2 _ rfl
      have s3 := hS.cell 3 _ rfl
      have s4 := hS.cell 4 _ rfl
      have sf := hS.fz
      have m0 := hX.m.cell 0 _ rfl
      have m1 := hX.m.cell 1 _ rfl
      have m2 := hX.m.cell 2 _ rfl
      have m3 := hX.m.cell 3 _ rfl
      have m4 := hX.m.cell 4 _ rfl
      have m5 := hX.m.cell 5 _ rfl
      have m6 := hX.m.cell 6 _ rfl
      have mf := hX.m.fz
      have hX8 : Bx w (((((V3.setCell ⟨M, 0, none⟩ (.string ⟨#[]⟩)).setCell ⟨M, 1, none⟩ (.string ⟨#[]⟩)).setCell ⟨M, 2, none⟩ (.int .i64 0)).setCell ⟨M, 3, none⟩ (.string ⟨#[]⟩)).setCell ⟨M, 4, none⟩ (.int .i64 0)) M [.string ⟨#[]⟩, .string ⟨#[]⟩, .int .i64 0, .string ⟨#[]⟩, .int .i64 0, .slice none 0 0, .string ⟨#[]⟩] := (((((hX.set 0 (show 0 < 7 by decide) _).set 1 (show 1 < 7 by decide) _).set 2 (show 2 < 7 by decide) _).set 3 (show 3 < 7 by decide) _).set 4 (show 4 < 7 by decide) _)
      go_upto_region 9 with fail
      generalize World.setCell _ _ _ = V8 at hX8 ⊢
      clear s0 s1 s2 s3 s4 sf hS hMS m0 m1 m2 m3 m4 m5 m6 mf hX
      have hX := hX8
      clear hX8
      have m0 := hX.m.cell 0 _ rfl
      have m1 := hX.m.cell 1 _ rfl
      have m2 := hX.m.cell 2 _ rfl
      have m3 := hX.m.cell 3 _ rfl
      have m4 := hX.m.cell 4 _ rfl
      have m5 := hX.m.cell 5 _ rfl
      have m6 := hX.m.cell 6 _ rfl
      have mf := hX.m.fz
      have r0 := hX.r.cell 0 _ rfl
      have r1 := hX.r.cell 1 _ rfl
      have r2 := hX.r.cell 2 _ rfl
      have r3 := hX.r.cell 3 _ rfl
      have r4 := hX.r.cell 4 _ rfl
      have r5 := hX.r.cell 5 _ rfl
      have r6 := hX.r.cell 6 _ rfl
      have rf := hX.r.fz
      have t0 := hX.t.cell 0 _ rfl
      have t1 := hX.t.cell 1 _ rfl
      have tf := hX.t.fz
      go_wp2_with fail
      change bodyPost _ _ _ _ _ (putM V8 w.heap.size ⟨⟨⟨#[]⟩, ⟨#[]⟩, 0, ⟨#[]⟩, 0⟩, [], []⟩ (.slice none 0 0) 0 0)
      obtain ⟨x1, x2⟩ := putM_is hX.r hX.t ⟨⟨⟨#[]⟩, ⟨#[]⟩, 0, ⟨#[]⟩, 0⟩, [], []⟩ (.slice none 0 0) 0 0
      have x3 := putM_below hX.b (Nat.le_refl _) hX.b.size ⟨⟨⟨#[]⟩, ⟨#[]⟩, 0, ⟨#[]⟩, 0⟩, [], []⟩ (.slice none 0 0) 0 0
      clear m0 m1 m2 m3 m4 m5 m6 mf r0 r1 r2 r3 r4 r5 r6 rf t0 t1 tf
      generalize putM _ _ _ _ _ _ = V9 at x1 x2 x3 ⊢
      have m0 := x1.cell 0 _ rfl
      have m1 := x1.cell 1 _ rfl
      have m2 := x1.cell 2 _ rfl
      have m3 := x1.cell 3 _ rfl
      have m4 := x1.cell 4 _ rfl
      have m5 := x1.cell 5 _ rfl
      have m6 := x1.cell 6 _ rfl
      have t0 := x2.cell 0 _ rfl
      have t1 := x2.cell 1 _ rfl
      rw [show Ck.bs [] = (⟨#[]⟩ : ByteArray) from rfl] at m6
      refine bodyPost_ret (v := .tuple #[.agg #[.string ⟨#[]⟩, .string ⟨#[]⟩, .int .i64 0, .string ⟨#[]⟩, .int .i64 0, .slice none 0 0, .string ⟨#[]⟩], .agg #[.int .i64 0, .int .i64 0], .int .i64 30]) (by simp [results, Tryz.results38, go_sem, m0, m1, m2, m3, m4, m5, m6, t0, t1]) rfl ⟨bp_bad ⟨⟨⟨#[]⟩, ⟨#[]⟩, 0, ⟨#[]⟩, 0⟩, [], []⟩ none 0 0 HV (by decide), x3⟩
    · obtain ⟨e1, e2⟩ := Sr.gv_yes h1
      rw [e1, e2] at hpa
      unfold St.v at hpa
      by_cases hE : E = 0
      · have hrq := fun v W hr => refrequest_any G L v W hsh hr (by have := HA.out.2.1; omega) (fun f hf => by have := HA.out.2.2.2 f hf; omega)
        unfold lgF at hHP
        simp only [if_true] at hHP
        generalize reqF G L = A at hHP hrq
        obtain ⟨A1, A2, A3⟩ := A
        have HV : Hid (H = ⟨A3, G, L, A1, A2⟩) := by unfold Hid; rw [hHP, if_neg (by rw [h1]; decide), if_neg (by simpa using hE)]
        subst hE
        unfold anV St.v at hrq
        simp only at hrq
        clear e1 e2 h1 hHP HA hsh
        go_enter Tryz.func38, Tryz.ntmps38
        go_upto_region 1 with fail
        generalize World.alloc (World.alloc _ _) _ = V0 at hM hT hB ⊢
        go_wp2_with fail
        refine (hln _).mono ?_
        rintro en w1 ⟨rfl, hb1⟩
        replace hB := hB.trans (hb1.mono hB.size)
        replace hM := hM.below hb1
        replace hT := hT.below hb1
        have hTl := hT.lt
        clear hb1 hln
        go_upto_region 3 with fail
        have hX : Bx w (w1.alloc (.cells #[.string ⟨#[]⟩, .string ⟨#[]⟩, .int .i64 0, .string ⟨#[]⟩, .int .i64 0, .slice none 0 0, .string ⟨#[]⟩] 26)) w1.heap.size [.string ⟨#[]⟩, .string ⟨#[]⟩, .int .i64 0, .string ⟨#[]⟩, .int .i64 0, .slice none 0 0, .string ⟨#[]⟩] := ⟨hB.alloc hB.size _, hM.alloc _, hT.alloc _, Blk.new w1 26 [.string ⟨#[]⟩, .string ⟨#[]⟩, .int .i64 0, .string ⟨#[]⟩, .int .i64 0, .slice none 0 0, .string ⟨#[]⟩], hTl⟩
        clear hM hT hB hTl
        generalize World.alloc w1 _ = V1 at hX ⊢
        generalize w1.heap.size = M at hX ⊢
        go_wp2_with fail
        refine (hpa _).mono ?_
        rintro en w3 ⟨rfl, hb3⟩
        replace hX := hX.below hb3
        clear hb3 hpa
        go_upto_region 4 with fail
        have hS : Blk (w3.alloc (.cells #[.string G.m, .string G.t, .int .i64 G.c, .string G.r, .int .i64 G.n] 23)) w3.heap.size 23 [.string G.m, .string G.t, .int .i64 G.c, .string G.r, .int .i64 G.n] := Blk.new w3 23 [.string G.m, .string G.t, .int .i64 G.c, .string G.r, .int .i64 G.n]
        have hMS : M < w3.heap.size := hX.m.lt
        replace hX := hX.alloc (.cells #[.string G.m, .string G.t, .int .i64 G.c, .string G.r, .int .i64 G.n] 23)
        generalize World.alloc w3 _ = V3 at hX hS ⊢
        generalize w3.heap.size = S3 at hS hMS ⊢
        have s0 := hS.cell 0 _ rfl
        have s1 := hS.cell 1 _ rfl
        have s2 := hS.cell 2 _ rfl
        have s3 := hS.cell 3 _ rfl
        have s4 := hS.cell 4 _ rfl
        have sf := hS.fz
        have m0 := hX.m.cell 0 _ rfl
        have m1 := hX.m.cell 1 _ rfl
        have m2 := hX.m.cell 2 _ rfl
        have m3 := hX.m.cell 3 _ rfl
        have m4 := hX.m.cell 4 _ rfl
        have m5 := hX.m.cell 5 _ rfl
        have m6 := hX.m.cell 6 _ rfl
        have mf := hX.m.fz
        have hX8 : Bx w (((((V3.setCell ⟨M, 0, none⟩ (.string G.m)).setCell ⟨M, 1, none⟩ (.string G.t)).setCell ⟨M, 2, none⟩ (.int .i64 G.c)).setCell ⟨M, 3, none⟩ (.string G.r)).setCell ⟨M, 4, none⟩ (.int .i64 G.n)) M [.string G.m, .string G.t, .int .i64 G.c, .string G.r, .int .i64 G.n, .slice none 0 0, .string ⟨#[]⟩] := (((((hX.set 0 (show 0 < 7 by decide) _).set 1 (show 1 < 7 by decide) _).set 2 (show 2 < 7 by decide) _).set 3 (show 3 < 7 by decide) _).set 4 (show 4 < 7 by decide) _)
        go_upto_region 9 with fail
        generalize World.setCell _ _ _ = V8 at hX8 ⊢
        clear s0 s1 s2 s3 s4 sf hS hMS m0 m1 m2 m3 m4 m5 m6 mf hX
        have hX := hX8
        clear hX8
        have m0 := hX.m.cell 0 _ rfl
        have m1 := hX.m.cell 1 _ rfl
        have m2 := hX.m.cell 2 _ rfl
        have m3 := hX.m.cell 3 _ rfl
        have m4 := hX.m.cell 4 _ rfl
        have m5 := hX.m.cell 5 _ rfl
        have m6 := hX.m.cell 6 _ rfl
        have mf := hX.m.fz
        have r0 := hX.r.cell 0 _ rfl
        have r1 := hX.r.cell 1 _ rfl
        have r2 := hX.r.cell 2 _ rfl
        have r3 := hX.r.cell 3 _ rfl
        have r4 := hX.r.cell 4 _ rfl
        have r5 := hX.r.cell 5 _ rfl
        have r6 := hX.r.cell 6 _ rfl
        have rf := hX.r.fz
        have t0 := hX.t.cell 0 _ rfl
        have t1 := hX.t.cell 1 _ rfl
        have tf := hX.t.fz
        go_wp2_with fail
        refine (hfp _).mono ?_
        rintro en w5 ⟨v5, rfl, ho5, hb5⟩
        obtain ⟨va, vc, rfl⟩ := ho5.row.slice
        replace hX := hX.below hb5
        have hF := FR.own ho5
        clear ho5 hb5 hfp
        clear m0 m1 m2 m3 m4 m5 m6 mf r0 r1 r2 r3 r4 r5 r6 rf t0 t1 tf
        have m0 := hX.m.cell 0 _ rfl
        have m1 := hX.m.cell 1 _ rfl
        have m2 := hX.m.cell 2 _ rfl
        have m3 := hX.m.cell 3 _ rfl
        have m4 := hX.m.cell 4 _ rfl
        have m5 := hX.m.cell 5 _ rfl
        have m6 := hX.m.cell 6 _ rfl
        have mf := hX.m.fz
        have hX12 : Bx w (w5.setCell ⟨M, 5, none⟩ (.slice va L.length vc)) M [.string G.m, .string G.t, .int .i64 G.c, .string G.r, .int .i64 G.n, .slice va L.length vc, .string ⟨#[]⟩] := hX.set 5 (show 5 < 7 by decide) _
        replace hF := hF.keep (Kf.only (only_set (only_refl w5 M) 5 (.slice va L.length vc)) (by rw [hX.m.ty]; decide))
        go_upto_region 13 with fail
        generalize World.setCell _ _ _ = V8 at hX12 hF ⊢
        clear m0 m1 m2 m3 m4 m5 m6 mf hX
        have hX := hX12
        clear hX12
        have m0 := hX.m.cell 0 _ rfl
        have m1 := hX.m.cell 1 _ rfl
        have m2 := hX.m.cell 2 _ rfl
        have m3 := hX.m.cell 3 _ rfl
        have m4 := hX.m.cell 4 _ rfl
        have m5 := hX.m.cell 5 _ rfl
        have m6 := hX.m.cell 6 _ rfl
        have mf := hX.m.fz
        have r0 := hX.r.cell 0 _ rfl
        have r1 := hX.r.cell 1 _ rfl
        have r2 := hX.r.cell 2 _ rfl
        have r3 := hX.r.cell 3 _ rfl
        have r4 := hX.r.cell 4 _ rfl
        have r5 := hX.r.cell 5 _ rfl
        have r6 := hX.r.cell 6 _ rfl
        have rf := hX.r.fz
        have t0 := hX.t.cell 0 _ rfl
        have t1 := hX.t.cell 1 _ rfl
        have tf := hX.t.fz
        go_wp2_with fail
        refine (hrq _ _ hF.row).mono ?_
        rintro en w6 ⟨rfl, hb6⟩
        replace hX := hX.below hb6
        replace hF := hF.below hb6
        clear m0 m1 m2 m3 m4 m5 m6 mf r0 r1 r2 r3 r4 r5 r6 rf t0 t1 tf
        clear hb6
        go_upto_region 17 with fail
        have hP := Blk.new w6 28 [.int .i64 A1, .int .i64 A2]
        change Blk (w6.alloc (.cells #[.int .i64 A1, .int .i64 A2] 28)) _ _ _ at hP
        have hPne1 : M < w6.heap.size := hX.m.lt
        replace hX := hX.alloc (.cells #[.int .i64 A1, .int .i64 A2] 28)
        replace hF := hF.below ((Below.refl _ w6).alloc (Nat.le_refl _) (.cells #[.int .i64 A1, .int .i64 A2] 28))
        generalize World.alloc w6 _ = W7 at hX hF hP ⊢
        generalize w6.heap.size = PP at hP hPne1 ⊢
        have hne := hX.ne
        refine wp_region_held_drew (S := (fun w' => Blk w' M 26 [.string G.m, .string G.t, .int .i64 G.c, .string G.r, .int .i64 G.n, .slice va L.length vc, .string ⟨#[]⟩] ∧ Blk w' PP 28 [.int .i64 A1, .int .i64 A2])) (by kernel_rfl) (⟨hX.m.drew, hP.drew⟩) (fun hHeld => ?_)
        refine wpAnyH_take (i := 0) (oi := _) (v := .agg #[.string G.m, .string G.t, .int .i64 G.c, .string G.r, .int .i64 G.n, .slice va L.length vc, .string ⟨#[]⟩]) rfl (by kernel_rfl) (by kernel_rfl) (by kernel_rfl) (fun _ _ _ h => h) (yieldsIf_load_mid (by kernel_rfl) 26 (.tmp 11) rfl M 0 rfl _ _ (fun _ hS => Blk.range (hS.1) 0 7) Tryz.underlying26 rfl (by kernel_rfl)) (by first | trivial | assumption) ?_
        simp only [Act.put, List.getElem_toArray, List.getElem_cons_zero, List.getElem_cons_succ, List.setIfInBounds_toArray, List.set_cons_zero, List.set_cons_succ]
        refine wpAnyH_take (i := 1) (oi := _) (v := .agg #[.int .i64 A1, .int .i64 A2]) rfl (by kernel_rfl) (by kernel_rfl) (by kernel_rfl) (fun _ _ _ h => h) (yieldsIf_load_mid (by kernel_rfl) 28 (.tmp 18) rfl PP 0 rfl _ _ (fun _ hS => Blk.range (hS.2) 0 2) Tryz.underlying28 rfl (by kernel_rfl)) (by first | trivial | assumption) ?_
        simp only [Act.put, List.getElem_toArray, List.getElem_cons_zero, List.getElem_cons_succ, List.setIfInBounds_toArray, List.set_cons_zero, List.set_cons_succ]
        refine wpAnyH_take (i := 2) (oi := _) (v := .int .i64 A3) rfl (by kernel_rfl) (by kernel_rfl) (by kernel_rfl) (fun _ _ _ h => h) (Or.inl ⟨by rfl, fun wS hSw => by go_simp⟩) (by first | trivial | assumption) ?_
        simp only [Act.put, List.getElem_toArray, List.getElem_cons_zero, List.getElem_cons_succ, List.setIfInBounds_toArray, List.set_cons_zero, List.set_cons_succ]
        have hX1 := only_sets [.string G.m, .string G.t, .int .i64 G.c, .string G.r, .int .i64 G.n, .slice va L.length vc, .string ⟨#[]⟩] 0 (only_refl W7.drew w.heap.size)
        have hQ1 : Blk (W7.drew.setCells w.heap.size 0 [.string G.m, .string G.t, .int .i64 G.c, .string G.r, .int .i64 G.n, .slice va L.length vc, .string ⟨#[]⟩]) M 26 [.string G.m, .string G.t, .int .i64 G.c, .string G.r, .int .i64 G.n, .slice va L.length vc, .string ⟨#[]⟩] := hX.m.drew.keep (hX1.block M hX.m.lt (fun e => absurd (Option.some.inj e) (by omega)))
        have hP1 : Blk (W7.drew.setCells w.heap.size 0 [.string G.m, .string G.t, .int .i64 G.c, .string G.r, .int .i64 G.n, .slice va L.length vc, .string ⟨#[]⟩]) PP 28 [.int .i64 A1, .int .i64 A2] := hP.drew.keep (hX1.block PP hP.lt (fun e => absurd (Option.some.inj e) (by omega)))
        have hT1 : Blk (W7.drew.setCells w.heap.size 0 [.string G.m, .string G.t, .int .i64 G.c, .string G.r, .int .i64 G.n, .slice va L.length vc, .string ⟨#[]⟩]) (w.heap.size + 1) 28 [.int .i64 0, .int .i64 0] := hX.t.drew.keep (hX1.block _ hX.t.lt (by simp))
        have hM1 : Blk (W7.drew.setCells w.heap.size 0 [.string G.m, .string G.t, .int .i64 G.c, .string G.r, .int .i64 G.n, .slice va L.length vc, .string ⟨#[]⟩]) w.heap.size 26 [.string G.m, .string G.t, .int .i64 G.c, .string G.r, .int .i64 G.n, .slice va L.length vc, .string ⟨#[]⟩] := hX.r.drew.sets [.string G.m, .string G.t, .int .i64 G.c, .string G.r, .int .i64 G.n, .slice va L.length vc, .string ⟨#[]⟩] 0 (show 0 + 7 ≤ 7 by decide)
        have hB1 : Below w.heap.size w (W7.drew.setCells w.heap.size 0 [.string G.m, .string G.t, .int .i64 G.c, .string G.r, .int .i64 G.n, .slice va L.length vc, .string ⟨#[]⟩]) := hX.b.drew.trans (below_only hX1 (Nat.le_refl _) hX.b.size)
        have hF1 : FR (W7.drew.setCells w.heap.size 0 [.string G.m, .string G.t, .int .i64 G.c, .string G.r, .int .i64 G.n, .slice va L.length vc, .string ⟨#[]⟩]) (.slice va L.length vc) L := (hF.below ((Below.refl _ W7).drew)).keep (Kf.only hX1 (by rw [hX.r.drew.ty]; decide))
        have hMth := hX.r.drew.there 0 7 (show 0 + 7 ≤ 7 by decide)
        refine wpAnyH_ready (rs := [3]) (by kernel_rfl) (by simp) ?_
        refine AllReadyH.cons (o := _) rfl (fun K hK => ?_) AllReadyH.nil
        rw [if_pos (by kernel_rfl)]
        refine wp_store_mid 26 (.tmp 6) (.tmp 69) rfl _ _ _ rfl rfl (hMth) (by kernel_rfl) (by simp [Value.oneCell']) ?_
        simp only [Act.put, List.getElem_toArray, List.getElem_cons_zero, List.getElem_cons_succ, List.setIfInBounds_toArray, List.set_cons_zero, List.set_cons_succ]
        refine hK.out _ _ (⟨hQ1, hP1⟩) (fun hHeld => ?_)
        clear hK K
        clear hX1 hMth
        generalize World.setCells _ _ _ _ = W8 at hHeld hQ1 hP1 hT1 hM1 hB1 hF1 ⊢
        have hX2 := only_sets [.int .i64 A1, .int .i64 A2] 0 (only_refl W8 (w.heap.size + 1))
        have hQ2 := hQ1.keep (hX2.block M hQ1.lt (fun e => absurd (Option.some.inj e) (by omega)))
        have hP2 := hP1.keep (hX2.block PP hP1.lt (fun e => absurd (Option.some.inj e) (by omega)))
        have hT2 := hT1.sets [.int .i64 A1, .int .i64 A2] 0 (show 0 + 2 ≤ 2 by decide)
        have hM2 := hM1.keep (hX2.block _ hM1.lt (by simp))
        have hB2 := hB1.trans (below_only hX2 (Nat.le_succ _) hB1.size)
        have hF2 := hF1.keep (Kf.only hX2 (by rw [hT1.ty]; decide))
        have hTth := hT1.there 0 2 (show 0 + 2 ≤ 2 by decide)
        refine wpAnyH_ready (rs := [4]) (by kernel_rfl) (by simp) ?_
        refine AllReadyH.cons (o := _) rfl (fun K hK => ?_) AllReadyH.nil
        rw [if_pos (by kernel_rfl)]
        refine wp_store_mid 28 (.tmp 7) (.tmp 70) rfl _ _ _ rfl rfl (hTth) (by kernel_rfl) (by simp [Value.oneCell']) ?_
        simp only [Act.put, List.getElem_toArray, List.getElem_cons_zero, List.getElem_cons_succ, List.setIfInBounds_toArray, List.set_cons_zero, List.set_cons_succ]
        refine hK.out _ _ (⟨hQ2, hP2⟩) (fun hHeld => ?_)
        clear hK K
        clear hX2 hTth
        generalize World.setCells _ _ _ _ = W9 at hHeld hQ2 hP2 hT2 hM2 hB2 hF2 ⊢
        refine wpAnyH_take (i := 5) (oi := _) (v := .int .i64 A3) rfl (by kernel_rfl) (by kernel_rfl) (by kernel_rfl) (fun _ _ _ h => h) (Or.inl ⟨by rfl, fun wS hSw => by go_simp⟩) (by first | trivial | assumption) ?_
        simp only [Act.put, List.getElem_toArray, List.getElem_cons_zero, List.getElem_cons_succ, List.setIfInBounds_toArray, List.set_cons_zero, List.set_cons_succ]
        refine wpAnyH_done (by kernel_rfl) ?_ _
        have m0 := hM2.cell 0 _ rfl
        have m1 := hM2.cell 1 _ rfl
        have m2 := hM2.cell 2 _ rfl
        have m3 := hM2.cell 3 _ rfl
        have m4 := hM2.cell 4 _ rfl
        have m5 := hM2.cell 5 _ rfl
        have m6 := hM2.cell 6 _ rfl
        have t0 : W9.cell? ⟨w.heap.size + 1, 0, none⟩ = some (.int .i64 A1) := hT2.cell 0 _ rfl
        have t1 : W9.cell? ⟨w.heap.size + 1, 1, none⟩ = some (.int .i64 A2) := hT2.cell 1 _ rfl
        have HF2 := hide (And.intro hF2 hB2)
        clear hF2 hB2 hQ2 hP2 hM2 hT2 hHeld hX hF hP
        go_wp2_with fail
        refine bodyPost_ret (v := .tuple #[.agg #[.string G.m, .string G.t, .int .i64 G.c, .string G.r, .int .i64 G.n, .slice va L.length vc, .string ⟨#[]⟩], .agg #[.int .i64 A1, .int .i64 A2], .int .i64 A3]) (by simp [results, Tryz.results38, go_sem, m0, m1, m2, m3, m4, m5, m6, t0, t1]) rfl ⟨⟨⟨G, L, []⟩, va, L.length, vc, A1, A2, by rw [HV.out]; rfl, fun _ => ⟨by rw [HV.out], by rw [HV.out], by rw [HV.out], HF2.out.1⟩⟩, HF2.out.2⟩
      · have HV : Hid (H.e = E) := by unfold Hid; rw [hHP, if_neg (by rw [h1]; decide), if_pos hE]
        have hEb : (E != 0) = true := by simpa using hE
        clear e1 e2 h1 hHP HA hsh
        go_enter Tryz.func38, Tryz.ntmps38
        go_upto_region 1 with fail
        generalize World.alloc (World.alloc _ _) _ = V0 at hM hT hB ⊢
        go_wp2_with fail
        refine (hln _).mono ?_
        rintro en w1 ⟨rfl, hb1⟩
        replace hB := hB.trans (hb1.mono hB.size)
        replace hM := hM.below hb1
        replace hT := hT.below hb1
        have hTl := hT.lt
        clear hb1 hln
        go_upto_region 3 with fail
        have hX : Bx w (w1.alloc (.cells #[.string ⟨#[]⟩, .string ⟨#[]⟩, .int .i64 0, .string ⟨#[]⟩, .int .i64 0, .slice none 0 0, .string ⟨#[]⟩] 26)) w1.heap.size [.string ⟨#[]⟩, .string ⟨#[]⟩, .int .i64 0, .string ⟨#[]⟩, .int .i64 0, .slice none 0 0, .string ⟨#[]⟩] := ⟨hB.alloc hB.size _, hM.alloc _, hT.alloc _, Blk.new w1 26 [.string ⟨#[]⟩, .string ⟨#[]⟩, .int .i64 0, .string ⟨#[]⟩, .int .i64 0, .slice none 0 0, .string ⟨#[]⟩], hTl⟩
        clear hM hT hB hTl
        generalize World.alloc w1 _ = V1 at hX ⊢
        generalize w1.heap.size = M at hX ⊢
        go_wp2_with fail
        refine (hpa _).mono ?_
        rintro en w3 ⟨rfl, hb3⟩
        replace hX := hX.below hb3
        clear hb3 hpa
        go_upto_region 4 with fail
        have hS : Blk (w3.alloc (.cells #[.string G.m, .string G.t, .int .i64 G.c, .string G.r, .int .i64 G.n] 23)) w3.heap.size 23 [.string G.m, .string G.t, .int .i64 G.c, .string G.r, .int .i64 G.n] := Blk.new w3 23 [.string G.m, .string G.t, .int .i64 G.c, .string G.r, .int .i64 G.n]
        have hMS : M < w3.heap.size := hX.m.lt
        replace hX := hX.alloc (.cells #[.string G.m, .string G.t, .int .i64 G.c, .string G.r, .int .i64 G.n] 23)
        generalize World.alloc w3 _ = V3 at hX hS ⊢
        generalize w3.heap.size = S3 at hS hMS ⊢
        have s0 := hS.cell 0 _ rfl
        have s1 := hS.cell 1 _ rfl
        have s2 := hS.cell 2 _ rfl
        have s3 := hS.cell 3 _ rfl
        have s4 := hS.cell 4 _ rfl
        have sf := hS.fz
        have m0 := hX.m.cell 0 _ rfl
        have m1 := hX.m.cell 1 _ rfl
        have m2 := hX.m.cell 2 _ rfl
        have m3 := hX.m.cell 3 _ rfl
        have m4 := hX.m.cell 4 _ rfl
        have m5 := hX.m.cell 5 _ rfl
        have m6 := hX.m.cell 6 _ rfl
        have mf := hX.m.fz
        have hX8 : Bx w (((((V3.setCell ⟨M, 0, none⟩ (.string G.m)).setCell ⟨M, 1, none⟩ (.string G.t)).setCell ⟨M, 2, none⟩ (.int .i64 G.c)).setCell ⟨M, 3, none⟩ (.string G.r)).setCell ⟨M, 4, none⟩ (.int .i64 G.n)) M [.string G.m, .string G.t, .int .i64 G.c, .string G.r, .int .i64 G.n, .slice none 0 0, .string ⟨#[]⟩] := (((((hX.set 0 (show 0 < 7 by decide) _).set 1 (show 1 < 7 by decide) _).set 2 (show 2 < 7 by decide) _).set 3 (show 3 < 7 by decide) _).set 4 (show 4 < 7 by decide) _)
        go_upto_region 9 with fail
        generalize World.setCell _ _ _ = V8 at hX8 ⊢
        clear s0 s1 s2 s3 s4 sf hS hMS m0 m1 m2 m3 m4 m5 m6 mf hX
        have hX := hX8
        clear hX8
        have m0 := hX.m.cell 0 _ rfl
        have m1 := hX.m.cell 1 _ rfl
        have m2 := hX.m.cell 2 _ rfl
        have m3 := hX.m.cell 3 _ rfl
        have m4 := hX.m.cell 4 _ rfl
        have m5 := hX.m.cell 5 _ rfl
        have m6 := hX.m.cell 6 _ rfl
        have mf := hX.m.fz
        have r0 := hX.r.cell 0 _ rfl
        have r1 := hX.r.cell 1 _ rfl
        have r2 := hX.r.cell 2 _ rfl
        have r3 := hX.r.cell 3 _ rfl
        have r4 := hX.r.cell 4 _ rfl
        have r5 := hX.r.cell 5 _ rfl
        have r6 := hX.r.cell 6 _ rfl
        have rf := hX.r.fz
        have t0 := hX.t.cell 0 _ rfl
        have t1 := hX.t.cell 1 _ rfl
        have tf := hX.t.fz
        go_wp2_with fail
        refine (hfp _).mono ?_
        rintro en w5 ⟨v5, rfl, ho5, hb5⟩
        obtain ⟨va, vc, rfl⟩ := ho5.row.slice
        replace hX := hX.below hb5
        have hF := FR.own ho5
        clear ho5 hb5 hfp
        clear m0 m1 m2 m3 m4 m5 m6 mf r0 r1 r2 r3 r4 r5 r6 rf t0 t1 tf
        have m0 := hX.m.cell 0 _ rfl
        have m1 := hX.m.cell 1 _ rfl
        have m2 := hX.m.cell 2 _ rfl
        have m3 := hX.m.cell 3 _ rfl
        have m4 := hX.m.cell 4 _ rfl
        have m5 := hX.m.cell 5 _ rfl
        have m6 := hX.m.cell 6 _ rfl
        have mf := hX.m.fz
        have hX12 : Bx w (w5.setCell ⟨M, 5, none⟩ (.slice va L.length vc)) M [.string G.m, .string G.t, .int .i64 G.c, .string G.r, .int .i64 G.n, .slice va L.length vc, .string ⟨#[]⟩] := hX.set 5 (show 5 < 7 by decide) _
        replace hF := hF.keep (Kf.only (only_set (only_refl w5 M) 5 (.slice va L.length vc)) (by rw [hX.m.ty]; decide))
        go_upto_region 13 with fail
        generalize World.setCell _ _ _ = V8 at hX12 hF ⊢
        clear m0 m1 m2 m3 m4 m5 m6 mf hX
        have hX := hX12
        clear hX12
        have m0 := hX.m.cell 0 _ rfl
        have m1 := hX.m.cell 1 _ rfl
        have m2 := hX.m.cell 2 _ rfl
        have m3 := hX.m.cell 3 _ rfl
        have m4 := hX.m.cell 4 _ rfl
        have m5 := hX.m.cell 5 _ rfl
        have m6 := hX.m.cell 6 _ rfl
        have mf := hX.m.fz
        have r0 := hX.r.cell 0 _ rfl
        have r1 := hX.r.cell 1 _ rfl
        have r2 := hX.r.cell 2 _ rfl
        have r3 := hX.r.cell 3 _ rfl
        have r4 := hX.r.cell 4 _ rfl
        have r5 := hX.r.cell 5 _ rfl
        have r6 := hX.r.cell 6 _ rfl
        have rf := hX.r.fz
        have t0 := hX.t.cell 0 _ rfl
        have t1 := hX.t.cell 1 _ rfl
        have tf := hX.t.fz
        go_wp2_with fail
        change bodyPost _ _ _ _ _ (putM V8 w.heap.size ⟨G, L, []⟩ (.slice va L.length vc) 0 0)
        obtain ⟨x1, x2⟩ := putM_is hX.r hX.t ⟨G, L, []⟩ (.slice va L.length vc) 0 0
        have x3 := putM_below hX.b (Nat.le_refl _) hX.b.size ⟨G, L, []⟩ (.slice va L.length vc) 0 0
        clear m0 m1 m2 m3 m4 m5 m6 mf r0 r1 r2 r3 r4 r5 r6 rf t0 t1 tf
        generalize putM _ _ _ _ _ _ = V9 at x1 x2 x3 ⊢
        have m0 := x1.cell 0 _ rfl
        have m1 := x1.cell 1 _ rfl
        have m2 := x1.cell 2 _ rfl
        have m3 := x1.cell 3 _ rfl
        have m4 := x1.cell 4 _ rfl
        have m5 := x1.cell 5 _ rfl
        have m6 := x1.cell 6 _ rfl
        have t0 := x2.cell 0 _ rfl
        have t1 := x2.cell 1 _ rfl
        rw [show Ck.bs [] = (⟨#[]⟩ : ByteArray) from rfl] at m6
        refine bodyPost_ret (v := .tuple #[.agg #[.string G.m, .string G.t, .int .i64 G.c, .string G.r, .int .i64 G.n, .slice va L.length vc, .string ⟨#[]⟩], .agg #[.int .i64 0, .int .i64 0], .int .i64 E]) (by simp [results, Tryz.results38, go_sem, m0, m1, m2, m3, m4, m5, m6, t0, t1]) rfl ⟨bp_bad ⟨G, L, []⟩ va L.length vc HV hE, x3⟩

end Go.Proofs.YtmpijlaidnhpnaaGreat

namespace Go.Proofs.YtmpijlaidnhpnaaGreat
set_option linter.unusedVariables false
set_option linter.unusedSimpArgs false
set_option maxRecDepth 100000
open Go.RowKit

theorem ext_first (p b : List UInt8) : (Ck.bs (p ++ b)).extract 0 p.length = Ck.bs p := by
  apply bytes_ext
  rw [Ck.bs_list, ByteArray.data_extract]
  simp [Ck.bs, List.extract_eq_take_drop]
theorem pos_of_ne {p : List UInt8} (h : p ≠ []) : 0 < p.length := by
  cases p with
  | nil => exact absurd rfl h
  | cons a r => simp
theorem byte_at (l : List UInt8) (i : Nat) (h : i < (Ck.bs l).size) (c : UInt8) (hc : l[i]? = some c) : (Ck.bs l)[i]'h = c := by
  have h2 : i < l.length := by rw [← Ck.bs_size]; exact h
  rw [List.getElem?_eq_getElem h2] at hc
  exact Option.some.inj hc

set_option maxHeartbeats 16000000 in
theorem refhead_any (a : Bool) (t : ByteArray) (p b : List UInt8) (w : World) (hp : Hd.endsB p = true) (hb : blankP b) (hl : (p ++ b).length ≤ 4000) :
    Calls Tryz.prog 23 #[.bool a, .string t, .string (Ck.bs (p ++ b))] w fun en w' => BP w' (hhF a t (p ++ b)) en ∧ Below w.heap.size w w' := by
  have hH := hp_is a t hp hb
  have hz := Ck.bs_size (p ++ b)
  have hx := ext_first p b
  have hbg : p ≠ [] → ∀ W, _ := fun h W => begin_any a t p W (by rw [List.length_append] at hl; omega) (Hd.ends_at hp h)
  have hM : Blk ((w.alloc (.cells #[.string ⟨#[]⟩, .string ⟨#[]⟩, .int .i64 0, .string ⟨#[]⟩, .int .i64 0, .slice none 0 0, .string ⟨#[]⟩] 26)).alloc (.cells #[.int .i64 0, .int .i64 0] 28)) w.heap.size 26 [.string ⟨#[]⟩, .string ⟨#[]⟩, .int .i64 0, .string ⟨#[]⟩, .int .i64 0, .slice none 0 0, .string ⟨#[]⟩] := (Blk.new w 26 [.string ⟨#[]⟩, .string ⟨#[]⟩, .int .i64 0, .string ⟨#[]⟩, .int .i64 0, .slice none 0 0, .string ⟨#[]⟩]).alloc _
  have hT : Blk ((w.alloc (.cells #[.string ⟨#[]⟩, .string ⟨#[]⟩, .int .i64 0, .string ⟨#[]⟩, .int .i64 0, .slice none 0 0, .string ⟨#[]⟩] 26)).alloc (.cells #[.int .i64 0, .int .i64 0] 28)) (w.heap.size + 1) 28 [.int .i64 0, .int .i64 0] := by
    have := Blk.new (w.alloc (.cells #[.string ⟨#[]⟩, .string ⟨#[]⟩, .int .i64 0, .string ⟨#[]⟩, .int .i64 0, .slice none 0 0, .string ⟨#[]⟩] 26)) 28 [.int .i64 0, .int .i64 0]
    rwa [show (w.alloc (.cells #[.string ⟨#[]⟩, .string ⟨#[]⟩, .int .i64 0, .string ⟨#[]⟩, .int .i64 0, .slice none 0 0, .string ⟨#[]⟩] 26)).heap.size = w.heap.size + 1 by simp] at this
  have hB : Below w.heap.size w ((w.alloc (.cells #[.string ⟨#[]⟩, .string ⟨#[]⟩, .int .i64 0, .string ⟨#[]⟩, .int .i64 0, .slice none 0 0, .string ⟨#[]⟩] 26)).alloc (.cells #[.int .i64 0, .int .i64 0] 28)) := ((Below.refl _ _).alloc (Nat.le_refl _) _).alloc (by simp) _
  have hlast : p ≠ [] → ∀ h, (Ck.bs (p ++ b))[p.length - 1]'h = 10 := fun h0 h => by
    refine byte_at _ _ _ _ ?_
    have h1 : 0 < p.length := pos_of_ne h0
    rw [List.getElem?_append_left (by omega), ← List.getLast?_eq_getElem?]
    unfold Hd.endsB at hp
    cases p with
    | nil => exact absurd rfl h0
    | cons x r => simpa using hp
  have h13 : b = [13, 10] → ∀ h, (Ck.bs (p ++ b))[p.length]'h = 13 := fun h0 h => by
    subst h0
    refine byte_at _ _ _ _ ?_
    simp
  generalize hhF a t (p ++ b) = H at hH ⊢
  generalize Ck.bs (p ++ b) = S at hz hx hlast h13 ⊢
  rcases hb with hb | hb
  · subst hb
    clear h13
    rw [List.length_append] at hl hz
    simp at hl hz
    by_cases h0 : p = []
    · have HV : Hid (H.e = 30) := by unfold Hid; rw [hH]; unfold hpF; rw [if_pos h0]
      subst h0
      have hzi : (S.size : Int) - 1 = 0 := by simp at hz; omega
      clear hH hbg hlast hx hl hp hz
      go_enter Tryz.func23, Tryz.ntmps23
      go_upto_region 1 with fail
      generalize World.alloc (World.alloc _ _) _ = V0 at hM hT hB ⊢
      have r0 := hM.cell 0 _ rfl
      have r1 := hM.cell 1 _ rfl
      have r2 := hM.cell 2 _ rfl
      have r3 := hM.cell 3 _ rfl
      have r4 := hM.cell 4 _ rfl
      have r5 := hM.cell 5 _ rfl
      have r6 := hM.cell 6 _ rfl
      have rf := hM.fz
      have t0 := hT.cell 0 _ rfl
      have t1 := hT.cell 1 _ rfl
      have tf := hT.fz
      go_wp2_with fail
      change bodyPost _ _ _ _ _ (putM V0 w.heap.size Ms.no (.slice none 0 0) 0 0)
      obtain ⟨x1, x2⟩ := putM_is hM hT Ms.no (.slice none 0 0) 0 0
      have x3 := putM_below hB (Nat.le_refl _) hB.size Ms.no (.slice none 0 0) 0 0
      clear r0 r1 r2 r3 r4 r5 r6 rf t0 t1 tf
      generalize putM _ _ _ _ _ _ = V9 at x1 x2 x3 ⊢
      have m0 : V9.cell? ⟨w.heap.size, 0, none⟩ = some (.string ⟨#[]⟩) := x1.cell 0 _ rfl
      have m1 : V9.cell? ⟨w.heap.size, 1, none⟩ = some (.string ⟨#[]⟩) := x1.cell 1 _ rfl
      have m2 : V9.cell? ⟨w.heap.size, 2, none⟩ = some (.int .i64 0) := x1.cell 2 _ rfl
      have m3 : V9.cell? ⟨w.heap.size, 3, none⟩ = some (.string ⟨#[]⟩) := x1.cell 3 _ rfl
      have m4 : V9.cell? ⟨w.heap.size, 4, none⟩ = some (.int .i64 0) := x1.cell 4 _ rfl
      have m5 : V9.cell? ⟨w.heap.size, 5, none⟩ = some (.slice none 0 0) := x1.cell 5 _ rfl
      have m6 : V9.cell? ⟨w.heap.size, 6, none⟩ = some (.string ⟨#[]⟩) := x1.cell 6 _ rfl
      have t0 : V9.cell? ⟨w.heap.size + 1, 0, none⟩ = some (.int .i64 0) := x2.cell 0 _ rfl
      have t1 : V9.cell? ⟨w.heap.size + 1, 1, none⟩ = some (.int .i64 0) := x2.cell 1 _ rfl
      refine bodyPost_ret (v := .tuple #[.agg #[.string ⟨#[]⟩, .string ⟨#[]⟩, .int .i64 0, .string ⟨#[]⟩, .int .i64 0, .slice none 0 0, .string ⟨#[]⟩], .agg #[.int .i64 0, .int .i64 0], .int .i64 30]) (by simp [results, Tryz.results23, go_sem, m0, m1, m2, m3, m4, m5, m6, t0, t1]) rfl ⟨bp_bad Ms.no none 0 0 HV (by decide), x3⟩
    · have HV : Hid (H = hpF a t p) := hH
      obtain ⟨q, hq⟩ : ∃ q, p.length = q + 1 := ⟨p.length - 1, by have := pos_of_ne h0; omega⟩
      have hqs : q < S.size := by omega
      have hla := hlast h0 (by omega)
      have e0 : p.length - 1 = q := by omega
      simp only [e0] at hla
      have hbt : (((S[q]'hqs).toNat : Int) == 13) = false := by rw [hla]; decide
      have hbg := hbg h0
      rw [← hx] at hbg
      clear hx hla hlast
      generalize p.length = n at hq hz hl hbg e0
      have e1 : (S.size : Int) - 1 = (n : Int) := by omega
      have e2 : (n : Int) - 1 = (q : Int) := by omega
      have e3 : ((n : Int) == 0) = false := by simp; omega
      have e4 : (0 : Int) < (n : Int) := by omega
      have e5 : (n : Int) ≤ (S.size : Int) := by omega
      have e6 : (n : Int) ≤ 4000 := by omega
      clear hH hl hp hz e0 h0 hq
      go_enter Tryz.func23, Tryz.ntmps23
      go_upto_region 1 with fail
      generalize World.alloc (World.alloc _ _) _ = V0 at hM hT hB ⊢
      have r0 := hM.cell 0 _ rfl
      have r1 := hM.cell 1 _ rfl
      have r2 := hM.cell 2 _ rfl
      have r3 := hM.cell 3 _ rfl
      have r4 := hM.cell 4 _ rfl
      have r5 := hM.cell 5 _ rfl
      have r6 := hM.cell 6 _ rfl
      have rf := hM.fz
      have t0 := hT.cell 0 _ rfl
      have t1 := hT.cell 1 _ rfl
      have tf := hT.fz
      go_wp2_with fail
      refine (hbg _).mono ?_
      rintro en w3 ⟨⟨m, va, vn, vc, k, z, rfl, hg⟩, hb3⟩
      replace hB := hB.trans (hb3.mono hB.size)
      replace hM := hM.below hb3
      replace hT := hT.below hb3
      have HG := hide hg
      clear r0 r1 r2 r3 r4 r5 r6 rf t0 t1 tf hb3 hg
      have r0 := hM.cell 0 _ rfl
      have r1 := hM.cell 1 _ rfl
      have r2 := hM.cell 2 _ rfl
      have r3 := hM.cell 3 _ rfl
      have r4 := hM.cell 4 _ rfl
      have r5 := hM.cell 5 _ rfl
      have r6 := hM.cell 6 _ rfl
      have rf := hM.fz
      have t0 := hT.cell 0 _ rfl
      have t1 := hT.cell 1 _ rfl
      have tf := hT.fz
      have hTl := hT.lt
      unfold Ms.v
      go_wp2_with fail
      change bodyPost _ _ _ _ _ (putM w3 w.heap.size m (.slice va vn vc) k z)
      obtain ⟨x1, x2⟩ := putM_is hM hT m (.slice va vn vc) k z
      have x3 := putM_below hB (Nat.le_refl _) hB.size m (.slice va vn vc) k z
      have x4 := putM_kf (w := w3) (M := w.heap.size) (by rw [hM.ty]; decide) (by rw [hT.ty]; decide) hT.lt m (.slice va vn vc) k z
      clear r0 r1 r2 r3 r4 r5 r6 rf t0 t1 tf
      generalize putM _ _ _ _ _ _ = V9 at x1 x2 x3 x4 ⊢
      have m0 := x1.cell 0 _ rfl
      have m1 := x1.cell 1 _ rfl
      have m2 := x1.cell 2 _ rfl
      have m3 := x1.cell 3 _ rfl
      have m4 := x1.cell 4 _ rfl
      have m5 := x1.cell 5 _ rfl
      have m6 := x1.cell 6 _ rfl
      have t0 := x2.cell 0 _ rfl
      have t1 := x2.cell 1 _ rfl
      refine bodyPost_ret (v := .tuple #[m.v (.slice va vn vc), .agg #[.int .i64 k, .int .i64 z], .int .i64 (hpF a t p).e]) (by unfold Ms.v; simp [results, Tryz.results23, go_sem, m0, m1, m2, m3, m4, m5, m6, t0, t1]) rfl ⟨⟨m, va, vn, vc, k, z, by rw [HV.out], fun e => ?_⟩, x3⟩
      rw [HV.out] at e ⊢
      obtain ⟨g1, g2, g3, g4⟩ := HG.out e
      exact ⟨g1, g2, g3, g4.keep x4⟩
  · have hg13 := h13 hb
    subst hb
    clear h13 hlast
    rw [List.length_append] at hl hz
    simp at hl hz
    have hps : p.length < S.size := by omega
    have hla := hg13 hps
    clear hg13
    by_cases h0 : p = []
    · have HV : Hid (H.e = 30) := by unfold Hid; rw [hH]; unfold hpF; rw [if_pos h0]
      have hn0 : p.length = 0 := by rw [h0]; rfl
      have hqs : 0 < S.size := by omega
      have hbt : (((S[0]'hqs).toNat : Int) == 13) = true := by
        have : S[0]'hqs = 13 := by rw [← hla]; simp only [hn0]
        rw [this]; decide
      have e1 : (S.size : Int) - 1 = 1 := by omega
      clear hH hbg hx hl hp hz hla hn0 hps h0
      go_enter Tryz.func23, Tryz.ntmps23
      go_upto_region 1 with fail
      generalize World.alloc (World.alloc _ _) _ = V0 at hM hT hB ⊢
      have r0 := hM.cell 0 _ rfl
      have r1 := hM.cell 1 _ rfl
      have r2 := hM.cell 2 _ rfl
      have r3 := hM.cell 3 _ rfl
      have r4 := hM.cell 4 _ rfl
      have r5 := hM.cell 5 _ rfl
      have r6 := hM.cell 6 _ rfl
      have rf := hM.fz
      have t0 := hT.cell 0 _ rfl
      have t1 := hT.cell 1 _ rfl
      have tf := hT.fz
      go_wp2_with fail
      change bodyPost _ _ _ _ _ (putM V0 w.heap.size Ms.no (.slice none 0 0) 0 0)
      obtain ⟨x1, x2⟩ := putM_is hM hT Ms.no (.slice none 0 0) 0 0
      have x3 := putM_below hB (Nat.le_refl _) hB.size Ms.no (.slice none 0 0) 0 0
      clear r0 r1 r2 r3 r4 r5 r6 rf t0 t1 tf
      generalize putM _ _ _ _ _ _ = V9 at x1 x2 x3 ⊢
      have m0 : V9.cell? ⟨w.heap.size, 0, none⟩ = some (.string ⟨#[]⟩) := x1.cell 0 _ rfl
      have m1 : V9.cell? ⟨w.heap.size, 1, none⟩ = some (.string ⟨#[]⟩) := x1.cell 1 _ rfl
      have m2 : V9.cell? ⟨w.heap.size, 2, none⟩ = some (.int .i64 0) := x1.cell 2 _ rfl
      have m3 : V9.cell? ⟨w.heap.size, 3, none⟩ = some (.string ⟨#[]⟩) := x1.cell 3 _ rfl
      have m4 : V9.cell? ⟨w.heap.size, 4, none⟩ = some (.int .i64 0) := x1.cell 4 _ rfl
      have m5 : V9.cell? ⟨w.heap.size, 5, none⟩ = some (.slice none 0 0) := x1.cell 5 _ rfl
      have m6 : V9.cell? ⟨w.heap.size, 6, none⟩ = some (.string ⟨#[]⟩) := x1.cell 6 _ rfl
      have t0 : V9.cell? ⟨w.heap.size + 1, 0, none⟩ = some (.int .i64 0) := x2.cell 0 _ rfl
      have t1 : V9.cell? ⟨w.heap.size + 1, 1, none⟩ = some (.int .i64 0) := x2.cell 1 _ rfl
      refine bodyPost_ret (v := .tuple #[.agg #[.string ⟨#[]⟩, .string ⟨#[]⟩, .int .i64 0, .string ⟨#[]⟩, .int .i64 0, .slice none 0 0, .string ⟨#[]⟩], .agg #[.int .i64 0, .int .i64 0], .int .i64 30]) (by simp [results, Tryz.results23, go_sem, m0, m1, m2, m3, m4, m5, m6, t0, t1]) rfl ⟨bp_bad Ms.no none 0 0 HV (by decide), x3⟩
    · have HV : Hid (H = hpF a t p) := hH
      have hpos := pos_of_ne h0
      have hbg := hbg h0
      rw [← hx] at hbg
      clear hx
      obtain ⟨n, hn⟩ : ∃ n, n = p.length := ⟨_, rfl⟩
      have hns : n < S.size := by omega
      have hbt : (((S[n]'hns).toNat : Int) == 13) = true := by
        have : S[n]'hns = 13 := by simp only [hn]; exact hla
        rw [this]; decide
      rw [← hn] at hz hl hbg hpos
      clear hla hps hn
      obtain ⟨c, hc⟩ : ∃ c, c = n + 1 := ⟨_, rfl⟩
      have e1 : (S.size : Int) - 1 = (c : Int) := by omega
      have e2 : (c : Int) - 1 = (n : Int) := by omega
      have e3 : ((n : Int) == 0) = false := by simp; omega
      have e4 : (0 : Int) < (c : Int) := by omega
      have e5 : (n : Int) ≤ (S.size : Int) := by omega
      have e6 : (n : Int) ≤ 4000 := by omega
      clear hH hl hp hz h0 hc hpos
      go_enter Tryz.func23, Tryz.ntmps23
      go_upto_region 1 with fail
      generalize World.alloc (World.alloc _ _) _ = V0 at hM hT hB ⊢
      have r0 := hM.cell 0 _ rfl
      have r1 := hM.cell 1 _ rfl
      have r2 := hM.cell 2 _ rfl
      have r3 := hM.cell 3 _ rfl
      have r4 := hM.cell 4 _ rfl
      have r5 := hM.cell 5 _ rfl
      have r6 := hM.cell 6 _ rfl
      have rf := hM.fz
      have t0 := hT.cell 0 _ rfl
      have t1 := hT.cell 1 _ rfl
      have tf := hT.fz
      go_wp2_with fail
      refine (hbg _).mono ?_
      rintro en w3 ⟨⟨m, va, vn, vc, k, z, rfl, hg⟩, hb3⟩
      replace hB := hB.trans (hb3.mono hB.size)
      replace hM := hM.below hb3
      replace hT := hT.below hb3
      have HG := hide hg
      clear r0 r1 r2 r3 r4 r5 r6 rf t0 t1 tf hb3 hg
      have r0 := hM.cell 0 _ rfl
      have r1 := hM.cell 1 _ rfl
      have r2 := hM.cell 2 _ rfl
      have r3 := hM.cell 3 _ rfl
      have r4 := hM.cell 4 _ rfl
      have r5 := hM.cell 5 _ rfl
      have r6 := hM.cell 6 _ rfl
      have rf := hM.fz
      have t0 := hT.cell 0 _ rfl
      have t1 := hT.cell 1 _ rfl
      have tf := hT.fz
      have hTl := hT.lt
      unfold Ms.v
      go_wp2_with fail
      change bodyPost _ _ _ _ _ (putM w3 w.heap.size m (.slice va vn vc) k z)
      obtain ⟨x1, x2⟩ := putM_is hM hT m (.slice va vn vc) k z
      have x3 := putM_below hB (Nat.le_refl _) hB.size m (.slice va vn vc) k z
      have x4 := putM_kf (w := w3) (M := w.heap.size) (by rw [hM.ty]; decide) (by rw [hT.ty]; decide) hT.lt m (.slice va vn vc) k z
      clear r0 r1 r2 r3 r4 r5 r6 rf t0 t1 tf
      generalize putM _ _ _ _ _ _ = V9 at x1 x2 x3 x4 ⊢
      have m0 := x1.cell 0 _ rfl
      have m1 := x1.cell 1 _ rfl
      have m2 := x1.cell 2 _ rfl
      have m3 := x1.cell 3 _ rfl
      have m4 := x1.cell 4 _ rfl
      have m5 := x1.cell 5 _ rfl
      have m6 := x1.cell 6 _ rfl
      have t0 := x2.cell 0 _ rfl
      have t1 := x2.cell 1 _ rfl
      refine bodyPost_ret (v := .tuple #[m.v (.slice va vn vc), .agg #[.int .i64 k, .int .i64 z], .int .i64 (hpF a t p).e]) (by unfold Ms.v; simp [results, Tryz.results23, go_sem, m0, m1, m2, m3, m4, m5, m6, t0, t1]) rfl ⟨⟨m, va, vn, vc, k, z, by rw [HV.out], fun e => ?_⟩, x3⟩
      rw [HV.out] at e ⊢
      obtain ⟨g1, g2, g3, g4⟩ := HG.out e
      exact ⟨g1, g2, g3, g4.keep x4⟩

end Go.Proofs.YtmpijlaidnhpnaaGreat
