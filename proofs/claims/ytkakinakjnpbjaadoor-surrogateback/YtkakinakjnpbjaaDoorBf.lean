/- The walks of how a word is written, and of what a device can. -/
import Derived.Test.YtkakinakjnpbjaaDoorBe
namespace Go.Proofs.YtkakinakjnpbjaaDoor
set_option linter.unusedVariables false
set_option linter.unusedSimpArgs false
open Go.RowKit

theorem cat_bs (a b : List UInt8) : bs a ++ bs b = bs (a ++ b) := by apply bytes_ext; rw [app_list, bs_list, bs_list, bs_list]
theorem cat_nv {n v : List UInt8} (h : v ≠ []) : bs n ++ ((⟨#[61]⟩ : ByteArray) ++ bs (quoteL v)) = bs (nvL n v) := by
  show bs n ++ (bs [61] ++ bs (quoteL v)) = _
  rw [cat_bs, cat_bs]; unfold nvL; rw [if_neg h]; rfl
theorem nv_none (n : List UInt8) : nvL n [] = n := by unfold nvL; simp
theorem cat_wr {n v d : List UInt8} (h : d ≠ []) : bs (nvL n v) ++ ((⟨#[32, 59, 32]⟩ : ByteArray) ++ bs d) = bs (wrL (n, v, d)) := by
  show bs (nvL n v) ++ (bs [32, 59, 32] ++ bs d) = _
  rw [cat_bs, cat_bs]; unfold wrL; rw [if_neg h]
theorem wr_none (n v : List UInt8) : wrL (n, v, []) = nvL n v := by unfold wrL; simp
theorem q_is (v : List UInt8) : qS (bs v) = (if v.any ctrlB then ⟨#[]⟩ else bs (quoteL v)) ∧ qE (bs v) = if v.any ctrlB then 11 else 0 := by
  unfold qS qE ctlB; rw [bs_list]; exact ⟨rfl, rfl⟩

set_option maxHeartbeats 4000000 in
theorem write_any (n v d : List UInt8) (w : World) (hn : n.length ≤ 1000) (hv : v.length ≤ 1000) (hd : d.length ≤ 1000) :
    Calls Tryd.prog 14 #[.agg #[.string (bs n), .string (bs v), .string (bs d)]] w fun e w' => ∃ S ok, e = .returned (.tuple #[.string S, .bool ok]) ∧ ok = okW (n, v, d) ∧ (ok = true → S = bs (wrL (n, v, d))) ∧ Below w.heap.size w w' := by
  have HTN : Hid (∀ W, Calls Tryd.prog 17 #[.string (bs n)] W fun e w' => e = .returned (.bool (tokL n)) ∧ w' = W) := fun W => by
    have := reftoken_any (bs n) W (by rw [bs_size]; omega); rwa [tok_bs] at this
  have HTD : Hid (∀ W, Calls Tryd.prog 17 #[.string (bs d)] W fun e w' => e = .returned (.bool (tokL d)) ∧ w' = W) := fun W => by
    have := reftoken_any (bs d) W (by rw [bs_size]; omega); rwa [tok_bs] at this
  have HQ : Hid (∀ W, Calls Tryd.prog 27 #[.string (bs v)] W fun e w' => e = .returned (.tuple #[.string (if v.any ctrlB then ⟨#[]⟩ else bs (quoteL v)), .int .i64 ((if v.any ctrlB then 11 else 0 : Nat) : Int)]) ∧ w' = W) := fun W => by
    have := refquote_any (bs v) W (by rw [bs_size]; omega); rwa [(q_is v).1, (q_is v).2] at this
  have hB := one_alloc w #[.string (bs n), .string (bs v), .string (bs d)] 31
  have HOK : Hid (okW (n, v, d) = (tokL n && (d == [] || tokL d) && !v.any ctrlB)) := rfl
  have hvl := bs_toList v
  have hdl := bs_toList d
  have sn : (bs n).size ≤ 1000 := by rw [bs_size]; exact hn
  have sd : (bs d).size ≤ 1000 := by rw [bs_size]; exact hd
  have sq : (bs (quoteL v)).size ≤ 2002 := by rw [bs_size]; have := escL_le v; unfold quoteL; simp; omega
  by_cases hv0 : v = []
  · subst hv0
    have f1 : (bs ([] : List UInt8)).toList = [] := hvl
    have f2 : (bs ([] : List UInt8)).toList.isEmpty = true := by rw [hvl]; rfl
    clear hvl
    have HC : Hid (([] : List UInt8).any ctrlB = false) := rfl
    have HNV : Hid (bs n = bs (nvL n [])) := by unfold Hid; rw [nv_none]
    by_cases he : d = []
    · subst he
      have e1 : (bs ([] : List UInt8)).toList = [] := hdl
      have e2 : (bs ([] : List UInt8)).toList.isEmpty = true := by rw [hdl]; rfl
      have HS : Hid (bs n = bs (wrL (n, [], []))) := by unfold Hid; rw [wr_none]; exact HNV.out
      cases hn2 : tokL n
      · have HO : Hid (okW (n, [], []) = false) := by unfold Hid; rw [HOK.out, hn2]; rfl
        rw [hn2] at HTN
        clear hn2 HOK
        clear hdl
        go_enter Tryd.func14, Tryd.ntmps14
        go_wp2_with fail
        refine (HTN.out _).mono ?_
        rintro e w2 ⟨rfl, rfl⟩
        go_wp2_with fail
        go_ret2
        exact ⟨_, false, rfl, HO.out.symm, fun h => Bool.noConfusion h, hB⟩
      · have HO : Hid (okW (n, [], []) = true) := by unfold Hid; rw [HOK.out, hn2, HC.out]; rfl
        rw [hn2] at HTN
        clear hn2 HOK
        clear hdl
        go_enter Tryd.func14, Tryd.ntmps14
        go_wp2_with fail
        refine (HTN.out _).mono ?_
        rintro e w2 ⟨rfl, rfl⟩
        go_wp2_with fail
        go_ret2
        exact ⟨_, true, rfl, HO.out.symm, fun _ => HS.out, hB⟩
    · have e1 : ¬ (bs d).toList = [] := by rw [hdl]; exact he
      have e2 : (bs d).toList.isEmpty = false := by rw [hdl]; simpa using he
      have he2 : (d == []) = false := by simpa using he
      have HS : Hid (bs n ++ ((⟨#[32, 59, 32]⟩ : ByteArray) ++ bs d) = bs (wrL (n, [], d))) := by unfold Hid; rw [HNV.out]; exact cat_wr he
      cases hn2 : tokL n
      · have HO : Hid (okW (n, [], d) = false) := by unfold Hid; rw [HOK.out, hn2]; rfl
        rw [hn2] at HTN
        clear hn2 HOK he2 he
        clear hdl
        go_enter Tryd.func14, Tryd.ntmps14
        go_wp2_with fail
        refine (HTN.out _).mono ?_
        rintro e w2 ⟨rfl, rfl⟩
        go_wp2_with fail
        go_ret2
        exact ⟨_, false, rfl, HO.out.symm, fun h => Bool.noConfusion h, hB⟩
      · cases hd2 : tokL d
        · have HO : Hid (okW (n, [], d) = false) := by unfold Hid; rw [HOK.out, hn2, hd2, he2]; rfl
          rw [hn2] at HTN
          rw [hd2] at HTD
          clear hn2 hd2 HOK he2 he
          clear hdl
          go_enter Tryd.func14, Tryd.ntmps14
          go_wp2_with fail
          refine (HTN.out _).mono ?_
          rintro e w2 ⟨rfl, rfl⟩
          go_wp2_with fail
          refine (HTD.out _).mono ?_
          rintro e w3 ⟨rfl, rfl⟩
          go_wp2_with fail
          go_ret2
          exact ⟨_, false, rfl, HO.out.symm, fun h => Bool.noConfusion h, hB⟩
        · have HO : Hid (okW (n, [], d) = true) := by unfold Hid; rw [HOK.out, hn2, hd2, he2, HC.out]; rfl
          rw [hn2] at HTN
          rw [hd2] at HTD
          clear hn2 hd2 HOK he2 he
          clear hdl
          go_enter Tryd.func14, Tryd.ntmps14
          go_wp2_with fail
          refine (HTN.out _).mono ?_
          rintro e w2 ⟨rfl, rfl⟩
          go_wp2_with fail
          refine (HTD.out _).mono ?_
          rintro e w3 ⟨rfl, rfl⟩
          go_wp2_with fail
          go_ret2
          exact ⟨_, true, rfl, HO.out.symm, fun _ => HS.out, hB⟩
  · have f1 : ¬ (bs v).toList = [] := by rw [hvl]; exact hv0
    have f2 : (bs v).toList.isEmpty = false := by rw [hvl]; simpa using hv0
    clear hvl
    have HNV : Hid (bs n ++ ((⟨#[61]⟩ : ByteArray) ++ bs (quoteL v)) = bs (nvL n v)) := cat_nv hv0
    cases hc : v.any ctrlB
    · have HC := hide hc
      rw [hc] at HQ
      clear hv0 hc
      by_cases he : d = []
      · subst he
        have e1 : (bs ([] : List UInt8)).toList = [] := hdl
        have e2 : (bs ([] : List UInt8)).toList.isEmpty = true := by rw [hdl]; rfl
        have HS : Hid (bs n ++ ((⟨#[61]⟩ : ByteArray) ++ bs (quoteL v)) = bs (wrL (n, v, []))) := by unfold Hid; rw [wr_none]; exact HNV.out
        cases hn2 : tokL n
        · have HO : Hid (okW (n, v, []) = false) := by unfold Hid; rw [HOK.out, hn2]; rfl
          rw [hn2] at HTN
          clear hn2 HOK
          clear hdl
          go_enter Tryd.func14, Tryd.ntmps14
          go_wp2_with fail
          refine (HQ.out _).mono ?_
          rintro e w1 ⟨rfl, rfl⟩
          rw [if_neg (by decide), if_neg (by decide)]
          go_wp2_with fail
          refine (HTN.out _).mono ?_
          rintro e w2 ⟨rfl, rfl⟩
          go_wp2_with fail
          go_ret2
          exact ⟨_, false, rfl, HO.out.symm, fun h => Bool.noConfusion h, hB⟩
        · have HO : Hid (okW (n, v, []) = true) := by unfold Hid; rw [HOK.out, hn2, HC.out]; rfl
          rw [hn2] at HTN
          clear hn2 HOK
          clear hdl
          go_enter Tryd.func14, Tryd.ntmps14
          go_wp2_with fail
          refine (HQ.out _).mono ?_
          rintro e w1 ⟨rfl, rfl⟩
          rw [if_neg (by decide), if_neg (by decide)]
          go_wp2_with fail
          refine (HTN.out _).mono ?_
          rintro e w2 ⟨rfl, rfl⟩
          go_wp2_with fail
          go_ret2
          exact ⟨_, true, rfl, HO.out.symm, fun _ => HS.out, hB⟩
      · have e1 : ¬ (bs d).toList = [] := by rw [hdl]; exact he
        have e2 : (bs d).toList.isEmpty = false := by rw [hdl]; simpa using he
        have he2 : (d == []) = false := by simpa using he
        have HS : Hid (bs n ++ ((⟨#[61]⟩ : ByteArray) ++ bs (quoteL v)) ++ ((⟨#[32, 59, 32]⟩ : ByteArray) ++ bs d) = bs (wrL (n, v, d))) := by unfold Hid; rw [HNV.out]; exact cat_wr he
        cases hn2 : tokL n
        · have HO : Hid (okW (n, v, d) = false) := by unfold Hid; rw [HOK.out, hn2]; rfl
          rw [hn2] at HTN
          clear hn2 HOK he2 he
          clear hdl
          go_enter Tryd.func14, Tryd.ntmps14
          go_wp2_with fail
          refine (HQ.out _).mono ?_
          rintro e w1 ⟨rfl, rfl⟩
          rw [if_neg (by decide), if_neg (by decide)]
          go_wp2_with fail
          refine (HTN.out _).mono ?_
          rintro e w2 ⟨rfl, rfl⟩
          go_wp2_with fail
          go_ret2
          exact ⟨_, false, rfl, HO.out.symm, fun h => Bool.noConfusion h, hB⟩
        · cases hd2 : tokL d
          · have HO : Hid (okW (n, v, d) = false) := by unfold Hid; rw [HOK.out, hn2, hd2, he2]; rfl
            rw [hn2] at HTN
            rw [hd2] at HTD
            clear hn2 hd2 HOK he2 he
            clear hdl
            go_enter Tryd.func14, Tryd.ntmps14
            go_wp2_with fail
            refine (HQ.out _).mono ?_
            rintro e w1 ⟨rfl, rfl⟩
            rw [if_neg (by decide), if_neg (by decide)]
            go_wp2_with fail
            refine (HTN.out _).mono ?_
            rintro e w2 ⟨rfl, rfl⟩
            go_wp2_with fail
            refine (HTD.out _).mono ?_
            rintro e w3 ⟨rfl, rfl⟩
            go_wp2_with fail
            go_ret2
            exact ⟨_, false, rfl, HO.out.symm, fun h => Bool.noConfusion h, hB⟩
          · have HO : Hid (okW (n, v, d) = true) := by unfold Hid; rw [HOK.out, hn2, hd2, he2, HC.out]; rfl
            rw [hn2] at HTN
            rw [hd2] at HTD
            clear hn2 hd2 HOK he2 he
            clear hdl
            go_enter Tryd.func14, Tryd.ntmps14
            go_wp2_with fail
            refine (HQ.out _).mono ?_
            rintro e w1 ⟨rfl, rfl⟩
            rw [if_neg (by decide), if_neg (by decide)]
            go_wp2_with fail
            refine (HTN.out _).mono ?_
            rintro e w2 ⟨rfl, rfl⟩
            go_wp2_with fail
            refine (HTD.out _).mono ?_
            rintro e w3 ⟨rfl, rfl⟩
            go_wp2_with fail
            go_ret2
            exact ⟨_, true, rfl, HO.out.symm, fun _ => HS.out, hB⟩
    · have HO : Hid (okW (n, v, d) = false) := by unfold Hid; rw [HOK.out, hc]; simp
      rw [hc] at HQ
      clear hv0 hc HOK hdl
      go_enter Tryd.func14, Tryd.ntmps14
      go_wp2_with fail
      refine (HQ.out _).mono ?_
      rintro e w1 ⟨rfl, rfl⟩
      rw [if_pos trivial, if_pos trivial]
      go_wp2_with fail
      go_ret2
      exact ⟨_, false, rfl, HO.out.symm, fun h => Bool.noConfusion h, hB⟩

end Go.Proofs.YtkakinakjnpbjaaDoor
