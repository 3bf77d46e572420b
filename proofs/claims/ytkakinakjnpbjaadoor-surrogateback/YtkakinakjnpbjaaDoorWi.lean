/- The walks of unquoting, and of the document's own quoting and unquoting. -/
import Derived.Test.YtkakinakjnpbjaaDoorWh
namespace Go.Proofs.YtkakinakjnpbjaaDoor
set_option linter.unusedVariables false
set_option maxRecDepth 100000
set_option linter.unusedSimpArgs false
open Go.RowKit

theorem st_back {m : List UInt8} {k : Nat} (hk : k < m.length) (h : m[k] = 92) (hq : qlen (m.drop k ++ [34]) = some (m.length - k)) :
    ∃ h1 : k + 1 < m.length, unescL (m.drop k) = m[k + 1] :: unescL (m.drop (k + 2)) ∧ qlen (m.drop (k + 2) ++ [34]) = some (m.length - (k + 2)) ∧ (m.drop k).any ctrlB = (ctrlB m[k + 1] || (m.drop (k + 2)).any ctrlB) := by
  rw [List.drop_eq_getElem_cons hk, h, List.cons_append, qlen_back] at hq
  by_cases h1 : k + 1 < m.length
  · rw [List.drop_eq_getElem_cons h1, List.cons_append, List.drop_one, List.tail_cons] at hq
    refine ⟨h1, ?_, ?_, ?_⟩
    · rw [List.drop_eq_getElem_cons hk, h, List.drop_eq_getElem_cons h1, unescL_back]
    · have hq' : Option.map (· + 2) (qlen (m.drop (k + 2) ++ [34])) = some (m.length - k) := hq
      cases hr : qlen (m.drop (k + 2) ++ [34]) with
      | none => rw [hr] at hq'; simp at hq'
      | some n =>
        rw [hr] at hq'
        have : n + 2 = m.length - k := by simpa using hq'
        congr 1; omega
    · rw [List.drop_eq_getElem_cons hk, h, List.drop_eq_getElem_cons h1, List.any_cons, List.any_cons, show ctrlB 92 = false by decide, Bool.false_or]
  · have e : m.drop (k + 1) = [] := List.drop_eq_nil_of_le (by omega)
    rw [e] at hq
    simp [qlen_nil] at hq
theorem st_else {m : List UInt8} {k : Nat} (hk : k < m.length) (h : m[k] ≠ 92) (hq : qlen (m.drop k ++ [34]) = some (m.length - k)) :
    unescL (m.drop k) = m[k] :: unescL (m.drop (k + 1)) ∧ qlen (m.drop (k + 1) ++ [34]) = some (m.length - (k + 1)) ∧ (m.drop k).any ctrlB = (ctrlB m[k] || (m.drop (k + 1)).any ctrlB) := by
  rw [List.drop_eq_getElem_cons hk, List.cons_append] at hq
  refine ⟨?_, ?_, ?_⟩
  · rw [List.drop_eq_getElem_cons hk, unescL_else _ h]
  · by_cases h2 : m[k] = 34
    · rw [h2, qlen_quote] at hq
      have := Option.some.inj hq
      omega
    · rw [qlen_else _ h2 h] at hq
      cases hr : qlen (m.drop (k + 1) ++ [34]) with
      | none => rw [hr] at hq; simp at hq
      | some n =>
        rw [hr] at hq
        have : n + 1 = m.length - k := by simpa using hq
        congr 1; omega
  · rw [List.drop_eq_getElem_cons hk, List.any_cons]

def uE (s : ByteArray) : Nat := if quoB s then 0 else 11
def uS (s : ByteArray) : ByteArray := if quoB s then ⟨(unescL (midL s.data.toList)).toArray⟩ else ⟨#[]⟩

/-- The text between the first and the last byte. -/
theorem mid_cut {s : ByteArray} (h : 2 ≤ s.size) : (s.extract 1 (s.size - 1)).data.toList = midL s.data.toList := by
  rw [ByteArray.data_extract, Array.toList_extract, List.extract_eq_take_drop, midL, size_list, show s.size - 1 - 1 = s.size - 2 by omega]

theorem quo_parts {s : ByteArray} (h : s.data.toList.head? = some 34) (g : clS s 1 + 1 = s.size) : 2 ≤ s.size ∧ qlen (midL s.data.toList ++ [34]) = some (midL s.data.toList).length ∧ s.data.toList = 34 :: (midL s.data.toList ++ [34]) := by
  have := cl_one_lt (l := s.data.toList) (by rw [size_list]; exact g) h
  rwa [size_list] at this

set_option maxHeartbeats 2000000 in
theorem unquote_any (s : ByteArray) (w : World) (hs : s.size ≤ 1000000) :
    Calls Tryd.prog 47 #[.string s] w fun e w' => e = .returned (.tuple #[.string (uS s), .int .i64 (uE s : Nat)]) ∧ Below w.heap.size w w' := by
  cases hq : quoB s
  · have HU : Hid (uS s = ⟨#[]⟩ ∧ uE s = 11) := by unfold Hid uS uE; rw [hq]; simp
    go_enter Tryd.func47, Tryd.ntmps47
    go_wp2_with fail
    refine (quoted_any s w hs).mono ?_
    rintro e w1 ⟨rfl, hb1⟩
    rw [hq]
    go_wp2_with fail
    go_ret2
    exact ⟨ret_pair HU.out.1.symm (by rw [HU.out.2]; rfl), hb1⟩
  · have HU : Hid (uS s = ⟨(unescL (midL s.data.toList)).toArray⟩ ∧ uE s = 0) := by unfold Hid uS uE; rw [hq]; simp
    have hqq := hq
    unfold quoB quotedL at hqq
    simp only [Bool.and_eq_true, decide_eq_true_eq] at hqq
    obtain ⟨h2, hql, -⟩ := quo_parts hqq.1.1 (by rw [← size_list]; exact hqq.1.2)
    clear hqq
    have hmc := mid_cut h2
    obtain ⟨x, hx⟩ : ∃ x, s.extract 1 (s.size - 1) = x := ⟨_, rfl⟩
    have hxs : x.size = s.size - 2 := by rw [← hx, ByteArray.size_extract]; omega
    rw [hx] at hmc
    rw [← hmc] at hql HU
    have HQL := hide hql
    have HX := hide hx
    have HZ : Hid (x.data.toList.length = x.size) := by unfold Hid; simp
    clear hql hmc hx
    obtain ⟨n, hn⟩ : ∃ n, s.size - 1 = n := ⟨_, rfl⟩
    rw [hn] at HX
    have hnz : (s.size : Int) - 1 = (n : Int) := by omega
    have hn1 : 1 ≤ n := by omega
    have hn2 : n ≤ s.size := by omega
    clear hn
    obtain ⟨i0, hi0, hz0, hz1, hz2⟩ := info_parts Tryd.info5
    go_enter Tryd.func47, Tryd.ntmps47
    go_wp2_with fail
    refine (quoted_any s w hs).mono ?_
    rintro e w1 ⟨rfl, hb1⟩
    rw [hq]
    have hxx := HX.out
    go_wp2_with fail
    clear hxx
    go_loopw [5, 6] (fun v i wr => ∃ (k : Nat) (F : List UInt8), k ≤ x.size ∧ i = .int .i64 k ∧ F.length ≤ k ∧ wr.ownsRow w.heap.size 5 1 v F.length (u8s F) ∧ Below w.heap.size w wr ∧ Hid (unescL x.data.toList = F ++ unescL (x.data.toList.drop k)) ∧ Hid (qlen (x.data.toList.drop k ++ [34]) = some (x.data.toList.length - k))) (fun _ i _ => x.size - (intOf i).toNat)
    case atStart => exact ⟨0, [], Nat.zero_le _, rfl, Nat.le_refl _, World.ownsRow_nil _ _ _ _, hb1, by simp [Hid], by unfold Hid; simpa using HQL.out⟩
    case round =>
      obtain ⟨k, F, hk, rfl, hF, hown, hbr, hun, hqk⟩ := hrel
      by_cases hlt : k < x.size
      · have hltz : (k : Int) < x.size := by omega
        have HKL : Hid (k < x.data.toList.length) := by unfold Hid; rw [HZ.out]; exact hlt
        have hsz := hbr.size
        by_cases h92 : x[k]'hlt = 92
        · obtain ⟨hk1, hu1, hq1, -⟩ := st_back HKL.out (by rw [get_at x k hlt]; exact h92) hqk.out
          have hk1s : k + 1 < x.size := by rw [← HZ.out]; exact hk1
          have hk1z : (k : Int) + 1 < x.size := by omega
          rw [get_at x (k + 1) hk1s] at hu1
          have HU1 := hide hu1
          have HQ1 := hide hq1
          have hb92 : (((x[k]'hlt).toNat : Int) == 92) = true := by have := u8_beq (x[k]'hlt) 92; rw [decide_eq_true h92] at this; exact this
          clear hu1 hq1 h92 hk1
          obtain ⟨c, hc⟩ : ∃ c, x[k + 1] = c := ⟨_, rfl⟩
          rw [hc] at HU1
          have hla := hbr.alloc hsz (.cells #[.int .u8 (c.toNat : Int)] 5)
          have hoa := hown.alloc (.cells #[.int .u8 (c.toNat : Int)] 5)
          have h63 : F.length + 1 ≤ maxLen := maxLen_of (by omega)
          have hby : (F.length + 1) * 1 ≤ 140737488355328 := by omega
          have hba : w.heap.size ≤ (wr.alloc (.cells #[.int .u8 (c.toNat : Int)] 5)).heap.size := by simp; omega
          have hce : ∀ j u, [Value.int .u8 (c.toNat : Int)][j]? = some u → (wr.alloc (.cells #[.int .u8 (c.toNat : Int)] 5)).cell? ((⟨wr.heap.size, 0, none⟩ : Addr).add j) = some u := by
            intro j u hj
            rw [add_none, Nat.zero_add, World.cell?_alloc_new]
            simpa using hj
          have HX := hide (And.intro h63 (And.intro hby (And.intro hba (And.intro hce (And.intro hla hoa)))))
          clear h63 hby hba hce hla hoa hown hbr
          go_wp2_with (at_builtin; refine wpList_append_own _ rfl (.tmp 27) (.tmp 31) 48 rfl w.heap.size 5 i0 (.int .u8 0) 1 1 Tryd.underlying48 hi0 hz0 hz1 hz2 rfl (by decide) _ _ _ rfl HX.out.2.2.2.2.2 ⟨wr.heap.size, 0, none⟩ 1 1 [.int .u8 (c.toNat : Int)] rfl rfl HX.out.2.2.2.1 (by intro u hu; simp at hu; subst hu; rfl) HX.out.1 HX.out.2.1 HX.out.2.2.1 ?_; intro v' w2 ho2 hg2 _)
          have hl2 := HX.out.2.2.2.2.1.grown hg2 HX.out.2.2.1 (fun j hj => (HX.out.2.2.2.2.2.lt j hj).1)
          refine ⟨⟨k + 2, F ++ [c], by omega, by go_num, by simp; omega, ?_, hl2, ?_, HQ1⟩, by simp [intOf]; omega⟩
          · rw [List.length_append, u8s_append]; exact ho2
          · unfold Hid; rw [hun.out, HU1.out]; simp
        · obtain ⟨hu1, hq1, -⟩ := st_else HKL.out (by rw [get_at x k hlt]; exact h92) hqk.out
          rw [get_at x k hlt] at hu1
          have HU1 := hide hu1
          have HQ1 := hide hq1
          have hb92 : (((x[k]'hlt).toNat : Int) == 92) = false := by have := u8_beq (x[k]'hlt) 92; rw [decide_eq_false h92] at this; exact this
          clear hu1 hq1 h92
          obtain ⟨c, hc⟩ : ∃ c : UInt8, x[k]'hlt = c := ⟨_, rfl⟩
          rw [hc] at HU1 hb92
          have hla := hbr.alloc hsz (.cells #[.int .u8 (c.toNat : Int)] 5)
          have hoa := hown.alloc (.cells #[.int .u8 (c.toNat : Int)] 5)
          have h63 : F.length + 1 ≤ maxLen := maxLen_of (by omega)
          have hby : (F.length + 1) * 1 ≤ 140737488355328 := by omega
          have hba : w.heap.size ≤ (wr.alloc (.cells #[.int .u8 (c.toNat : Int)] 5)).heap.size := by simp; omega
          have hce : ∀ j u, [Value.int .u8 (c.toNat : Int)][j]? = some u → (wr.alloc (.cells #[.int .u8 (c.toNat : Int)] 5)).cell? ((⟨wr.heap.size, 0, none⟩ : Addr).add j) = some u := by
            intro j u hj
            rw [add_none, Nat.zero_add, World.cell?_alloc_new]
            simpa using hj
          have HX := hide (And.intro h63 (And.intro hby (And.intro hba (And.intro hce (And.intro hla hoa)))))
          clear h63 hby hba hce hla hoa hown hbr
          go_wp2_with (at_builtin; refine wpList_append_own _ rfl (.tmp 27) (.tmp 31) 48 rfl w.heap.size 5 i0 (.int .u8 0) 1 1 Tryd.underlying48 hi0 hz0 hz1 hz2 rfl (by decide) _ _ _ rfl HX.out.2.2.2.2.2 ⟨wr.heap.size, 0, none⟩ 1 1 [.int .u8 (c.toNat : Int)] rfl rfl HX.out.2.2.2.1 (by intro u hu; simp at hu; subst hu; rfl) HX.out.1 HX.out.2.1 HX.out.2.2.1 ?_; intro v' w2 ho2 hg2 _)
          have hl2 := HX.out.2.2.2.2.1.grown hg2 HX.out.2.2.1 (fun j hj => (HX.out.2.2.2.2.2.lt j hj).1)
          refine ⟨⟨k + 1, F ++ [c], by omega, by go_num, by simp; omega, ?_, hl2, ?_, HQ1⟩, by simp [intOf]; omega⟩
          · rw [List.length_append, u8s_append]; exact ho2
          · unfold Hid; rw [hun.out, HU1.out]; simp
      · have hd : decide ((k : Int) < x.size) = false := decide_eq_false (by omega)
        have hcv := conv_own hown
        have HF : Hid (unescL x.data.toList = F) := by
          unfold Hid
          rw [hun.out, List.drop_eq_nil_of_le (by rw [HZ.out]; omega), unescL_nil, List.append_nil]
        clear hown
        go_wp2_with fail
        go_ret2
        exact ⟨ret_pair (by rw [HU.out.1, HF.out]) (by rw [HU.out.2]; rfl), hbr⟩

end Go.Proofs.YtkakinakjnpbjaaDoor
