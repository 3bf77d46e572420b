/- The walk of the document's Languages. -/
import Derived.Test.YtgnpeggffeoenaaDoorQc
import Derived.Test.YtgnpeggffeoenaaDoorSa
import Derived.Test.YtgnpeggffeoenaaDoorWe
import Derived.Test.YtgnpeggffeoenaaDoorWf
import Derived.Maps.AppendAt
namespace Go.Proofs.YtgnpeggffeoenaaDoor
set_option linter.unusedVariables false
set_option linter.unusedSimpArgs false
open Go.RowKit

theorem RowS.off {w w' : World} {a : Option Addr} {cap : Nat} {P : List (List UInt8)} {r : Option Nat} (h : RowS w (.slice a P.length cap) P) (hg : w.grownBy w' r) (hne : ∀ g, a = some ⟨g, 0, none⟩ → some g ≠ r) : RowS w' (.slice a P.length cap) P := by
  obtain ⟨a', cap', h1, h2, h3⟩ := h
  cases h1
  refine ⟨a, cap, rfl, h2, fun k hk => ?_⟩
  obtain ⟨g, e, ⟨cur, hc⟩, c0⟩ := h3 k hk
  have hlt := (Array.getElem?_eq_some_iff.1 hc).1
  have hb := hg.block g hlt (hne g e)
  exact ⟨g, e, ⟨cur, hb.trans hc⟩, (World.cell?_of_block (w := w) (a := ⟨g, k, none⟩) hb).trans c0⟩
def kbL (l : List UInt8) (L : List (List UInt8)) : Bool := l.isEmpty || L.any (· == l)
theorem kb_snoc (l : List UInt8) (L : List (List UInt8)) (x : List UInt8) : kbL l (L ++ [x]) = (kbL l L || (x == l)) := by simp [kbL, Bool.or_assoc]
theorem kb_add {L : List (List UInt8)} {x : List UInt8} : addL L x = if kbL (lP x) L then L else L ++ [lP x] := by
  unfold addL
  have : (lP x = [] ∨ lP x ∈ L) ↔ kbL (lP x) L = true := by
    unfold kbL
    rw [Bool.or_eq_true, List.isEmpty_iff, List.any_eq_true]
    constructor
    · rintro (h | h)
      · exact Or.inl h
      · exact Or.inr ⟨_, h, by simp⟩
    · rintro (h | ⟨y, hy, h⟩)
      · exact Or.inl h
      · have : y = lP x := by simpa using h
        exact Or.inr (this ▸ hy)
  by_cases h : kbL (lP x) L = true
  · rw [if_pos (this.2 h), if_pos h]
  · rw [if_neg (fun g => h (this.1 g)), if_neg h]
theorem fold_next {P : List (List UInt8)} {k : Nat} (h : k < P.length) : (P.take (k + 1)).foldl addL [] = addL ((P.take k).foldl addL []) P[k] := by
  rw [List.take_succ_eq_append_getElem h, List.foldl_append, List.foldl_cons, List.foldl_nil]
theorem fold_count : ∀ (ps acc : List (List UInt8)), (ps.foldl addL acc).length ≤ acc.length + ps.length
  | [], acc => by simp
  | p :: ps, acc => by
    rw [List.foldl_cons]
    have h := fold_count ps (addL acc p)
    have h2 : (addL acc p).length ≤ acc.length + 1 := by unfold addL; split <;> simp
    simp; omega

set_option maxRecDepth 100000 in
set_option maxHeartbeats 4000000 in
theorem reflanguages_any (s : ByteArray) (w : World) (hs : s.size ≤ 10000) :
    Calls Tryd.prog 21 #[.string s] w fun e w' => ∃ v, e = .returned v ∧ w'.ownsRow w.heap.size 9 1 v (lgL s.data.toList).length (strs (lgL s.data.toList)) ∧ Below w.heap.size w w' := by
  obtain ⟨i0, hi0, hz0, hz1, hz2⟩ := info_parts Tryd.info9
  have hb0 := one_alloc w #[] 9
  have ho0 : (w.alloc (.cells #[] 9)).ownsRow w.heap.size 9 1 (.slice (some ⟨w.heap.size, 0, none⟩) 0 0) 0 (strs []) := World.ownsRow_lit w #[] 0 (Nat.le_refl _) (by decide) rfl
  have hc := refsplit_any s 44 (w.alloc (.cells #[] 9)) (by omega)
  have HQ : Hid (lgL s.data.toList = (splB 44 s.data.toList).foldl addL []) := rfl
  have hlen := splB_len 44 s.data.toList
  rw [size_list] at hlen
  have HPT := hide (splB_part 44 s.data.toList)
  rw [size_list] at HPT
  generalize splB 44 s.data.toList = P at hc HQ hlen HPT
  go_enter Tryd.func21, Tryd.ntmps21
  go_wp2_with fail
  refine hc.mono ?_
  rintro e w1 ⟨vS, rfl, hS, hb1⟩
  have hrs := RowS.of hS
  have HOF : Hid (∀ g, vS.ownBlock = some g → w.heap.size + 1 ≤ g) := by
    intro g hg
    have h := (World.ownsRow.lt hS g hg).1
    simpa using h
  obtain ⟨aS, cS, rfl, hcS, hRS⟩ := hrs
  have HRS : Hid (RowS w1 (.slice aS P.length cS) P) := ⟨aS, cS, rfl, hcS, hRS⟩
  have HNE : Hid (∀ g, aS = some ⟨g, 0, none⟩ → some g ≠ (Value.slice (some ⟨w.heap.size, 0, none⟩) 0 0).ownBlock ∧ (P ≠ [] → g < w1.heap.size)) := by
    intro g hg
    subst hg
    have h := HOF.out g rfl
    refine ⟨fun e => ?_, fun hP => ?_⟩
    · simp [Value.ownBlock] at e; omega
    · obtain ⟨g', e, ⟨cur, hc⟩, -⟩ := hRS 0 (List.length_pos_iff.2 hP)
      cases e
      exact (Array.getElem?_eq_some_iff.1 hc).1
  have ho1 := owns_below ho0 hb1
  have hB1 := hb0.trans (hb1.mono hb0.size)
  clear hS hRS hc ho0 hb0 hb1 HOF
  go_wp2_with fail
  go_loopw [3, 5, 6, 7, 8, 9, 10, 12, 17] (fun vv _ _ _ _ _ _ _ i wr => ∃ (vo : Value) (k : Nat), vv = vo ∧ k ≤ P.length ∧ i = .int .i64 k ∧ wr.ownsRow w.heap.size 9 1 vo ((P.take k).foldl addL []).length (strs ((P.take k).foldl addL [])) ∧ Below w.heap.size w wr ∧ Hid (RowS wr (.slice aS P.length cS) P) ∧ Hid (∀ g, aS = some ⟨g, 0, none⟩ → some g ≠ vo.ownBlock ∧ (P ≠ [] → g < wr.heap.size))) (fun _ _ _ _ _ _ _ _ i _ => P.length - (intOf i).toNat)
  case atStart => exact ⟨_, 0, rfl, Nat.zero_le _, rfl, ho1, hB1, HRS, HNE⟩
  case round =>
    clear HNE HRS
    obtain ⟨vo, k, rfl, hk, rfl, hown, hbr, hrs, hne⟩ := hrel
    have hsz := hbr.size
    by_cases hlt : k < P.length
    · have hltz : (k : Int) < P.length := by omega
      obtain ⟨a', cap', he, hc', hR'⟩ := hrs.out
      cases he
      obtain ⟨g, rfl, -, hcell⟩ := hR' k hlt
      have hPn : P ≠ [] := fun h => by rw [h] at hlt; simp at hlt
      have HNG := hide (hne.out g rfl)
      have HN : Hid ((P.take (k + 1)).foldl addL [] = if kbL (lP (P[k]'hlt)) ((P.take k).foldl addL []) then (P.take k).foldl addL [] else (P.take k).foldl addL [] ++ [lP (P[k]'hlt)]) := by
        unfold Hid; rw [fold_next hlt, kb_add]
      have hLc : ((P.take k).foldl addL []).length ≤ 10001 := by
        have := fold_count (P.take k) []
        rw [List.length_take] at this; simp at this; omega
      have hxl := HPT.out _ (List.getElem_mem hlt)
      generalize (P.take k).foldl addL [] = L at hown HN hLc
      generalize P[k]'hlt = x at hcell HN hxl
      clear hR' hne
      have hcu := refcut_any (bs x) 59 wr (by rw [bs_size]; omega)
      rw [bef_bs, aft_bs, has_bs] at hcu
      have h1 := bf_le 59 x
      have h2 := trimL_le (bfL 59 x)
      have hp1 := fun W => reftrim_any (bs (bfL 59 x)) W (by rw [bs_size]; omega)
      rw [trim_bs] at hp1
      have hp2 := fun W => reflower_any (bs (trimL (bfL 59 x))) W (by rw [bs_size]; omega)
      rw [low_bs, show bs (lowL (trimL (bfL 59 x))) = bs (lP x) from rfl] at hp2
      have hem := bs_empty (lP x)
      have htl := bs_toList (lP x)
      have HP1 := hide hp1
      have HP2 := hide hp2
      clear hp1 hp2 h1 h2
      generalize lP x = l at *
      generalize bs (bfL 59 x) = y1 at *
      generalize bs (afL 59 x) = y2 at *
      generalize bs (trimL (bfL 59 x)) = y3 at *
      generalize hvL 59 x = h at *
      obtain ⟨z, hz⟩ : ∃ z, bs l = z := ⟨_, rfl⟩
      rw [hz] at hem htl HP2
      have HZ := hide hz
      have HTL := hide htl
      have HEM := hide hem
      clear hz htl hem
      go_wp2_with fail
      refine hcu.mono ?_
      rintro e w2 ⟨rfl, n2, rfl⟩
      go_wp2_with fail
      refine (HP1.out _).mono ?_
      rintro e w3 ⟨rfl, rfl⟩
      go_wp2_with fail
      refine (HP2.out _).mono ?_
      rintro e w4 ⟨rfl, hb4⟩
      have hb34 : Below wr.heap.size wr w4 := (below_drewN (Below.refl wr.heap.size wr) n2).trans (hb4.mono (Nat.le_refl _))
      have hown4 := owns_below hown hb34
      have hB4 := hbr.trans (hb34.mono hbr.size)
      have HR4 := hide (RowS.below hrs.out hb34)
      have HG4 : Hid (g < w4.heap.size) := Nat.lt_of_lt_of_le (HNG.out.2 hPn) hb34.size
      clear hown hrs hb4 hb34 hcu HP1 HP2 hbr hcell
      obtain ⟨a, cap, rfl, hcap, hRC⟩ := row_shape hown4
      have HRC := hide hRC
      clear hRC
      have HK0 : Hid (z.toList.isEmpty = kbL l (L.take 0)) := by unfold Hid kbL; rw [HEM.out]; simp
      go_wp2_with fail
      go_loop [10, 12, 34] (fun vk _ i => ∃ j : Nat, j ≤ L.length ∧ i = .int .i64 j ∧ vk = .bool (kbL l (L.take j))) (fun _ _ i => L.length - (intOf i).toNat)
      case atStart => exact ⟨0, Nat.zero_le _, rfl, by rw [← HK0.out]⟩
      case round =>
        obtain ⟨j, hj, rfl, rfl⟩ := hrel
        by_cases hjl : j < L.length
        · have hjz : (j : Int) < L.length := by omega
          obtain ⟨ga, rfl, hga⟩ := HRC.out j hjl
          have HKS : Hid (kbL l (L.take (j + 1)) = (kbL l (L.take j) || (L.getD j [] == l))) := by
            unfold Hid
            rw [List.take_succ_eq_append_getElem hjl, kb_snoc]
            simp [List.getD, hjl]
          have hcm : ((⟨(L.getD j []).toArray⟩ : ByteArray).toList == z.toList) = (L.getD j [] == l) := by
            rw [HTL.out]
            show ((bs (L.getD j [])).toList == l) = _
            rw [bs_toList]
          generalize (⟨(L.getD j []).toArray⟩ : ByteArray) = xj at hga hcm
          generalize kbL l (L.take j) = K at *
          cases K with
          | true =>
            have HK2 : Hid (kbL l (L.take (j + 1)) = true) := by unfold Hid; rw [HKS.out]; rfl
            clear HKS hcm
            go_wp2_with fail
            exact ⟨⟨j + 1, by omega, by go_num, by rw [HK2.out]⟩, by simp [intOf]; omega⟩
          | false =>
            cases hq : (L.getD j [] == l) with
            | true =>
              rw [hq] at hcm
              have HK2 : Hid (kbL l (L.take (j + 1)) = true) := by unfold Hid; rw [HKS.out, hq]; rfl
              clear HKS hq
              go_wp2_with fail
              exact ⟨⟨j + 1, by omega, by go_num, by rw [HK2.out]⟩, by simp [intOf]; omega⟩
            | false =>
              rw [hq] at hcm
              have HK2 : Hid (kbL l (L.take (j + 1)) = false) := by unfold Hid; rw [HKS.out, hq]; rfl
              clear HKS hq
              go_wp2_with fail
              exact ⟨⟨j + 1, by omega, by go_num, by rw [HK2.out]⟩, by simp [intOf]; omega⟩
        · have hd : decide ((j : Int) < L.length) = false := decide_eq_false (by omega)
          rw [List.take_of_length_le (by omega)]
          cases hK : kbL l L with
          | true =>
            have HN2 : Hid ((P.take (k + 1)).foldl addL [] = L) := by unfold Hid; rw [HN.out, hK]; rfl
            clear HN HRC
            go_wp2_with fail
            refine ⟨⟨_, k + 1, rfl, by omega, by go_num, by rw [HN2.out]; exact hown4, hB4, HR4, ?_⟩, by simp [intOf]; omega⟩
            intro g' hg'
            cases hg'
            exact ⟨HNG.out.1, fun _ => HG4.out⟩
          | false =>
            have HN2 : Hid ((P.take (k + 1)).foldl addL [] = L ++ [l]) := by unfold Hid; rw [HN.out, hK]; rfl
            have hla := hB4.alloc hB4.size (.cells #[.string z] 9)
            have hoa := hown4.alloc (.cells #[.string z] 9)
            have h63 : L.length + 1 ≤ maxLen := maxLen_of (by omega)
            have hby : (L.length + 1) * 16 ≤ 140737488355328 := by omega
            have hbs4 := hB4.size
            have hba : w.heap.size ≤ (w4.alloc (.cells #[.string z] 9)).heap.size := by simp; omega
            have hce : ∀ j u, [Value.string z][j]? = some u → (w4.alloc (.cells #[.string z] 9)).cell? ((⟨w4.heap.size, 0, none⟩ : Addr).add j) = some u := by
              intro j u hj
              rw [add_none, Nat.zero_add, World.cell?_alloc_new]
              simpa using hj
            have HRA := hide (RowS.below HR4.out (one_alloc w4 #[.string z] 9))
            have HX := hide (And.intro h63 (And.intro hby (And.intro hba (And.intro hce (And.intro hla hoa)))))
            clear h63 hby hba hce hla hoa hown4 hB4 HN HRC
            go_wp2_with (at_builtin; refine wpList_append_own_at _ rfl (.tmp 47) (.tmp 49) 33 rfl w.heap.size 9 i0 _ 1 16 Tryd.underlying33 hi0 hz0 hz1 hz2 rfl (by decide) _ _ _ rfl HX.out.2.2.2.2.2 ⟨w4.heap.size, 0, none⟩ 1 1 [.string z] rfl rfl HX.out.2.2.2.1 (by intro u hu; simp at hu; subst hu; rfl) HX.out.1 HX.out.2.1 HX.out.2.2.1 ?_; intro v' w5 ho5 hg5 _ hat5)
            have hl5 := HX.out.2.2.2.2.1.grown hg5 HX.out.2.2.1 (fun j hj => (HX.out.2.2.2.2.2.lt j hj).1)
            refine ⟨⟨_, k + 1, rfl, by omega, by go_num, ?_, hl5, ?_, ?_⟩, by simp [intOf]; omega⟩
            · rw [HN2.out, List.length_append, strs_append, show strs [l] = [.string z] from by rw [← HZ.out]; rfl]; exact ho5
            · exact RowS.off HRA.out hg5 (fun g' hg' => by cases hg'; exact HNG.out.1)
            · intro g' hg'
              cases hg'
              refine ⟨?_, fun _ => ?_⟩
              · rcases hat5 with h | h
                · rw [h]; exact HNG.out.1
                · rw [h]; intro e; have := HG4.out; simp at e; omega
              · have h1 := hg5.size
                have h2 := HG4.out
                simp at h1; omega
    · have hd : decide ((k : Int) < P.length) = false := decide_eq_false (by omega)
      rw [List.take_of_length_le (by omega)] at hown
      go_wp2_with fail
      go_ret
      exact ⟨_, rfl, by rw [HQ.out]; exact hown, hbr⟩

end Go.Proofs.YtgnpeggffeoenaaDoor
