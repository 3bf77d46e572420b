/- The walk of SurrogateBack. -/
import Derived.Test.YtkakinakjnpbjaaDoorLj
import Derived.Test.YtkakinakjnpbjaaDoorFk
namespace Go.Proofs.YtkakinakjnpbjaaDoor
set_option linter.unusedVariables false
set_option linter.unusedSimpArgs false
open Go.RowKit

/-- A word of texts as a word of lists. -/
def unF (f : Fd) : W3 := (f.1.data.toList, f.2.1.data.toList, f.2.2.data.toList)
theorem toF_low (f : Fd) : toF (loW (unF f)) = (lowS f.1, f.2.1, f.2.2) := by
  unfold toF unF loW
  simp only [bs_data]
  rw [show lowS f.1 = bs (lowL f.1.data.toList) from rfl]
theorem next_none (x : W3) : bs (nextL [] x) = bs [] ++ bs (wrL x) := by rw [cat_bs]; rfl
theorem next_some {a : List UInt8} (h : a ≠ []) (x : W3) : bs (nextL a x) = bs a ++ (⟨#[32, 44, 44, 32]⟩ : ByteArray) ++ bs (wrL x) := by
  show _ = bs a ++ bs [32, 44, 44, 32] ++ bs (wrL x)
  rw [cat_bs, cat_bs]; unfold nextL; rw [if_neg h]

/-- What is kept while words are written one behind the other: the text so far, and what it is read as. -/
structure Wr (a : List UInt8) (M : List W3) (n : Nat) : Prop where
  rd : rdL a = some M
  em : a = [] → M = []
  la : a.length ≤ n * 2000
  lm : M.length ≤ n
theorem Wr.start : Wr [] [] 0 := ⟨rdL_nil, fun _ => rfl, Nat.zero_le _, Nat.le_refl _⟩
theorem Wr.next {a : List UInt8} {M : List W3} {n : Nat} {x : W3} (h : Wr a M n) (ho : okW x = true) (h1 : x.1.length ≤ 400) (h2 : x.2.1.length ≤ 400) (h3 : x.2.2.length ≤ 400) : Wr (nextL a x) (M ++ [loW x]) (n + 1) := by
  obtain ⟨r1, r2⟩ := rd_nextL h.rd ho h.em
  have e1 := next_len a x
  have e2 := wr_len x
  have e3 := h.la
  have e4 := h.lm
  exact ⟨r1, r2, by omega, by rw [List.length_append]; simp only [List.length_cons, List.length_nil]; omega⟩
theorem Wr.le {a : List UInt8} {M : List W3} {n m : Nat} (h : Wr a M n) (hm : n ≤ m) : Wr a M m := ⟨h.rd, h.em, Nat.le_trans h.la (Nat.mul_le_mul_right 2000 hm), Nat.le_trans h.lm hm⟩

theorem Tri.drew {W : World} {N : Nat} {x y z : ByteArray} (h : Tri W N x y z) : Tri W.drew N x y z := ⟨h.c0, h.c1, h.c2, h.f0, h.f1, h.f2⟩

set_option maxRecDepth 100000 in
set_option maxHeartbeats 8000000 in
theorem back_walk (L : List Fd) (ad : Option Addr) (cap : Nat) (w : World) (hrow : Row w (.slice ad L.length cap) L) (hcap : cap ≤ maxLen) (hsz : ∀ f ∈ L, f.1.size ≤ maxLen ∧ f.2.1.size ≤ maxLen ∧ f.2.2.size ≤ maxLen) :
    Calls Tryd.prog 4 #[.slice ad L.length cap] w fun e w' => e = .returned (.bool true) ∧ Below w.heap.size w w' := by
  obtain ⟨ad', cap', hv, hcap', hR⟩ := hrow
  obtain ⟨rfl, rfl⟩ : ad = ad' ∧ cap = cap' := by cases hv; exact ⟨rfl, rfl⟩
  clear hv
  have HR := hide hR
  have HZ := hide hsz
  have hlm : L.length ≤ maxLen := by omega
  have HLM : Hid ((L.length : Int) ≤ 9223372036854775807) := by unfold Hid; unfold maxLen at hlm; omega
  obtain ⟨i0, hi0, hz0, hz1, hz2⟩ := info_parts Tryd.info31
  clear hR hsz
  go_enter Tryd.func4, Tryd.ntmps4
  go_wp2_with fail
  go_loopw [3, 4, 13] (fun p v i wr => ∃ (k : Nat) (a : List UInt8) (M : List W3), k ≤ L.length ∧ i = .int .i64 k ∧ p = .string (bs a) ∧ Wr a M (min k 8) ∧ Own wr w.heap.size v (M.map toF) ∧ Below w.heap.size w wr) (fun _ _ i _ => L.length - (intOf i).toNat)
  case atStart => exact ⟨0, [], [], Nat.zero_le _, rfl, rfl, Wr.start, own_nil _ _, Below.refl _ _⟩
  case round =>
    obtain ⟨k, a, M, hk, rfl, rfl, hW, hown, hbr⟩ := hrel
    have hszr := hbr.size
    by_cases hlt : k < L.length
    · have hltz : (k : Int) < L.length := by omega
      have hkz : (k : Int) + 1 ≤ 9223372036854775807 := by have := HLM.out; omega
      obtain ⟨g, off, rfl, hg, r0, r1, r2⟩ := HR.out k hlt
      rw [← (stays hbr).1 _ _ hg] at r0 r1 r2
      obtain ⟨z0, z1, z2⟩ := HZ.out L[k] (List.getElem_mem hlt)
      obtain ⟨x, hx⟩ : ∃ x, L[k]'hlt = x := ⟨_, rfl⟩
      rw [hx] at r0 r1 r2 z0 z1 z2
      clear hx
      obtain ⟨x0, x1, x2⟩ := x
      simp only at r0 r1 r2 z0 z1 z2
      have hbA := one_alloc wr #[.string x0, .string x1, .string x2] 31
      have hT0 := Tri.new wr x0 x1 x2
      have ho0 : Own (wr.alloc (.cells #[.string x0, .string x1, .string x2] 31)) w.heap.size _ (M.map toF) := World.ownsRow.alloc hown _
      have hb0 := hbr.alloc hszr (.cells #[.string x0, .string x1, .string x2] 31)
      have hBl : wr.heap.size < (wr.alloc (.cells #[.string x0, .string x1, .string x2] 31)).heap.size := by simp
      have hne : some wr.heap.size ≠ u4.ownBlock := fun e => by have := (World.ownsRow.lt hown _ e.symm).2; omega
      go_wp2_with fail
      generalize wr.alloc (.cells #[.string x0, .string x1, .string x2] 31) = w1 at *
      generalize wr.heap.size = B at *
      have c0 := hT0.c0
      have c1 := hT0.c1
      have c2 := hT0.c2
      have hS0 : Tri w1.drew B x0 x1 x2 := ⟨hT0.c0, hT0.c1, hT0.c2, hT0.f0, hT0.f1, hT0.f2⟩
      clear c0 c1 c2
      refine region_upTo 10 10 10 (fun w' => Tri w' B x0 x1 x2) (fun w' => Tri w' B x0 x1 x2) (fun w' => Tri w' B x0 x1 x2) (by kernel_rfl) ⟨hS0, hS0, hS0⟩ (fun hH0 => ?_)
      refine upTo_take 10 (S := (fun w' => Tri w' B x0 x1 x2)) (i := 0) (oi := _) (v := .pointer (some ⟨B, 0, none⟩)) rfl (by kernel_rfl) (by kernel_rfl) (by kernel_rfl) (fun _ _ _ h => h) (by decide) (by kernel_rfl) (by kernel_rfl) (fun l w1 hh g => hh.h1 g) hH0 (Or.inl ⟨by rfl, fun wS hSw => by have hL := hSw.c0; go_simp⟩) (fun hH1 => ?_)
      simp only [Act.put, List.getElem_toArray, List.getElem_cons_zero, List.getElem_cons_succ, List.setIfInBounds_toArray, List.set_cons_zero, List.set_cons_succ]
      refine upTo_take 10 (S := (fun w' => Tri w' B x0 x1 x2)) (i := 1) (oi := _) (v := .string x0) rfl (by kernel_rfl) (by kernel_rfl) (by kernel_rfl) (fun _ _ _ h => h) (by decide) (by kernel_rfl) (by kernel_rfl) (fun l w1 hh g => hh.h1 g) hH1 (Or.inl ⟨by rfl, fun wS hSw => by have hL := hSw.c0; go_simp⟩) (fun hH2 => ?_)
      simp only [Act.put, List.getElem_toArray, List.getElem_cons_zero, List.getElem_cons_succ, List.setIfInBounds_toArray, List.set_cons_zero, List.set_cons_succ]
      refine upTo_take 10 (S := (fun w' => Tri w' B x0 x1 x2)) (i := 3) (oi := _) (v := .pointer (some ⟨B, 1, none⟩)) rfl (by kernel_rfl) (by kernel_rfl) (by kernel_rfl) (fun _ _ _ h => h) (by decide) (by kernel_rfl) (by kernel_rfl) (fun l w1 hh g => hh.h1 g) hH2 (Or.inl ⟨by rfl, fun wS hSw => by have hL := hSw.c1; go_simp⟩) (fun hH3 => ?_)
      simp only [Act.put, List.getElem_toArray, List.getElem_cons_zero, List.getElem_cons_succ, List.setIfInBounds_toArray, List.set_cons_zero, List.set_cons_succ]
      refine upTo_take 10 (S := (fun w' => Tri w' B x0 x1 x2)) (i := 4) (oi := _) (v := .string x1) rfl (by kernel_rfl) (by kernel_rfl) (by kernel_rfl) (fun _ _ _ h => h) (by decide) (by kernel_rfl) (by kernel_rfl) (fun l w1 hh g => hh.h1 g) hH3 (Or.inl ⟨by rfl, fun wS hSw => by have hL := hSw.c1; go_simp⟩) (fun hH4 => ?_)
      simp only [Act.put, List.getElem_toArray, List.getElem_cons_zero, List.getElem_cons_succ, List.setIfInBounds_toArray, List.set_cons_zero, List.set_cons_succ]
      refine upTo_take 10 (S := (fun w' => Tri w' B x0 x1 x2)) (i := 6) (oi := _) (v := .pointer (some ⟨B, 2, none⟩)) rfl (by kernel_rfl) (by kernel_rfl) (by kernel_rfl) (fun _ _ _ h => h) (by decide) (by kernel_rfl) (by kernel_rfl) (fun l w1 hh g => hh.h1 g) hH4 (Or.inl ⟨by rfl, fun wS hSw => by have hL := hSw.c2; go_simp⟩) (fun hH5 => ?_)
      simp only [Act.put, List.getElem_toArray, List.getElem_cons_zero, List.getElem_cons_succ, List.setIfInBounds_toArray, List.set_cons_zero, List.set_cons_succ]
      refine upTo_take 10 (S := (fun w' => Tri w' B x0 x1 x2)) (i := 7) (oi := _) (v := .string x2) rfl (by kernel_rfl) (by kernel_rfl) (by kernel_rfl) (fun _ _ _ h => h) (by decide) (by kernel_rfl) (by kernel_rfl) (fun l w1 hh g => hh.h1 g) hH5 (Or.inl ⟨by rfl, fun wS hSw => by have hL := hSw.c2; go_simp⟩) (fun hH6 => ?_)
      simp only [Act.put, List.getElem_toArray, List.getElem_cons_zero, List.getElem_cons_succ, List.setIfInBounds_toArray, List.set_cons_zero, List.set_cons_succ]
      refine upTo_run (i := 2) (o := _) (by kernel_rfl) rfl (fun K hK => ?_)
      go_simp
      refine (short_any x0 w1.drew z0).mono ?_
      rintro e wX ⟨t0, rfl, q0, rfl⟩
      refine hK.out _ _ (hH6.on (by decide) (by decide) (by decide)) (fun hH7 => ?_)
      clear hK K
      refine upTo_run (i := 5) (o := _) (by kernel_rfl) rfl (fun K hK => ?_)
      go_simp
      refine (short_any x1 w1.drew z1).mono ?_
      rintro e wX ⟨t1, rfl, q1, rfl⟩
      refine hK.out _ _ (hH7.on (by decide) (by decide) (by decide)) (fun hH8 => ?_)
      clear hK K
      refine upTo_run (i := 8) (o := _) (by kernel_rfl) rfl (fun K hK => ?_)
      go_simp
      refine (short_any x2 w1.drew z2).mono ?_
      rintro e wX ⟨t2, rfl, q2, rfl⟩
      refine hK.out _ _ (hH8.on (by decide) (by decide) (by decide)) (fun hH9 => ?_)
      clear hK K
      refine upTo_run (i := 9) (o := _) (by kernel_rfl) rfl (fun K hK => ?_)
      go_simp
      refine hK.out _ _ (hH9.on (by decide) (by decide) (by decide)) (fun hH10 => ?_)
      clear hK K
      have hT2 := (((hT0.set0 t0).set1 t1).set2 t2).drew
      obtain ⟨c0, c1, c2, f0, f1, f2⟩ := hT0
      refine upTo_run (i := 10) (o := _) (by kernel_rfl) rfl (fun K hK => ?_)
      go_simp
      refine hK.out _ _ (⟨fun g => Bool.noConfusion (show true = false from g), fun g => Bool.noConfusion (show true = false from g), fun g => Bool.noConfusion (show true = false from g)⟩) (fun hH11 => ?_)
      clear hK K
      refine upTo_done (by kernel_rfl) ?_ _
      have hB0 : w.heap.size ≤ B := hszr
      have hb2 := (set3 hb0 B hB0 (.string t0) (.string t1) (.string t2)).drew
      have ho2 : Own (((w1.setCell ⟨B, 0, none⟩ (.string t0)).setCell ⟨B, 1, none⟩ (.string t1)).setCell ⟨B, 2, none⟩ (.string t2)).drew w.heap.size u4 (M.map toF) :=
        ownsRow_setCell_other (ownsRow_setCell_other (ownsRow_setCell_other ho0 (a := ⟨B, 0, none⟩) (fun e => hne e.symm) _) (a := ⟨B, 1, none⟩) (fun e => hne e.symm) _) (a := ⟨B, 2, none⟩) (fun e => hne e.symm) _
      clear c0 c1 c2 f0 f1 f2 hS0 hb0 ho0 hH11 hH10 hH9 hH8 hH7 hH6 hH5 hH4 hH3 hH2 hH1 hH0 hbA hBl r0 r1 r2 hown hbr hg
      generalize (((w1.setCell ⟨B, 0, none⟩ (.string t0)).setCell ⟨B, 1, none⟩ (.string t1)).setCell ⟨B, 2, none⟩ (.string t2)).drew = W2 at *
      have hwa := write_any t0.data.toList t1.data.toList t2.data.toList W2 (by rw [size_list]; omega) (by rw [size_list]; omega) (by rw [size_list]; omega)
      rw [bs_data, bs_data, bs_data] at hwa
      have HWA := hide hwa
      clear hwa
      have k0 := hT2.c0
      have k1 := hT2.c1
      have k2 := hT2.c2
      go_wp2_with fail
      refine HWA.out.mono ?_
      rintro e w3 ⟨S, ok, rfl, hok, hS, hb3⟩
      have HOK := hide hok
      have HSS := hide hS
      have hB3 := hb2.trans (hb3.mono hb2.size)
      have ho3 := ho2.below hb3
      have hT3 := hT2.below hb3
      clear hok hS k0 k1 k2 hb2 ho2 hT2 HWA
      by_cases h8 : 8 ≤ k
      · have h8z : (8 : Int) ≤ k := by omega
        go_wp2_with fail
        exact ⟨⟨k + 1, a, M, by omega, by go_num, rfl, hW.le (by omega), ho3, hB3⟩, by simp [intOf]; omega⟩
      · have h8z : decide ((8 : Int) ≤ k) = false := decide_eq_false (by omega)
        cases ok
        · go_wp2_with fail
          exact ⟨⟨k + 1, a, M, by omega, by go_num, rfl, hW.le (by omega), ho3, hB3⟩, by simp [intOf]; omega⟩
        · obtain rfl := HSS.out rfl
          have HO := hide HOK.out.symm
          have hm1 : min k 8 = k := by omega
          have hm2 : min (k + 1) 8 = k + 1 := by omega
          rw [hm1] at hW
          have hN := hW.next (x := (t0.data.toList, t1.data.toList, t2.data.toList)) HO.out (by simp only [size_list]; omega) (by simp only [size_list]; omega) (by simp only [size_list]; omega)
          have HN : Hid (Wr (nextL a (t0.data.toList, t1.data.toList, t2.data.toList)) (M ++ [loW (t0.data.toList, t1.data.toList, t2.data.toList)]) (min (k + 1) 8)) := by unfold Hid; rw [hm2]; exact hN
          have HM : Hid (M.length ≤ 8) := by unfold Hid; have := hW.lm; omega
          have hSz : (bs (wrL (t0.data.toList, t1.data.toList, t2.data.toList))).size ≤ 2000 := by
            rw [bs_size]; have := wr_len (t0.data.toList, t1.data.toList, t2.data.toList)
            simp only [size_list] at this
            omega
          have haz : (bs a).size ≤ 16000 := by rw [bs_size]; have := hW.la; omega
          have HTF : Hid (toF (loW (t0.data.toList, t1.data.toList, t2.data.toList)) = (lowS t0, t1, t2)) := toF_low (t0, t1, t2)
          have HLT : Hid (∀ W, Calls Tryd.prog 15 #[.string t0] W fun e w' => e = .returned (.string (lowS t0)) ∧ Below W.heap.size W w') := fun W => reflower_any t0 W (by omega)
          have hba := bs_toList a
          clear hN hm1 hm2 hW HSS HOK HO
          by_cases ha : a = []
          · subst ha
            have HNX := hide (next_none (t0.data.toList, t1.data.toList, t2.data.toList))
            have e1 : (bs ([] : List UInt8)).toList = [] := hba
            have e2 : (bs ([] : List UInt8)).toList.isEmpty = true := by rw [hba]; rfl
            clear hba
            generalize nextL [] (t0.data.toList, t1.data.toList, t2.data.toList) = aN at *
            generalize bs (wrL (t0.data.toList, t1.data.toList, t2.data.toList)) = S at *
            generalize loW (t0.data.toList, t1.data.toList, t2.data.toList) = xN at *
            have d0 := hT3.c0
            go_wp2_with fail
            refine (HLT.out _).mono ?_
            rintro e w4 ⟨rfl, hb4⟩
            have hB4 := hB3.trans (hb4.mono hB3.size)
            have ho4 := ho3.below hb4
            have hT4 := hT3.below hb4
            clear d0 hb4 hB3 ho3 hT3
            have d0 := hT4.c0
            have f0 := hT4.f0
            have d1 := hT4.c1
            have d2 := hT4.c2
            have hs4 : w.heap.size ≤ w4.heap.size := hB4.size
            have hb5 := hB4.setCell (p := ⟨B, 0, none⟩) hB0 (.string (lowS t0))
            have ho5 : Own (w4.setCell ⟨B, 0, none⟩ (.string (lowS t0))) w.heap.size u4 (M.map toF) := ownsRow_setCell_other ho4 (a := ⟨B, 0, none⟩) (fun e => hne e.symm) _
            have hsz5 : (w4.setCell ⟨B, 0, none⟩ (.string (lowS t0))).heap.size = w4.heap.size := by simp
            have h63 : (M.map toF).length + 1 ≤ maxLen := maxLen_of (by have := HM.out; simp; omega)
            have hby : ((M.map toF).length + 1) * 48 ≤ 140737488355328 := by have := HM.out; simp; omega
            have hba : w.heap.size ≤ ((w4.setCell ⟨B, 0, none⟩ (.string (lowS t0))).alloc (.cells #[.string (lowS t0), .string t1, .string t2] 31)).heap.size := by simp; omega
            have hce : ∀ j u, [Value.string (lowS t0), .string t1, .string t2][j]? = some u → ((w4.setCell ⟨B, 0, none⟩ (.string (lowS t0))).alloc (.cells #[.string (lowS t0), .string t1, .string t2] 31)).cell? ((⟨w4.heap.size, 0, none⟩ : Addr).add j) = some u := by
              have := three_new (w4.setCell ⟨B, 0, none⟩ (.string (lowS t0))) (.string (lowS t0)) (.string t1) (.string t2) 31
              rw [hsz5] at this
              exact this
            have hla := hb5.alloc (by rw [hsz5]; exact hs4) (.cells #[.string (lowS t0), .string t1, .string t2] 31)
            have hoa : Own ((w4.setCell ⟨B, 0, none⟩ (.string (lowS t0))).alloc (.cells #[.string (lowS t0), .string t1, .string t2] 31)) w.heap.size u4 (M.map toF) := World.ownsRow.alloc ho5 _
            have HX := hide (And.intro h63 (And.intro hby (And.intro hba (And.intro hce (And.intro hla hoa)))))
            clear h63 hby hba hce hla hoa ho5 hb5 hsz5 ho4 hB4
            go_wp2_with (at_builtin; refine wpList_append_own _ rfl (.tmp 50) (.tmp 52) 23 rfl w.heap.size 31 i0 (.agg #[.string ⟨#[]⟩, .string ⟨#[]⟩, .string ⟨#[]⟩]) 3 48 Tryd.underlying23 hi0 hz0 hz1 hz2 rfl (by decide) _ _ _ rfl HX.out.2.2.2.2.2 ⟨w4.heap.size, 0, none⟩ 1 1 [.string (lowS t0), .string t1, .string t2] rfl rfl HX.out.2.2.2.1 (by intro u hu; simp at hu; rcases hu with rfl | rfl | rfl <;> rfl) HX.out.1 HX.out.2.1 HX.out.2.2.1 ?_; intro v' w5 ho5 hg5 _)
            have hl5 := HX.out.2.2.2.2.1.grown hg5 HX.out.2.2.1 (fun j hj => (HX.out.2.2.2.2.2.lt j hj).1)
            refine ⟨⟨k + 1, aN, M ++ [xN], by omega, by go_num, by rw [HNX.out], HN.out, ?_, hl5⟩, by simp [intOf]; omega⟩
            unfold Own
            rw [List.map_append, List.length_append, fcells_append, List.map_cons, List.map_nil, HTF.out]
            exact ho5
          · have HNX := hide (next_some ha (t0.data.toList, t1.data.toList, t2.data.toList))
            have e1 : ¬ (bs a).toList = [] := by rw [hba]; exact ha
            have e2 : (bs a).toList.isEmpty = false := by rw [hba]; simpa using ha
            clear hba ha
            generalize nextL a (t0.data.toList, t1.data.toList, t2.data.toList) = aN at *
            generalize bs (wrL (t0.data.toList, t1.data.toList, t2.data.toList)) = S at *
            generalize loW (t0.data.toList, t1.data.toList, t2.data.toList) = xN at *
            have d0 := hT3.c0
            go_wp2_with fail
            refine (HLT.out _).mono ?_
            rintro e w4 ⟨rfl, hb4⟩
            have hB4 := hB3.trans (hb4.mono hB3.size)
            have ho4 := ho3.below hb4
            have hT4 := hT3.below hb4
            clear d0 hb4 hB3 ho3 hT3
            have d0 := hT4.c0
            have f0 := hT4.f0
            have d1 := hT4.c1
            have d2 := hT4.c2
            have hs4 : w.heap.size ≤ w4.heap.size := hB4.size
            have hb5 := hB4.setCell (p := ⟨B, 0, none⟩) hB0 (.string (lowS t0))
            have ho5 : Own (w4.setCell ⟨B, 0, none⟩ (.string (lowS t0))) w.heap.size u4 (M.map toF) := ownsRow_setCell_other ho4 (a := ⟨B, 0, none⟩) (fun e => hne e.symm) _
            have hsz5 : (w4.setCell ⟨B, 0, none⟩ (.string (lowS t0))).heap.size = w4.heap.size := by simp
            have h63 : (M.map toF).length + 1 ≤ maxLen := maxLen_of (by have := HM.out; simp; omega)
            have hby : ((M.map toF).length + 1) * 48 ≤ 140737488355328 := by have := HM.out; simp; omega
            have hba : w.heap.size ≤ ((w4.setCell ⟨B, 0, none⟩ (.string (lowS t0))).alloc (.cells #[.string (lowS t0), .string t1, .string t2] 31)).heap.size := by simp; omega
            have hce : ∀ j u, [Value.string (lowS t0), .string t1, .string t2][j]? = some u → ((w4.setCell ⟨B, 0, none⟩ (.string (lowS t0))).alloc (.cells #[.string (lowS t0), .string t1, .string t2] 31)).cell? ((⟨w4.heap.size, 0, none⟩ : Addr).add j) = some u := by
              have := three_new (w4.setCell ⟨B, 0, none⟩ (.string (lowS t0))) (.string (lowS t0)) (.string t1) (.string t2) 31
              rw [hsz5] at this
              exact this
            have hla := hb5.alloc (by rw [hsz5]; exact hs4) (.cells #[.string (lowS t0), .string t1, .string t2] 31)
            have hoa : Own ((w4.setCell ⟨B, 0, none⟩ (.string (lowS t0))).alloc (.cells #[.string (lowS t0), .string t1, .string t2] 31)) w.heap.size u4 (M.map toF) := World.ownsRow.alloc ho5 _
            have HX := hide (And.intro h63 (And.intro hby (And.intro hba (And.intro hce (And.intro hla hoa)))))
            clear h63 hby hba hce hla hoa ho5 hb5 hsz5 ho4 hB4
            go_wp2_with (at_builtin; refine wpList_append_own _ rfl (.tmp 50) (.tmp 52) 23 rfl w.heap.size 31 i0 (.agg #[.string ⟨#[]⟩, .string ⟨#[]⟩, .string ⟨#[]⟩]) 3 48 Tryd.underlying23 hi0 hz0 hz1 hz2 rfl (by decide) _ _ _ rfl HX.out.2.2.2.2.2 ⟨w4.heap.size, 0, none⟩ 1 1 [.string (lowS t0), .string t1, .string t2] rfl rfl HX.out.2.2.2.1 (by intro u hu; simp at hu; rcases hu with rfl | rfl | rfl <;> rfl) HX.out.1 HX.out.2.1 HX.out.2.2.1 ?_; intro v' w5 ho5 hg5 _)
            have hl5 := HX.out.2.2.2.2.1.grown hg5 HX.out.2.2.1 (fun j hj => (HX.out.2.2.2.2.2.lt j hj).1)
            refine ⟨⟨k + 1, aN, M ++ [xN], by omega, by go_num, by rw [HNX.out], HN.out, ?_, hl5⟩, by simp [intOf]; omega⟩
            unfold Own
            rw [List.map_append, List.length_append, fcells_append, List.map_cons, List.map_nil, HTF.out]
            exact ho5
    · have hd : decide ((k : Int) < L.length) = false := decide_eq_false (by omega)
      have HRD := hide (read_any (bs a) wr (by rw [bs_size]; have := hW.la; omega))
      have HF := hide (rd_some (s := bs a) (by rw [bs_list]; exact hW.rd))
      have HM : Hid (M.length ≤ 8) := by unfold Hid; have := hW.lm; omega
      clear hW
      go_wp2_with fail
      refine HRD.out.mono ?_
      rintro e w3 ⟨v3, rfl, ho3, hb3⟩
      rw [HF.out.1] at ho3
      rw [HF.out.2]
      have hB3 := hbr.trans (hb3.mono hszr)
      have R1 := hide ho3.row
      have R2 := hide (hown.below hb3).row
      clear ho3 hb3 hown hbr HRD
      go_wp2_with fail
      refine (alive_any w3).mono ?_
      rintro e w4 ⟨rfl, hb4⟩
      have c4 := hB3.trans (hb4.mono hB3.size)
      have R1 := hide (R1.out.below hb4)
      have R2 := hide (R2.out.below hb4)
      clear hb4 hB3
      go_wp2_with fail
      refine (refsame_any (M.map toF) v3 _ w4 R1.out R2.out (by have := HM.out; simp; omega)).mono ?_
      rintro e w5 ⟨rfl, hb5⟩
      have c5 := c4.trans (hb5.mono c4.size)
      go_wp2_with fail
      go_ret
      exact ⟨rfl, c5⟩

end Go.Proofs.YtkakinakjnpbjaaDoor
