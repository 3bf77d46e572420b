/- The walk of PairsCodes. -/
import Derived.Test.YtgnpeggffeoenaaDoorLa
namespace Go.Proofs.YtgnpeggffeoenaaDoor
set_option linter.unusedVariables false
set_option linter.unusedSimpArgs false
open Go.RowKit

def plainL (l : List UInt8) : Bool := l.all fun c => !(c == 59) && !ctrlB c
theorem plain_snoc (l : List UInt8) (c : UInt8) : plainL (l ++ [c]) = (plainL l && (!(c == 59) && !ctrlB c)) := by simp [plainL, Bool.and_assoc]
theorem pc_snoc (l : List UInt8) (c : UInt8) : (l ++ [c]).flatMap pcL = l.flatMap pcL ++ pcL c := by simp
theorem up_at : ∀ a : Nat, (h : a < 16) → (⟨#[48, 49, 50, 51, 52, 53, 54, 55, 56, 57, 65, 66, 67, 68, 69, 70]⟩ : ByteArray)[a]'h = upH a := by decide
theorem lo_at : ∀ a : Nat, (h : a < 16) → (⟨#[48, 49, 50, 51, 52, 53, 54, 55, 56, 57, 97, 98, 99, 100, 101, 102]⟩ : ByteArray)[a]'h = loH a := by decide
theorem two_cell (c d : UInt8) (W : World) (n : Nat) (h : W.cell? ⟨n, 0, none⟩ = some (.int .u8 (c.toNat : Int))) (g : W.cell? ⟨n, 1, none⟩ = some (.int .u8 (d.toNat : Int))) : Sem.run Tryd.prog (convert 39 9 (.slice (some ⟨n, 0, none⟩) 2 2)) W = .ok (.string ⟨#[c, d]⟩) W :=
  run_convert_bytes_back (P := Tryd.prog) _ 39 9 5 ⟨n, 0, none⟩ 2 [c, d] Tryd.underlying39 Tryd.underlying5 Tryd.underlying9 (fun j hj => by
    have : j = 0 ∨ j = 1 := by simp at hj; omega
    rcases this with rfl | rfl
    · simpa [add_none] using h
    · simpa [add_none] using g)
theorem q_u8 {n a : Nat} (h : n / 16 = a) (hn : n < 256) : IntKind.u8.wrap ((n : Int) / 16) = (a : Int) := by simp [IntKind.wrap, IntKind.bits, IntKind.signed]; omega
theorem r_u8 {n b : Nat} (h : n % 16 = b) : (n : Int).tmod 16 = (b : Int) := by rw [Int.tmod_eq_emod_of_nonneg (by omega)]; omega
theorem q_code (s : ByteArray) : qF (bs (107 :: 61 :: s.data.toList.flatMap pcL)) = [(⟨#[107]⟩, s)] := by
  unfold qF; rw [bs_list, q_codes]
  show [(bs [107], bs s.data.toList)] = _
  rw [show bs s.data.toList = s from (bs_of rfl).symm]; rfl
theorem plain_of {l : List UInt8} (h : plainL l = true) : l.any ctrlB = false ∧ ∀ d ∈ l, d ≠ 59 := by
  unfold plainL at h
  rw [List.all_eq_true] at h
  constructor
  · rw [List.any_eq_false]; intro c hc; have := h c hc; simp at this; simp [this.2]
  · intro d hd; have := h d hd; simp at this; exact this.1
theorem c_code {s : ByteArray} (h : plainL s.data.toList = true) : cF (⟨#[32, 107, 61]⟩ ++ ⟨(quoteL s.data.toList).toArray⟩ ++ ⟨#[32, 59]⟩) = [(⟨#[107]⟩, s)] := by
  obtain ⟨h1, h2⟩ := plain_of h
  unfold cF
  rw [app_list, app_list]
  show (cL ([32, 107, 61] ++ quoteL s.data.toList ++ [32, 59])).map toF = _
  rw [c_quote h1 h2]
  show [(bs [107], bs s.data.toList)] = _
  rw [show bs s.data.toList = s from (bs_of rfl).symm]; rfl

set_option maxRecDepth 100000 in
set_option maxHeartbeats 4000000 in
theorem codes_walk (s0 : ByteArray) (w : World) (hs0 : s0.size ≤ maxLen) (hT : Tabs w) :
    Calls Tryd.prog 6 #[.string s0] w fun e w' => e = .returned (.bool true) ∧ Below w.heap.size w w' := by
  have HT := hide hT
  unfold maxLen at hs0
  obtain ⟨m, hm, hm1, hm2⟩ : ∃ m : Nat, min (s0.size : Int) 100 = (m : Int) ∧ m ≤ 100 ∧ m ≤ s0.size := ⟨(min (s0.size : Int) 100).toNat, by omega, by omega, by omega⟩
  obtain ⟨s, hs⟩ : ∃ s, s0.extract 0 m = s := ⟨_, rfl⟩
  have hss : s.size ≤ 100 := by rw [← hs, ByteArray.size_extract]; omega
  clear hT
  go_enter Tryd.func6, Tryd.ntmps6
  go_wp2_with fail
  go_loopw [3, 4, 5, 6, 18] (fun vq vp _ _ i wr => ∃ k : Nat, k ≤ s.size ∧ i = .int .i64 k ∧ vq = .string (bs (107 :: 61 :: (s.data.toList.take k).flatMap pcL)) ∧ vp = .bool (plainL (s.data.toList.take k)) ∧ Below w.heap.size w wr) (fun _ _ _ _ i _ => s.size - (intOf i).toNat)
  case atStart => exact ⟨0, Nat.zero_le _, rfl, rfl, rfl, Below.refl _ _⟩
  case round =>
    obtain ⟨k, hk, rfl, rfl, rfl, hbr⟩ := hrel
    have hbsz := hbr.size
    by_cases hlt : k < s.size
    · have hltz : (k : Int) < s.size := by omega
      have HT1 : Hid (s.data.toList.take (k + 1) = s.data.toList.take k ++ [s[k]'hlt]) := by
        unfold Hid; rw [take_snoc _ k (by rw [size_list]; exact hlt), get_at s k hlt]
      go_wp2_with fail
      generalize s[k]'hlt = c at HT1 ⊢
      have hcl := c.toNat_lt
      obtain ⟨a, ha⟩ : ∃ a, c.toNat / 16 = a := ⟨_, rfl⟩
      obtain ⟨b, hb⟩ : ∃ b, c.toNat % 16 = b := ⟨_, rfl⟩
      have hc16 : a < 16 := by omega
      have hm16 : b < 16 := by omega
      have HQ : Hid (bs (107 :: 61 :: (s.data.toList.take k).flatMap pcL) ++ (⟨#[37]⟩ ++ ⟨#[upH (a), loH (b)]⟩) = bs (107 :: 61 :: (s.data.toList.take (k + 1)).flatMap pcL)) := by
        unfold Hid
        rw [HT1.out, pc_snoc]
        apply bytes_ext
        simp only [app_list, bs_list, pcL, ha, hb]
        rfl
      have HP : Hid (plainL (s.data.toList.take (k + 1)) = (plainL (s.data.toList.take k) && (!(c == 59) && !ctrlB c))) := by unfold Hid; rw [HT1.out, plain_snoc]
      have hqz := bs_size (107 :: 61 :: (s.data.toList.take k).flatMap pcL)
      have hql : (bs (107 :: 61 :: (s.data.toList.take k).flatMap pcL)).size ≤ 1000 := by
        rw [hqz, List.length_cons, List.length_cons]
        have h1 : ∀ l : List UInt8, (l.flatMap pcL).length = 3 * l.length := by
          intro l; induction l with
          | nil => rfl
          | cons d l ih => rw [List.flatMap_cons, List.length_append, ih]; simp [pcL]; omega
        rw [h1, List.length_take, size_list]; omega
      have hcv := two_cell (upH (a)) (loH (b))
      have hu0 := up_at (a) hc16
      have hl0 := lo_at (b) hm16
      have HB := hide hbr
      clear hqz HT1 hu0 hl0
      generalize bs (107 :: 61 :: (s.data.toList.take k).flatMap pcL) = Q at *
      generalize plainL (s.data.toList.take k) = pl at *
      refine wp_region_held_drew (S := (fun w' => Below w.heap.size w w')) (by kernel_rfl) (hbr.drew) (fun hHeld => ?_)
      refine wpAnyH_take (i := 0) (oi := _) (v := .string Q) rfl (by kernel_rfl) (by kernel_rfl) (by kernel_rfl) (fun _ _ _ h => h) (Or.inl ⟨by rfl, fun wS hSw => by go_simp⟩) (by first | trivial | assumption) ?_
      simp only [Act.put, List.getElem_toArray, List.getElem_cons_zero, List.getElem_cons_succ, List.setIfInBounds_toArray, List.set_cons_zero, List.set_cons_succ]
      refine wpAnyH_take (i := 1) (oi := _) (v := .int .u8 (c.toNat : Int)) rfl (by kernel_rfl) (by kernel_rfl) (by kernel_rfl) (fun _ _ _ h => h) (Or.inl ⟨by rfl, fun wS hSw => by go_simp⟩) (by first | trivial | assumption) ?_
      simp only [Act.put, List.getElem_toArray, List.getElem_cons_zero, List.getElem_cons_succ, List.setIfInBounds_toArray, List.set_cons_zero, List.set_cons_succ]
      refine wpAnyH_take (i := 4) (oi := _) (v := .int .u8 (c.toNat : Int)) rfl (by kernel_rfl) (by kernel_rfl) (by kernel_rfl) (fun _ _ _ h => h) (Or.inl ⟨by rfl, fun wS hSw => by go_simp⟩) (by first | trivial | assumption) ?_
      simp only [Act.put, List.getElem_toArray, List.getElem_cons_zero, List.getElem_cons_succ, List.setIfInBounds_toArray, List.set_cons_zero, List.set_cons_succ]
      refine wpAnyH_take (i := 2) (oi := _) (v := .int .u8 (a : Int)) rfl (by kernel_rfl) (by kernel_rfl) (by kernel_rfl) (fun _ _ _ h => h) (Or.inl ⟨by rfl, fun wS hSw => by go_simp; exact q_u8 ha hcl⟩) (by first | trivial | assumption) ?_
      simp only [Act.put, List.getElem_toArray, List.getElem_cons_zero, List.getElem_cons_succ, List.setIfInBounds_toArray, List.set_cons_zero, List.set_cons_succ]
      refine wpAnyH_take (i := 5) (oi := _) (v := .int .u8 (b : Int)) rfl (by kernel_rfl) (by kernel_rfl) (by kernel_rfl) (fun _ _ _ h => h) (Or.inl ⟨by rfl, fun wS hSw => by go_simp; exact r_u8 hb⟩) (by first | trivial | assumption) ?_
      simp only [Act.put, List.getElem_toArray, List.getElem_cons_zero, List.getElem_cons_succ, List.setIfInBounds_toArray, List.set_cons_zero, List.set_cons_succ]
      refine wpAnyH_take (i := 3) (oi := _) (v := .int .u8 ((upH a).toNat : Int)) rfl (by kernel_rfl) (by kernel_rfl) (by kernel_rfl) (fun _ _ _ h => h) (Or.inl ⟨by rfl, fun wS hSw => by go_simp; (rw [dif_pos (show (a : Int) < 16 by omega)]; simp [up_at a hc16, Result.andThen])⟩) (by first | trivial | assumption) ?_
      simp only [Act.put, List.getElem_toArray, List.getElem_cons_zero, List.getElem_cons_succ, List.setIfInBounds_toArray, List.set_cons_zero, List.set_cons_succ]
      refine wpAnyH_take (i := 6) (oi := _) (v := .int .u8 ((loH b).toNat : Int)) rfl (by kernel_rfl) (by kernel_rfl) (by kernel_rfl) (fun _ _ _ h => h) (Or.inl ⟨by rfl, fun wS hSw => by go_simp; (rw [dif_pos (show (b : Int) < 16 by omega)]; simp [lo_at b hm16, Result.andThen])⟩) (by first | trivial | assumption) ?_
      simp only [Act.put, List.getElem_toArray, List.getElem_cons_zero, List.getElem_cons_succ, List.setIfInBounds_toArray, List.set_cons_zero, List.set_cons_succ]
      refine wpAnyH_ready (rs := [7]) (by kernel_rfl) (by simp) ?_
      refine AllReadyH.cons (o := _) rfl (fun K hK => ?_) AllReadyH.nil
      go_simp
      refine hK.out _ _ (below_al hbr.drew _) (fun hHeld => ?_)
      clear hK K
      refine wpAnyH_ready (rs := [8]) (by kernel_rfl) (by simp) ?_
      refine AllReadyH.cons (o := _) rfl (fun K hK => ?_) AllReadyH.nil
      go_simp
      refine hK.out _ _ (below_al hbr.drew _) (fun hHeld => ?_)
      clear hK K
      refine wpAnyH_take (i := 9) (oi := _) (v := .string (⟨#[37]⟩ ++ ⟨#[upH (a), loH (b)]⟩)) rfl (by kernel_rfl) (by kernel_rfl) (by kernel_rfl) (fun _ _ _ h => h) (Or.inl ⟨by rfl, fun wS hSw => by go_simp⟩) (by first | trivial | assumption) ?_
      simp only [Act.put, List.getElem_toArray, List.getElem_cons_zero, List.getElem_cons_succ, List.setIfInBounds_toArray, List.set_cons_zero, List.set_cons_succ]
      refine wpAnyH_take (i := 10) (oi := _) (v := .string (Q ++ (⟨#[37]⟩ ++ ⟨#[upH (a), loH (b)]⟩))) rfl (by kernel_rfl) (by kernel_rfl) (by kernel_rfl) (fun _ _ _ h => h) (Or.inl ⟨by rfl, fun wS hSw => by go_simp; omega⟩) (by first | trivial | assumption) ?_
      simp only [Act.put, List.getElem_toArray, List.getElem_cons_zero, List.getElem_cons_succ, List.setIfInBounds_toArray, List.set_cons_zero, List.set_cons_succ]
      refine wpAnyH_take (i := 11) (oi := _) (v := .string (Q ++ (⟨#[37]⟩ ++ ⟨#[upH (a), loH (b)]⟩))) rfl (by kernel_rfl) (by kernel_rfl) (by kernel_rfl) (fun _ _ _ h => h) (Or.inl ⟨by rfl, fun wS hSw => by go_simp⟩) (by first | trivial | assumption) ?_
      simp only [Act.put, List.getElem_toArray, List.getElem_cons_zero, List.getElem_cons_succ, List.setIfInBounds_toArray, List.set_cons_zero, List.set_cons_succ]
      refine wpAnyH_done (by kernel_rfl) ?_ _
      have hbw := (below_al hbr (.cells #[.int .u8 ((upH a).toNat : Int), .int .u8 ((loH b).toNat : Int)] 5)).drew
      generalize (wr.alloc (.cells #[.int .u8 ((upH a).toNat : Int), .int .u8 ((loH b).toNat : Int)] 5)).drew = W8 at hbw ⊢
      rw [HQ.out]
      clear hcv ha hb hbr HB
      cases pl with
      | false =>
        go_wp2_with fail
        refine ⟨⟨k + 1, by omega, by go_num, rfl, by rw [HP.out]; rfl, hbw⟩, by simp [intOf]; omega⟩
      | true =>
        by_cases h59 : c = 59
        · have hb59 : ((c.toNat : Int) != 59) = false := by rw [h59]; rfl
          have HP2 : Hid (plainL (s.data.toList.take (k + 1)) = false) := by unfold Hid; rw [HP.out, h59]; rfl
          clear h59 HP
          go_wp2_with fail
          refine ⟨⟨k + 1, by omega, by go_num, rfl, by rw [HP2.out], hbw⟩, by simp [intOf]; omega⟩
        · have hb59 : ((c.toNat : Int) != 59) = true := by have := u8_beq c 59; rw [decide_eq_false h59] at this; show (!((c.toNat : Int) == 59)) = true; rw [show ((c.toNat : Int) == 59) = false from this]; rfl
          have HP2 : Hid (plainL (s.data.toList.take (k + 1)) = !ctrlB c) := by unfold Hid; rw [HP.out, show (c == 59) = false by simpa using h59]; rfl
          clear h59 HP
          go_wp2_with (go_at_call 23; refine (control_any _ _).mono ?_; rintro e w1 ⟨rfl, rfl⟩)
          refine ⟨⟨k + 1, by omega, by go_num, rfl, by rw [HP2.out], hbw⟩, by simp [intOf]; omega⟩
    · have hd : decide ((k : Int) < s.size) = false := decide_eq_false (by omega)
      rw [List.take_of_length_le (by rw [size_list]; omega)]
      have hqz := bs_size (107 :: 61 :: s.data.toList.flatMap pcL)
      have hql : (bs (107 :: 61 :: s.data.toList.flatMap pcL)).size ≤ 10000 := by
        rw [hqz, List.length_cons, List.length_cons]
        have h1 : ∀ l : List UInt8, (l.flatMap pcL).length = 3 * l.length := by
          intro l; induction l with
          | nil => rfl
          | cons d l ih => rw [List.flatMap_cons, List.length_append, ih]; simp [pcL]; omega
        rw [h1, size_list]; omega
      have HQC := hide (q_code s)
      have HCC : Hid (plainL s.data.toList = true → cF (⟨#[32, 107, 61]⟩ ++ ⟨(quoteL s.data.toList).toArray⟩ ++ ⟨#[32, 59]⟩) = [(⟨#[107]⟩, s)]) := c_code
      have HCT : Hid (ctlB s = false → qS s = ⟨(quoteL s.data.toList).toArray⟩ ∧ qE s = 0) := by intro h; unfold qS qE; rw [h]; simp
      have HCE : Hid (ctlB s = true → qE s = 11) := by intro h; unfold qE; rw [h]; rfl
      have HQS : Hid ((⟨(quoteL s.data.toList).toArray⟩ : ByteArray).size ≤ 202) := by
        unfold Hid
        rw [← size_list]
        have := escL_le s.data.toList
        rw [size_list] at this
        simp [quoteL]; omega
      generalize bs (107 :: 61 :: s.data.toList.flatMap pcL) = Q at *
      generalize plainL s.data.toList = pl at *
      generalize (⟨(quoteL s.data.toList).toArray⟩ : ByteArray) = QS at *
      clear hqz hm hs
      go_wp2_with fail
      refine (query_any Q _ hql (HT.out.below hbr)).mono ?_
      rintro e w1 ⟨v1, rfl, ho1, hb1⟩
      rw [HQC.out] at ho1
      have C1 := hide (hbr.trans (hb1.mono hbr.size))
      obtain ⟨a1, p1, rfl, hp1, hR1⟩ := Own.row ho1
      obtain ⟨g, off, rfl, hg, c0, c1⟩ := hR1 0 (by simp)
      have d0 : w1.cell? ⟨g, off, none⟩ = some (.string ⟨#[107]⟩) := by simpa using c0
      have d1 : w1.cell? ⟨g, off + 1, none⟩ = some (.string s) := by simpa using c1
      clear ho1 hb1 hR1 c0 c1 hbr
      go_wp2_with fail
      refine (alive_any _ (HT.out.below C1.out)).mono ?_
      rintro e w2 ⟨rfl, hb2⟩
      have C2 := hide (C1.out.trans (hb2.mono C1.out.size))
      clear hb2 d0 d1 C1
      go_wp2_with fail
      refine (refquote_any s _ (by omega)).mono ?_
      rintro e w3 ⟨rfl, rfl⟩
      cases hct : ctlB s with
      | true =>
        have he := HCE.out hct
        rw [he]
        clear hct he
        go_wp2_with fail
        go_ret
        exact ⟨rfl, C2.out⟩
      | false =>
        obtain ⟨hq1, hq2⟩ := HCT.out hct
        rw [hq1, hq2]
        clear hct hq1 hq2
        cases pl with
        | false =>
          go_wp2_with fail
          go_ret
          exact ⟨rfl, C2.out⟩
        | true =>
          have hc2 := HCC.out rfl
          have hqs := HQS.out
          have hz : (⟨#[32, 107, 61]⟩ ++ QS ++ ⟨#[32, 59]⟩ : ByteArray).size ≤ 10000 := by rw [ByteArray.size_append, ByteArray.size_append]; show 3 + QS.size + 2 ≤ 10000; omega
          have HC2 := hide hc2
          have HZ := hide hz
          clear hc2 hz
          go_wp2_with fail
          refine (cookies_any _ _ HZ.out (HT.out.below C2.out)).mono ?_
          rintro e w4 ⟨v4, rfl, ho4, hb4⟩
          rw [HC2.out] at ho4
          have C4 := hide (C2.out.trans (hb4.mono C2.out.size))
          obtain ⟨a1, p1, rfl, hp1, hR1⟩ := Own.row ho4
          obtain ⟨g, off, rfl, hg, c0, c1⟩ := hR1 0 (by simp)
          have d0 : w4.cell? ⟨g, off, none⟩ = some (.string ⟨#[107]⟩) := by simpa using c0
          have d1 : w4.cell? ⟨g, off + 1, none⟩ = some (.string s) := by simpa using c1
          clear ho4 hb4 hR1 c0 c1
          go_wp2_with fail
          go_ret
          exact ⟨by simp, C4.out⟩

end Go.Proofs.YtgnpeggffeoenaaDoor
