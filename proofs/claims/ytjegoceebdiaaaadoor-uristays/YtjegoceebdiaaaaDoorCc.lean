/- The walk of Clean. -/
import Derived.Test.YtjegoceebdiaaaaDoorCb
import Derived.WalkMore
namespace Go.Proofs.YtjegoceebdiaaaaDoor
set_option linter.unusedVariables false
set_option linter.unusedSimpArgs false
open Go.RowKit

def cleanS (s : ByteArray) : ByteArray := ⟨(cleanL s.data.toList).toArray⟩
theorem cleanS_list (s : ByteArray) : (cleanS s).data.toList = cleanL s.data.toList := by simp [cleanS]
theorem cleanS_size (s : ByteArray) : (cleanS s).size ≤ s.size := by rw [← size_list, cleanS_list, ← size_list s]; exact clean_len _
def lenOf : Value → Nat | .string s => s.size | _ => 0

theorem pre_any (s p : ByteArray) (b : Bool) (h : pre p.data.toList s.data.toList = b) (w : World) :
    Calls Tryd.prog 21 #[.string s, .string p] w fun e w' => e = .returned (.bool b) ∧ w' = w := by
  refine (Tryd.strings_HasPrefix s p w).mono ?_
  rintro e w1 ⟨rfl, rfl⟩
  exact ⟨by rw [← h]; rfl, rfl⟩

/-- An append of a text's bytes whose run is known. -/
theorem op_append {P : Program} {o : Oper} {a : Act} {w w' : World} {K : Act → World → Prop} {Q : Exit → Act → World → Prop} {v v' : Value} {s : ByteArray} (sl x : Operand) (t u : TypeId)
    (ho : o.op = .call { callee := .builtin .append, args := #[sl, x], argTypes := #[t, u] }) (hs : a.eval sl = v) (hx : a.eval x = .string s)
    (hr : (Builtin.append_ #[t, u] o.type #[v, .string s]).run P w = .ok v' w') (h : K (a.put o.dst v') w') : Oper.wp P o a w K Q := by
  unfold Oper.wp execOp
  simp only [ho, resolve, invoke, builtin, Sem.run_bind, Sem.run_pure, Result.andThen_ok, List.map_toArray, List.map_cons, List.map_nil, hs, hx, hr]
  exact h

theorem below_drew {n : Nat} {w w' : World} (h : Below n w w') : Below n w w'.drew := ⟨h.1, h.2, h.3, h.4, h.5⟩

theorem cln_end {o l : List UInt8} (h : l = [] ∨ l = [46] ∨ l = [46, 46]) : cln o l = o := by
  rcases h with rfl | h
  · rfl
  · rw [cln_step (by rcases h with rfl | rfl <;> simp), cStep, if_pos h, cln_nil]
theorem cln_two {o l : List UInt8} (h0 : l ≠ []) (h1 : l ≠ [46]) (h2 : l ≠ [46, 46]) (h : pre [46, 47] l = true ∨ pre [47, 46, 47] l = true) : cln o l = cln o (l.drop 2) := by
  rw [cln_step h0, cStep, if_neg (by simp [h1, h2]), if_pos h]
theorem cln_three {o l : List UInt8} (h0 : l ≠ []) (h1 : l ≠ [46]) (h2 : l ≠ [46, 46]) (h3 : pre [46, 47] l = false) (h4 : pre [47, 46, 47] l = false) (h : pre [46, 46, 47] l = true) : cln o l = cln o (l.drop 3) := by
  rw [cln_step h0, cStep, if_neg (by simp [h1, h2]), if_neg (by simp [h3, h4]), if_pos h]
theorem cln_here {o l : List UInt8} (h : l = [47, 46]) : cln o l = cln o [47] := by
  subst h
  rw [cln_step (by simp), cStep, if_neg (by simp), if_neg (by decide), if_neg (by decide), if_pos rfl]
theorem cln_up {o l : List UInt8} (h0 : l ≠ []) (h1 : l ≠ [46]) (h2 : l ≠ [46, 46]) (h3 : pre [46, 47] l = false) (h4 : pre [47, 46, 47] l = false) (h5 : pre [46, 46, 47] l = false) (h6 : l ≠ [47, 46]) (h : pre [47, 46, 46, 47] l = true) : cln o l = cln (backL o) (l.drop 3) := by
  rw [cln_step h0, cStep, if_neg (by simp [h1, h2]), if_neg (by simp [h3, h4]), if_neg (by simp [h5]), if_neg h6, if_pos h]
theorem cln_upper {o l : List UInt8} (h : l = [47, 46, 46]) : cln o l = cln (backL o) [47] := by
  subst h
  rw [cln_step (by simp), cStep, if_neg (by simp), if_neg (by decide), if_neg (by decide), if_neg (by simp), if_neg (by decide), if_pos rfl]
theorem cln_move {o l : List UInt8} (h0 : l ≠ []) (h1 : l ≠ [46]) (h2 : l ≠ [46, 46]) (h3 : pre [46, 47] l = false) (h4 : pre [47, 46, 47] l = false) (h5 : pre [46, 46, 47] l = false) (h6 : l ≠ [47, 46]) (h7 : pre [47, 46, 46, 47] l = false) (h8 : l ≠ [47, 46, 46]) : cln o l = cln (o ++ l.take (segN l)) (l.drop (segN l)) := by
  rw [cln_step h0, cStep, if_neg (by simp [h1, h2]), if_neg (by simp [h3, h4]), if_neg (by simp [h5]), if_neg h6, if_neg (by simp [h7]), if_neg h8]

theorem pre_len {p : List UInt8} {s : ByteArray} (h : pre p s.data.toList = true) : p.length ≤ s.size := by
  rw [← size_list]
  exact (List.isPrefixOf_iff_prefix.1 h).length_le

theorem eq_of_beq {s : ByteArray} {l : List UInt8} (h : (s.toList == l) = true) : s.data.toList = l := by
  rw [ByteArray.toList_eq] at h; simpa using h
theorem ne_of_beq {s : ByteArray} {l : List UInt8} (h : (s.toList == l) = false) : s.data.toList ≠ l := by
  rw [ByteArray.toList_eq] at h; simpa using h


set_option maxRecDepth 100000 in
set_option maxHeartbeats 4000000 in
theorem clean_any (s : ByteArray) (w : World) (hs : s.size ≤ 100000) :
    Calls Tryd.prog 19 #[.string s] w fun e w' => e = .returned (.string (cleanS s)) ∧ Below w.heap.size w w' := by
  go_enter Tryd.func19, Tryd.ntmps19
  go_wp2_with fail
  go_step3
  go_wp2_with fail
  go_step3
  go_wp2_with fail
  go_loopw [3, 4] (fun o l wr => ∃ (ol : List UInt8) (L : ByteArray), l = .string L ∧ Own w.heap.size wr o ol ∧ Below w.heap.size w wr ∧ ol.length + L.size ≤ s.size ∧ Hid (cln ol L.data.toList = cleanL s.data.toList)) (fun _ l _ => lenOf l)
  case atStart => exact ⟨[], s, rfl, Own.nil _ _, Below.refl _ _, by simp, rfl⟩
  case round =>
    obtain ⟨ol, L, rfl, hown, hbr, hsz, HC⟩ := hrel
    by_cases h0 : L.data.toList = []
    · have he := empty_of h0
      have HE : Hid (cleanS s = ⟨ol.toArray⟩) := by
        unfold Hid cleanS
        rw [← HC.out, cln_end (Or.inl h0)]
      have hcv := conv_own hown
      clear HC hown
      go_wp2_with fail
      rw [Exit.noGoto_ret]
      go_ret
      exact ⟨ret_str HE.out.symm, hbr⟩
    have he := empty_not h0
    have H0 := hide h0
    clear h0
    cases h1 : (L.toList == [46])
    rotate_left
    · have H1 := hide (eq_of_beq h1)
      have HE : Hid (cleanS s = ⟨ol.toArray⟩) := by
        unfold Hid cleanS
        rw [← HC.out, cln_end (Or.inr (Or.inl H1.out))]
      have hcv := conv_own hown
      clear HC hown
      go_wp2_with fail
      rw [Exit.noGoto_ret]
      go_ret
      exact ⟨ret_str HE.out.symm, hbr⟩
    have H1 := hide (ne_of_beq h1)
    cases h2 : (L.toList == [46, 46])
    rotate_left
    · have H2 := hide (eq_of_beq h2)
      have HE : Hid (cleanS s = ⟨ol.toArray⟩) := by
        unfold Hid cleanS
        rw [← HC.out, cln_end (Or.inr (Or.inr H2.out))]
      have hcv := conv_own hown
      clear HC hown
      go_wp2_with fail
      rw [Exit.noGoto_ret]
      go_ret
      exact ⟨ret_str HE.out.symm, hbr⟩
    have H2 := hide (ne_of_beq h2)
    cases hd : pre [46, 47] L.data.toList
    rotate_left
    · have hlen := pre_len hd
      have HN : Hid (cln ol (L.extract 2 L.size).data.toList = cleanL s.data.toList) := by
        unfold Hid
        rw [ext_drop, ← HC.out, cln_two H0.out H1.out H2.out (Or.inl hd)]
      have HD := hide hd
      clear hd HC
      simp only [List.length_cons, List.length_nil] at hlen
      go_wp2_with fail
      refine (pre_any L ⟨#[46, 47]⟩ _ HD.out _).mono ?_
      rintro e w1 ⟨rfl, rfl⟩
      go_wp2_with fail
      refine ⟨⟨ol, _, rfl, hown, hbr, ?_, HN⟩, ?_⟩
      · rw [ByteArray.size_extract]; omega
      · simp only [lenOf]; rw [ByteArray.size_extract]; omega
    have HD := hide hd
    clear hd
    cases hee : pre [47, 46, 47] L.data.toList
    rotate_left
    · have hlen := pre_len hee
      have HN : Hid (cln ol (L.extract 2 L.size).data.toList = cleanL s.data.toList) := by
        unfold Hid
        rw [ext_drop, ← HC.out, cln_two H0.out H1.out H2.out (Or.inr hee)]
      have HEE := hide hee
      clear hee HC
      simp only [List.length_cons, List.length_nil] at hlen
      go_wp2_with fail
      refine (pre_any L ⟨#[46, 47]⟩ _ HD.out _).mono ?_
      rintro e w1 ⟨rfl, rfl⟩
      go_wp2_with fail
      refine (pre_any L ⟨#[47, 46, 47]⟩ _ HEE.out _).mono ?_
      rintro e w1 ⟨rfl, rfl⟩
      go_wp2_with fail
      refine ⟨⟨ol, _, rfl, hown, hbr, ?_, HN⟩, ?_⟩
      · rw [ByteArray.size_extract]; omega
      · simp only [lenOf]; rw [ByteArray.size_extract]; omega
    have HEE := hide hee
    clear hee
    cases hf : pre [46, 46, 47] L.data.toList
    rotate_left
    · have hlen := pre_len hf
      have HN : Hid (cln ol (L.extract 3 L.size).data.toList = cleanL s.data.toList) := by
        unfold Hid
        rw [ext_drop, ← HC.out, cln_three H0.out H1.out H2.out HD.out HEE.out hf]
      have HF := hide hf
      clear hf HC
      simp only [List.length_cons, List.length_nil] at hlen
      go_wp2_with fail
      refine (pre_any L ⟨#[46, 47]⟩ _ HD.out _).mono ?_
      rintro e w1 ⟨rfl, rfl⟩
      go_wp2_with fail
      refine (pre_any L ⟨#[47, 46, 47]⟩ _ HEE.out _).mono ?_
      rintro e w1 ⟨rfl, rfl⟩
      go_wp2_with fail
      refine (pre_any L ⟨#[46, 46, 47]⟩ _ HF.out _).mono ?_
      rintro e w1 ⟨rfl, rfl⟩
      go_wp2_with fail
      refine ⟨⟨ol, _, rfl, hown, hbr, ?_, HN⟩, ?_⟩
      · rw [ByteArray.size_extract]; omega
      · simp only [lenOf]; rw [ByteArray.size_extract]; omega
    have HF := hide hf
    clear hf
    cases h6 : (L.toList == [47, 46])
    rotate_left
    · have HN : Hid (cln ol (⟨#[47]⟩ : ByteArray).data.toList = cleanL s.data.toList) := by
        unfold Hid
        rw [← HC.out, cln_here (eq_of_beq h6)]
      have hsl : L.size = 2 := by rw [← size_list, eq_of_beq h6]; rfl
      clear HC
      go_wp2_with fail
      refine (pre_any L ⟨#[46, 47]⟩ _ HD.out _).mono ?_
      rintro e w1 ⟨rfl, rfl⟩
      go_wp2_with fail
      refine (pre_any L ⟨#[47, 46, 47]⟩ _ HEE.out _).mono ?_
      rintro e w1 ⟨rfl, rfl⟩
      go_wp2_with fail
      refine (pre_any L ⟨#[46, 46, 47]⟩ _ HF.out _).mono ?_
      rintro e w1 ⟨rfl, rfl⟩
      go_wp2_with fail
      refine ⟨⟨ol, _, rfl, hown, hbr, ?_, HN⟩, ?_⟩
      · rw [show (⟨#[47]⟩ : ByteArray).size = 1 from rfl]; omega
      · simp only [lenOf]; rw [show (⟨#[47]⟩ : ByteArray).size = 1 from rfl]; omega
    have H6 := hide (ne_of_beq h6)
    obtain ⟨hbl1, hbl2, -⟩ := backL_len ol
    cases hh : pre [47, 46, 46, 47] L.data.toList
    rotate_left
    · have hlen := pre_len hh
      have HN : Hid (cln (backL ol) (L.extract 3 L.size).data.toList = cleanL s.data.toList) := by
        unfold Hid
        rw [ext_drop, ← HC.out, cln_up H0.out H1.out H2.out HD.out HEE.out HF.out H6.out hh]
      have HH := hide hh
      clear hh HC
      simp only [List.length_cons, List.length_nil] at hlen
      go_wp2_with fail
      refine (pre_any L ⟨#[46, 47]⟩ _ HD.out _).mono ?_
      rintro e w1 ⟨rfl, rfl⟩
      go_wp2_with fail
      refine (pre_any L ⟨#[47, 46, 47]⟩ _ HEE.out _).mono ?_
      rintro e w1 ⟨rfl, rfl⟩
      go_wp2_with fail
      refine (pre_any L ⟨#[46, 46, 47]⟩ _ HF.out _).mono ?_
      rintro e w1 ⟨rfl, rfl⟩
      go_wp2_with fail
      refine (pre_any L ⟨#[47, 46, 46, 47]⟩ _ HH.out _).mono ?_
      rintro e w1 ⟨rfl, rfl⟩
      go_wp2_with fail
      have hz3 : (3 : Int) ≤ (L.size : Int) := by omega
      go_region_held3 (fun w' => Own w.heap.size w' u3 ol ∧ Below w.heap.size w w')
        (first | exact ⟨hown, below_drew hbr⟩)
        (first | (go_at_call 39; refine (stepBack_any w.heap.size _ ol w1.drew (by omega) hown).mono ?_; rintro e w2 ⟨⟨v2, rfl, ho2⟩, rfl⟩))
      go_wp2_with fail
      refine ⟨⟨backL ol, _, rfl, ho2, below_drew hbr, ?_, HN⟩, ?_⟩
      · rw [ByteArray.size_extract]; omega
      · simp only [lenOf]; rw [ByteArray.size_extract]; omega
    have HH := hide hh
    clear hh
    cases h8 : (L.toList == [47, 46, 46])
    rotate_left
    · have HN : Hid (cln (backL ol) (⟨#[47]⟩ : ByteArray).data.toList = cleanL s.data.toList) := by
        unfold Hid
        rw [← HC.out, cln_upper (eq_of_beq h8)]
      have hsl : L.size = 3 := by rw [← size_list, eq_of_beq h8]; rfl
      clear HC
      go_wp2_with fail
      refine (pre_any L ⟨#[46, 47]⟩ _ HD.out _).mono ?_
      rintro e w1 ⟨rfl, rfl⟩
      go_wp2_with fail
      refine (pre_any L ⟨#[47, 46, 47]⟩ _ HEE.out _).mono ?_
      rintro e w1 ⟨rfl, rfl⟩
      go_wp2_with fail
      refine (pre_any L ⟨#[46, 46, 47]⟩ _ HF.out _).mono ?_
      rintro e w1 ⟨rfl, rfl⟩
      go_wp2_with fail
      refine (pre_any L ⟨#[47, 46, 46, 47]⟩ _ HH.out _).mono ?_
      rintro e w1 ⟨rfl, rfl⟩
      go_wp2_with fail
      refine (stepBack_any w.heap.size _ ol _ (by omega) hown).mono ?_
      rintro e w2 ⟨⟨v2, rfl, ho2⟩, rfl⟩
      go_wp2_with fail
      refine ⟨⟨backL ol, _, rfl, ho2, hbr, ?_, HN⟩, ?_⟩
      · rw [show (⟨#[47]⟩ : ByteArray).size = 1 from rfl]; omega
      · simp only [lenOf]; rw [show (⟨#[47]⟩ : ByteArray).size = 1 from rfl]; omega
    have H8 := hide (ne_of_beq h8)
    have hL1 : 1 ≤ L.size := by
      rw [← size_list]
      have := List.length_pos_iff.2 H0.out
      omega
    have hsg : segN L.data.toList ≤ L.size := by rw [← size_list]; exact segN_le H0.out
    have hsp := segN_pos L.data.toList
    have HN : Hid (cln (ol ++ (L.extract 0 (segN L.data.toList)).data.toList) (L.extract (segN L.data.toList) L.size).data.toList = cleanL s.data.toList) := by
      unfold Hid
      rw [ext_drop, ext_take, ← HC.out, cln_move H0.out H1.out H2.out HD.out HEE.out HF.out H6.out HH.out H8.out]
    clear HC hbl1 hbl2
    go_wp2_with fail
    refine (pre_any L ⟨#[46, 47]⟩ _ HD.out _).mono ?_
    rintro e w1 ⟨rfl, rfl⟩
    go_wp2_with fail
    refine (pre_any L ⟨#[47, 46, 47]⟩ _ HEE.out _).mono ?_
    rintro e w1 ⟨rfl, rfl⟩
    go_wp2_with fail
    refine (pre_any L ⟨#[46, 46, 47]⟩ _ HF.out _).mono ?_
    rintro e w1 ⟨rfl, rfl⟩
    go_wp2_with fail
    refine (pre_any L ⟨#[47, 46, 46, 47]⟩ _ HH.out _).mono ?_
    rintro e w1 ⟨rfl, rfl⟩
    go_wp2_with fail
    refine (stepEnd_any L _ (by omega) hL1).mono ?_
    rintro e w2 ⟨rfl, rfl⟩
    generalize segN L.data.toList = k at hsg hsp HN ⊢
    go_wp2_with fail
    obtain ⟨i0, hi0, hz0, hz1, hz2⟩ := info_parts Tryd.info5
    have hks : (L.extract 0 k).size = k := by rw [ByteArray.size_extract]; omega
    obtain ⟨v', w', hap, ho', hg', -⟩ := Lib.run_append_own_string (P := Tryd.prog) w2.drew w.heap.size 51 9 51 5 i0 Tryd.underlying51 Tryd.underlying9 hi0 hz0 hz1 hz2 u3 ol.length (u8s ol) hown (L.extract 0 k) (maxLen_of (by omega)) (by omega) hbr.size
    have hO : Own w.heap.size w' v' (ol ++ (L.extract 0 k).data.toList) := by
      unfold Own
      rw [u8s_append, List.length_append, size_list]
      exact ho'
    have hB : Below w.heap.size w w' := (below_drew hbr).grown hg' hbr.size (fun g hg => (hown.lt g hg).1)
    have hkz : (0 : Int) ≤ (k : Int) := by omega
    have hkl : (k : Int) ≤ (L.size : Int) := by omega
    have HO := hide hO
    have HB := hide hB
    clear ho' hg' hO hB hi0 hz0 hz1 hz2
    refine wp_region_held_drew (S := (fun _ => True)) (by kernel_rfl) (trivial) (fun hHeld => ?_)
    refine wpAnyH_take (i := 0) (oi := _) (v := u3) rfl (by kernel_rfl) (by kernel_rfl) (by kernel_rfl) (fun _ _ _ h => h) (Or.inl ⟨by rfl, fun wS hSw => by go_simp⟩) (by first | trivial | assumption) ?_
    simp only [Act.put, List.setIfInBounds_toArray, List.set_cons_zero, List.set_cons_succ]
    refine wpAnyH_take (i := 1) (oi := _) (v := .string L) rfl (by kernel_rfl) (by kernel_rfl) (by kernel_rfl) (fun _ _ _ h => h) (Or.inl ⟨by rfl, fun wS hSw => by go_simp⟩) (by first | trivial | assumption) ?_
    simp only [Act.put, List.setIfInBounds_toArray, List.set_cons_zero, List.set_cons_succ]
    refine wpAnyH_take (i := 2) (oi := _) (v := .int .i64 (k : Int)) rfl (by kernel_rfl) (by kernel_rfl) (by kernel_rfl) (fun _ _ _ h => h) (Or.inl ⟨by rfl, fun wS hSw => by go_simp⟩) (by first | trivial | assumption) ?_
    simp only [Act.put, List.setIfInBounds_toArray, List.set_cons_zero, List.set_cons_succ]
    refine wpAnyH_take (i := 3) (oi := _) (v := .string (L.extract 0 k)) rfl (by kernel_rfl) (by kernel_rfl) (by kernel_rfl) (fun _ _ _ h => h) (Or.inl ⟨by rfl, fun wS hSw => by go_simp⟩) (by first | trivial | assumption) ?_
    simp only [Act.put, List.setIfInBounds_toArray, List.set_cons_zero, List.set_cons_succ]
    refine wpAnyH_take (i := 5) (oi := _) (v := .string L) rfl (by kernel_rfl) (by kernel_rfl) (by kernel_rfl) (fun _ _ _ h => h) (Or.inl ⟨by rfl, fun wS hSw => by go_simp⟩) (by first | trivial | assumption) ?_
    simp only [Act.put, List.setIfInBounds_toArray, List.set_cons_zero, List.set_cons_succ]
    refine wpAnyH_take (i := 6) (oi := _) (v := .int .i64 (k : Int)) rfl (by kernel_rfl) (by kernel_rfl) (by kernel_rfl) (fun _ _ _ h => h) (Or.inl ⟨by rfl, fun wS hSw => by go_simp⟩) (by first | trivial | assumption) ?_
    simp only [Act.put, List.setIfInBounds_toArray, List.set_cons_zero, List.set_cons_succ]
    refine wpAnyH_take (i := 7) (oi := _) (v := .string (L.extract k L.size)) rfl (by kernel_rfl) (by kernel_rfl) (by kernel_rfl) (fun _ _ _ h => h) (Or.inl ⟨by rfl, fun wS hSw => by go_simp⟩) (by first | trivial | assumption) ?_
    simp only [Act.put, List.setIfInBounds_toArray, List.set_cons_zero, List.set_cons_succ]
    refine wpAnyH_ready (rs := [4]) (by kernel_rfl) (by simp) ?_
    refine AllReadyH.cons (o := _) rfl (fun K hK => ?_) AllReadyH.nil
    rw [if_pos (by rfl)]
    refine op_append (.tmp 9) (.tmp 12) 51 9 rfl rfl rfl hap ?_
    refine hK.out _ _ trivial (fun hHeld => ?_)
    clear hK K
    refine wpAnyH_ready (rs := [8]) (by kernel_rfl) (by simp) ?_
    refine AllReadyH.cons (o := _) rfl (fun K hK => ?_) AllReadyH.nil
    go_simp
    refine hK.out _ _ (trivial) (fun hHeld => ?_)
    clear hK K
    refine wpAnyH_ready (rs := [9]) (by kernel_rfl) (by simp) ?_
    refine AllReadyH.cons (o := _) rfl (fun K hK => ?_) AllReadyH.nil
    go_simp
    refine hK.out _ _ (trivial) (fun hHeld => ?_)
    clear hK K
    refine wpAnyH_done (by kernel_rfl) ?_ _
    go_wp2_with fail
    all_goals refine ⟨⟨_, _, rfl, HO.out, HB.out, ?_, HN⟩, ?_⟩
    all_goals first
      | (rw [List.length_append, size_list, hks, ByteArray.size_extract]; omega)
      | (simp only [lenOf]; rw [ByteArray.size_extract]; omega)

end Go.Proofs.YtjegoceebdiaaaaDoor
