/- The walk of what makes few fields, and short ones, of a row. -/
import Derived.Test.YtojoidhjlbcijaaDoorWv
namespace Go.Proofs.YtojoidhjlbcijaaDoor
set_option linter.unusedVariables false
set_option linter.unusedSimpArgs false
set_option maxRecDepth 100000
open Go.RowKit

theorem cell_set_other {w : World} {a b : Addr} {u v : Value} (h : w.cell? a = some v) (hne : a ≠ b) : (w.setCell b u).cell? a = some v := by
  rw [World.cell?_setCell_other _ _ _ _ (fun e => hne e.symm)]; exact h

/-- One field of a row is written anew. -/
theorem row_set {w : World} {g cap k : Nat} {L : List Fd} {x : Fd} (h : Row w (.slice (some ⟨g, 0, none⟩) L.length cap) L) (hk : k < L.length) :
    Row ((w.setCell ⟨g, k * 2, none⟩ (.string x.1)).setCell ⟨g, k * 2 + 1, none⟩ (.string x.2)) (.slice (some ⟨g, 0, none⟩) L.length cap) (L.set k x) := by
  obtain ⟨a, cap', he, hcap, hR⟩ := h
  cases he
  refine ⟨some ⟨g, 0, none⟩, cap, by simp, by simpa using hcap, fun j hj => ⟨g, 0, rfl, ?_⟩⟩
  have hj' : j < L.length := by simpa using hj
  obtain ⟨g', off', he, hg, c0, c1⟩ := hR j hj'
  cases he
  obtain ⟨g', off', he, -, d0, d1⟩ := hR k hk
  cases he
  simp only [Nat.zero_add] at c0 c1 d0 d1 ⊢
  refine ⟨by simpa using hg, ?_⟩
  by_cases e : j = k
  · subst e
    rw [List.getElem_set_self]
    refine ⟨?_, ?_⟩
    · exact cell_set_other (World.cell?_setCell_same _ _ _ d0) (by simp)
    · exact World.cell?_setCell_same _ _ _ (cell_set_other d1 (by simp))
  · rw [List.getElem_set_ne (fun h => e h.symm)]
    exact ⟨cell_set_other (cell_set_other c0 (by simp <;> omega)) (by simp <;> omega), cell_set_other (cell_set_other c1 (by simp <;> omega)) (by simp <;> omega)⟩
theorem row_frozen {w : World} {g : Nat} {C : List Value} (hg : w.heap[g]? = some (.cells C.toArray 39 (0, 0))) (o : Nat) : w.frozen? ⟨g, o, none⟩ = false := by
  unfold World.frozen?; rw [hg]; simp
theorem own_nothing {w : World} {base : Nat} {v : Value} (h : Own w base v []) : ∃ a c, v = .slice a 0 c := h.row.slice

theorem row_take {w : World} {a : Option Addr} {cap m : Nat} {L : List Fd} (h : Row w (.slice a L.length cap) L) (hm : m ≤ L.length) : Row w (.slice a m cap) (L.take m) := by
  obtain ⟨a', cap', he, hcap, hR⟩ := h
  cases he
  refine ⟨a, cap, by rw [List.length_take, Nat.min_eq_left hm], by rw [List.length_take]; omega, fun j hj => ?_⟩
  rw [List.length_take] at hj
  obtain ⟨g, off, e, hg, c0, c1⟩ := hR j (by omega)
  rw [List.getElem_take]
  exact ⟨g, off, e, hg, c0, c1⟩

set_option maxHeartbeats 8000000 in
theorem few_any (L : List Fd) (a : Option Addr) (cap : Nat) (w : World) (hr : Row w (.slice a L.length cap) L) (hcm : cap ≤ maxLen) (hs : ∀ f ∈ L, f.1.size ≤ maxLen ∧ f.2.size ≤ maxLen) :
    Calls Tryd.prog 8 #[.slice a L.length cap] w fun e w' => ∃ r M, e = .returned r ∧ Row w' r M ∧ M.length ≤ 45 ∧ (∀ f ∈ M, f.1.size ≤ 60 ∧ f.2.size ≤ 1010) ∧ Below w.heap.size w w' := by
  have hmax : maxLen ≤ 9223372036854775807 := by unfold maxLen; omega
  have hcap : L.length ≤ cap := by obtain ⟨_, _, he, h, -⟩ := hr; cases he; exact h
  obtain ⟨m, hm⟩ : ∃ m : Nat, (m : Int) = min (L.length : Int) 45 := ⟨min L.length 45, by omega⟩
  have hm1 : (m : Int) ≤ L.length := by omega
  have hm2 : m ≤ 45 := by omega
  have hrt := row_take hr (by omega : m ≤ L.length)
  have HX := hide (And.intro ((hrt.below (one_alloc w #[] 39))) (And.intro (show Own (w.alloc (.cells #[] 39)) w.heap.size (.slice (some ⟨w.heap.size, 0, none⟩) 0 0) [] from World.ownsRow_lit w #[] 0 (Nat.le_refl _) (by decide) rfl) (one_alloc w #[] 39)))
  have hDl : (L.take m).length = m := by rw [List.length_take]; omega
  have HS : Hid (∀ f ∈ L.take m, f.1.size ≤ maxLen ∧ f.2.size ≤ maxLen) := fun f hf => hs f (List.mem_of_mem_take hf)
  generalize L.take m = D at HX hDl HS
  have hmin : min (L.length : Int) 45 = m := hm.symm
  have HDL := hide hDl
  clear hrt hr hs hm hDl
  go_enter Tryd.func8, Tryd.ntmps8
  go_wp2_with (at_builtin; refine wpList_append_Row rfl (.tmp 5) (.tmp 10) rfl w.heap.size (.slice (some ⟨w.heap.size, 0, none⟩) 0 0) (.slice a m cap) [] D rfl rfl HX.out.2.1 HX.out.1 (by rw [HDL.out]; simp; omega) HX.out.2.2.size ?_; intro v' w2 ho2 hg2; obtain ⟨av, cv, hv⟩ := ho2.row.slice; subst hv; rw [List.nil_append, HDL.out])
  rw [List.nil_append] at ho2
  have hB2 := HX.out.2.2.grown hg2 HX.out.2.2.size (own_block HX.out.2.1)
  have HAV : Hid (0 < m → ∃ g, av = some ⟨g, 0, none⟩ ∧ w.heap.size ≤ g ∧ ∀ o, w2.frozen? ⟨g, o, none⟩ = false) := by
    intro h0
    obtain ⟨g, cap', R, hv, hbg, hheap, -⟩ := own_parts ho2 (by rw [HDL.out]; exact h0)
    cases hv
    exact ⟨g, rfl, hbg, row_frozen hheap⟩
  have hrow2 : Row w2 (.slice av m cv) D := by have := ho2.row; rw [HDL.out] at this; exact this
  clear ho2 hg2 HX
  go_loopw [3, 4, 14] (fun _ _ i wr => ∃ (k : Nat) (M : List Fd), k ≤ m ∧ i = .int .i64 k ∧ Below w.heap.size w wr ∧ Hid (M.length = m) ∧ Row wr (.slice av m cv) M ∧ Hid (∀ f ∈ M.take k, f.1.size ≤ 60 ∧ f.2.size ≤ 1010) ∧ Hid (∀ f ∈ M, f.1.size ≤ maxLen ∧ f.2.size ≤ maxLen) ∧ Hid (0 < m → ∃ g, av = some ⟨g, 0, none⟩ ∧ w.heap.size ≤ g ∧ ∀ o, wr.frozen? ⟨g, o, none⟩ = false)) (fun _ _ i _ => m - (intOf i).toNat)
  case atStart => exact ⟨0, D, Nat.zero_le _, rfl, hB2, HDL, hrow2, by simp [Hid], HS, HAV⟩
  case round =>
    clear HAV hrow2 hB2 HS
    obtain ⟨k, M, hk, rfl, hbr, HML, hrow, hshort, hmaxs, hav⟩ := hrel
    by_cases hlt : k < m
    · have hltz : (k : Int) < m := by omega
      obtain ⟨g, rfl, hbg, hfz⟩ := hav.out (by omega)
      have hltM : k < M.length := by rw [HML.out]; exact hlt
      have HROW := hide hrow
      obtain ⟨a', cap', he, hcc, hcells⟩ := hrow
      have hav' : a' = some ⟨g, 0, none⟩ := by cases he; rfl
      subst hav'
      obtain ⟨g', off', he', hgl, c0, c1⟩ := hcells k hltM
      cases he'
      rw [Nat.zero_add] at c0 c1
      have hszs := hmaxs.out _ (List.getElem_mem hltM)
      have hTK : Hid (∀ x : Fd, x.1.size ≤ 60 ∧ x.2.size ≤ 1010 → ∀ f ∈ (M.set k x).take (k + 1), f.1.size ≤ 60 ∧ f.2.size ≤ 1010) := by
        unfold Hid
        intro x hx f hf
        rw [List.take_succ_eq_append_getElem (by simpa using hltM), List.getElem_set_self, List.take_set_of_le (Nat.le_refl _)] at hf
        rcases List.mem_append.1 hf with hf | hf
        · exact hshort.out f hf
        · obtain rfl : f = x := by simpa using hf
          exact hx
      have hMX : Hid (∀ x : Fd, x.1.size ≤ 60 ∧ x.2.size ≤ 1010 → ∀ f ∈ M.set k x, f.1.size ≤ maxLen ∧ f.2.size ≤ maxLen) := by
        unfold Hid
        intro x hx f hf
        rcases List.mem_or_eq_of_mem_set hf with hf | rfl
        · exact hmaxs.out f hf
        · exact ⟨Nat.le_trans hx.1 (by decide), Nat.le_trans hx.2 (by decide)⟩
      obtain ⟨x, hx⟩ : ∃ x, M[k]'hltM = x := ⟨_, rfl⟩
      rw [hx] at c0 c1 hszs
      clear hx hcells he hcc hshort hmaxs hav
      have HBR := hide hbr
      have hsz := hbr.size
      obtain ⟨p, hp⟩ : ∃ p : Nat, p = min x.1.size 60 := ⟨_, rfl⟩
      obtain ⟨q, hq⟩ : ∃ q : Nat, q = min x.2.size 1010 := ⟨_, rfl⟩
      have hp1 : p ≤ x.1.size := by omega
      have hq1 : q ≤ x.2.size := by omega
      have hp2 : p ≤ 60 := by omega
      have hq2 : q ≤ 1010 := by omega
      have HP := hide hp
      have HQ := hide hq
      clear hp hq hbr
      have e0 : (wr.alloc (.cells #[.string x.1, .string x.2] 39)).cell? ⟨g, k * 2, none⟩ = some (.string x.1) := by rw [(stays (one_alloc _ _ _)).1 _ _ hgl]; exact c0
      have e1 : (wr.alloc (.cells #[.string x.1, .string x.2] 39)).cell? ⟨g, k * 2 + 1, none⟩ = some (.string x.2) := by rw [(stays (one_alloc _ _ _)).1 _ _ hgl]; exact c1
      have f0 : ∀ o, (wr.alloc (.cells #[.string x.1, .string x.2] 39)).frozen? ⟨g, o, none⟩ = false := fun o => by rw [(stays (one_alloc _ _ _)).2 _ _ hgl]; exact hfz o
      have d0 : (wr.alloc (.cells #[.string x.1, .string x.2] 39)).cell? ⟨wr.heap.size, 0, none⟩ = some (.string x.1) := by go_simp
      have d1 : (wr.alloc (.cells #[.string x.1, .string x.2] 39)).cell? ⟨wr.heap.size, 1, none⟩ = some (.string x.2) := by go_simp
      have HROW4 := hide (HROW.out.below (one_alloc wr #[.string x.1, .string x.2] 39))
      have HB4 := hide (HBR.out.alloc HBR.out.size (.cells #[.string x.1, .string x.2] 39))
      go_wp2_with fail
      generalize wr.alloc (.cells #[.string x.1, .string x.2] 39) = w4 at e0 e1 f0 d0 d1 HROW4 HB4 ⊢
      have hgN : g < wr.heap.size := hgl
      generalize wr.heap.size = N4 at d0 d1 hgN ⊢
      refine wp_region_held_drew (S := (fun w' => w'.cell? ⟨N4, 0, none⟩ = some (.string x.1) ∧ w'.cell? ⟨N4, 1, none⟩ = some (.string x.2))) (by kernel_rfl) (⟨d0, d1⟩) (fun hHeld => ?_)
      refine wpAnyH_take (i := 0) (oi := _) (v := .slice (some ⟨g, 0, none⟩) m cv) rfl (by kernel_rfl) (by kernel_rfl) (by kernel_rfl) (fun _ _ _ h => h) (Or.inl ⟨by rfl, fun wS hSw => by go_simp⟩) (by first | trivial | assumption) ?_
      simp only [Act.put, List.setIfInBounds_toArray, List.set_cons_zero, List.set_cons_succ]
      refine wpAnyH_take (i := 1) (oi := _) (v := .int .i64 k) rfl (by kernel_rfl) (by kernel_rfl) (by kernel_rfl) (fun _ _ _ h => h) (Or.inl ⟨by rfl, fun wS hSw => by go_simp⟩) (by first | trivial | assumption) ?_
      simp only [Act.put, List.setIfInBounds_toArray, List.set_cons_zero, List.set_cons_succ]
      refine wpAnyH_take (i := 2) (oi := _) (v := .pointer (some ⟨N4, 0, none⟩)) rfl (by kernel_rfl) (by kernel_rfl) (by kernel_rfl) (fun _ _ _ h => h) (Or.inl ⟨by rfl, fun wS hSw => by go_simp⟩) (by first | trivial | assumption) ?_
      simp only [Act.put, List.setIfInBounds_toArray, List.set_cons_zero, List.set_cons_succ]
      refine wpAnyH_take (i := 3) (oi := _) (v := .string x.1) rfl (by kernel_rfl) (by kernel_rfl) (by kernel_rfl) (fun _ _ _ h => h) (Or.inl ⟨by rfl, fun wS hSw => by obtain ⟨hL0, hL1⟩ := hSw; go_simp⟩) (by first | trivial | assumption) ?_
      simp only [Act.put, List.setIfInBounds_toArray, List.set_cons_zero, List.set_cons_succ]
      refine wpAnyH_take (i := 4) (oi := _) (v := .pointer (some ⟨N4, 0, none⟩)) rfl (by kernel_rfl) (by kernel_rfl) (by kernel_rfl) (fun _ _ _ h => h) (Or.inl ⟨by rfl, fun wS hSw => by go_simp⟩) (by first | trivial | assumption) ?_
      simp only [Act.put, List.setIfInBounds_toArray, List.set_cons_zero, List.set_cons_succ]
      refine wpAnyH_take (i := 5) (oi := _) (v := .string x.1) rfl (by kernel_rfl) (by kernel_rfl) (by kernel_rfl) (fun _ _ _ h => h) (Or.inl ⟨by rfl, fun wS hSw => by obtain ⟨hL0, hL1⟩ := hSw; go_simp⟩) (by first | trivial | assumption) ?_
      simp only [Act.put, List.setIfInBounds_toArray, List.set_cons_zero, List.set_cons_succ]
      refine wpAnyH_take (i := 6) (oi := _) (v := .int .i64 x.1.size) rfl (by kernel_rfl) (by kernel_rfl) (by kernel_rfl) (fun _ _ _ h => h) (Or.inl ⟨by rfl, fun wS hSw => by go_simp⟩) (by first | trivial | assumption) ?_
      simp only [Act.put, List.setIfInBounds_toArray, List.set_cons_zero, List.set_cons_succ]
      refine wpAnyH_take (i := 7) (oi := _) (v := .int .i64 p) rfl (by kernel_rfl) (by kernel_rfl) (by kernel_rfl) (fun _ _ _ h => h) (Or.inl ⟨by rfl, fun wS hSw => by go_simp; have := HP.out; omega⟩) (by first | trivial | assumption) ?_
      simp only [Act.put, List.setIfInBounds_toArray, List.set_cons_zero, List.set_cons_succ]
      refine wpAnyH_take (i := 8) (oi := _) (v := .string (x.1.extract 0 p)) rfl (by kernel_rfl) (by kernel_rfl) (by kernel_rfl) (fun _ _ _ h => h) (Or.inl ⟨by rfl, fun wS hSw => by go_simp⟩) (by first | trivial | assumption) ?_
      simp only [Act.put, List.setIfInBounds_toArray, List.set_cons_zero, List.set_cons_succ]
      refine wpAnyH_take (i := 9) (oi := _) (v := .pointer (some ⟨N4, 1, none⟩)) rfl (by kernel_rfl) (by kernel_rfl) (by kernel_rfl) (fun _ _ _ h => h) (Or.inl ⟨by rfl, fun wS hSw => by go_simp⟩) (by first | trivial | assumption) ?_
      simp only [Act.put, List.setIfInBounds_toArray, List.set_cons_zero, List.set_cons_succ]
      refine wpAnyH_take (i := 10) (oi := _) (v := .string x.2) rfl (by kernel_rfl) (by kernel_rfl) (by kernel_rfl) (fun _ _ _ h => h) (Or.inl ⟨by rfl, fun wS hSw => by obtain ⟨hL0, hL1⟩ := hSw; go_simp⟩) (by first | trivial | assumption) ?_
      simp only [Act.put, List.setIfInBounds_toArray, List.set_cons_zero, List.set_cons_succ]
      refine wpAnyH_take (i := 11) (oi := _) (v := .pointer (some ⟨N4, 1, none⟩)) rfl (by kernel_rfl) (by kernel_rfl) (by kernel_rfl) (fun _ _ _ h => h) (Or.inl ⟨by rfl, fun wS hSw => by go_simp⟩) (by first | trivial | assumption) ?_
      simp only [Act.put, List.setIfInBounds_toArray, List.set_cons_zero, List.set_cons_succ]
      refine wpAnyH_take (i := 12) (oi := _) (v := .string x.2) rfl (by kernel_rfl) (by kernel_rfl) (by kernel_rfl) (fun _ _ _ h => h) (Or.inl ⟨by rfl, fun wS hSw => by obtain ⟨hL0, hL1⟩ := hSw; go_simp⟩) (by first | trivial | assumption) ?_
      simp only [Act.put, List.setIfInBounds_toArray, List.set_cons_zero, List.set_cons_succ]
      refine wpAnyH_take (i := 13) (oi := _) (v := .int .i64 x.2.size) rfl (by kernel_rfl) (by kernel_rfl) (by kernel_rfl) (fun _ _ _ h => h) (Or.inl ⟨by rfl, fun wS hSw => by go_simp⟩) (by first | trivial | assumption) ?_
      simp only [Act.put, List.setIfInBounds_toArray, List.set_cons_zero, List.set_cons_succ]
      refine wpAnyH_take (i := 14) (oi := _) (v := .int .i64 q) rfl (by kernel_rfl) (by kernel_rfl) (by kernel_rfl) (fun _ _ _ h => h) (Or.inl ⟨by rfl, fun wS hSw => by go_simp; have := HQ.out; omega⟩) (by first | trivial | assumption) ?_
      simp only [Act.put, List.setIfInBounds_toArray, List.set_cons_zero, List.set_cons_succ]
      refine wpAnyH_take (i := 15) (oi := _) (v := .string (x.2.extract 0 q)) rfl (by kernel_rfl) (by kernel_rfl) (by kernel_rfl) (fun _ _ _ h => h) (Or.inl ⟨by rfl, fun wS hSw => by go_simp⟩) (by first | trivial | assumption) ?_
      simp only [Act.put, List.setIfInBounds_toArray, List.set_cons_zero, List.set_cons_succ]
      refine wpAnyH_take (i := 16) (oi := _) (v := .agg #[.string (x.1.extract 0 p), .string (x.2.extract 0 q)]) rfl (by kernel_rfl) (by kernel_rfl) (by kernel_rfl) (fun _ _ _ h => h) (Or.inl ⟨by rfl, fun wS hSw => by go_simp⟩) (by first | trivial | assumption) ?_
      simp only [Act.put, List.setIfInBounds_toArray, List.set_cons_zero, List.set_cons_succ]
      refine wpAnyH_take (i := 17) (oi := _) (v := .pointer (some ⟨g, k * 2, none⟩)) rfl (by kernel_rfl) (by kernel_rfl) (by kernel_rfl) (fun _ _ _ h => h) (Or.inl ⟨by rfl, fun wS hSw => by go_simp⟩) (by first | trivial | assumption) ?_
      simp only [Act.put, List.setIfInBounds_toArray, List.set_cons_zero, List.set_cons_succ]
      refine wpAnyH_ready (rs := [18]) (by kernel_rfl) (by simp) ?_
      refine AllReadyH.cons (o := _) rfl (fun K hK => ?_) AllReadyH.nil
      go_simp
      refine hK.out _ _ (⟨cell_set_other (cell_set_other d0 (by simp <;> omega)) (by simp <;> omega), cell_set_other (cell_set_other d1 (by simp <;> omega)) (by simp <;> omega)⟩) (fun hHeld => ?_)
      clear hK K
      refine wpAnyH_done (by kernel_rfl) ?_ _
      go_wp2_with fail
      have hsx : (x.1.extract 0 p).size ≤ 60 ∧ (x.2.extract 0 q).size ≤ 1010 := by
        rw [ByteArray.size_extract, ByteArray.size_extract]; omega
      have hR5 : Row ((w4.drew.setCell ⟨g, k * 2, none⟩ (.string (x.1.extract 0 p))).setCell ⟨g, k * 2 + 1, none⟩ (.string (x.2.extract 0 q))) (.slice (some ⟨g, 0, none⟩) m cv) (M.set k (x.1.extract 0 p, x.2.extract 0 q)) := by
        have h := HROW4.out
        rw [← HML.out] at h ⊢
        exact row_set (w := w4.drew) (x := (x.1.extract 0 p, x.2.extract 0 q)) h (by rw [HML.out]; exact hlt)
      refine ⟨⟨k + 1, M.set k (x.1.extract 0 p, x.2.extract 0 q), by omega, by go_num, ?_, by unfold Hid; rw [List.length_set]; exact HML.out, hR5, hTK.out _ hsx, hMX.out _ hsx, fun _ => ⟨g, rfl, hbg, fun o => ?_⟩⟩, by simp [intOf]; omega⟩
      · exact (HB4.out.drew.setCell hbg _).setCell hbg _
      · show ((w4.setCell ⟨g, k * 2, none⟩ (.string (x.1.extract 0 p))).setCell ⟨g, k * 2 + 1, none⟩ (.string (x.2.extract 0 q))).frozen? ⟨g, o, none⟩ = false
        rw [World.frozen?_setCell, World.frozen?_setCell]; exact f0 o
    · have hd : decide ((k : Int) < m) = false := decide_eq_false (by omega)
      rw [List.take_of_length_le (by rw [HML.out]; omega)] at hshort
      go_wp2_with fail
      go_ret
      exact ⟨_, M, rfl, hrow, by rw [HML.out]; exact hm2, hshort.out, hbr⟩

end Go.Proofs.YtojoidhjlbcijaaDoor
