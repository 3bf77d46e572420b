/- The walk of HopKeeps. -/
import Derived.Test.YtojoidhjlbcijaaDoorLa
import Derived.Test.YtojoidhjlbcijaaDoorWr
namespace Go.Proofs.YtojoidhjlbcijaaDoor
set_option linter.unusedVariables false
set_option linter.unusedSimpArgs false
set_option maxRecDepth 100000
open Go.RowKit

/-- In block B lies this first line. -/
def Bx (W : World) (B : Nat) (s : St) : Prop := W.cell? ⟨B, 0, none⟩ = some (.string s.m) ∧ W.cell? ⟨B, 1, none⟩ = some (.string s.t) ∧ W.cell? ⟨B, 2, none⟩ = some (.int .i64 s.c) ∧ W.cell? ⟨B, 3, none⟩ = some (.string s.r) ∧ W.cell? ⟨B, 4, none⟩ = some (.int .i64 s.n) ∧ B < W.heap.size
theorem Bx.below {W W' : World} {B : Nat} {s : St} (h : Bx W B s) (hb : Below W.heap.size W W') : Bx W' B s := by
  obtain ⟨h0, h1, h2, h3, h4, hl⟩ := h
  exact ⟨((stays hb).1 _ _ hl).trans h0, ((stays hb).1 _ _ hl).trans h1, ((stays hb).1 _ _ hl).trans h2, ((stays hb).1 _ _ hl).trans h3, ((stays hb).1 _ _ hl).trans h4, Nat.lt_of_lt_of_le hl hb.size⟩
theorem Bx.new (w : World) (s : St) : Bx (w.alloc (.cells #[.string s.m, .string s.t, .int .i64 s.c, .string s.r, .int .i64 s.n] 23)) w.heap.size s := by
  refine ⟨?_, ?_, ?_, ?_, ?_, by simp⟩ <;> go_simp
def closedF : Fd := (connW, ⟨#[120, 44, 32, 67, 76, 79, 83, 69]⟩)
def keptF : Fd := (connS, ⟨#[75, 101, 101, 112, 45, 65, 108, 105, 118, 101]⟩)
theorem closed_nm : nm connS closedF = true := by decide +kernel
theorem kept_nm : nm connS keptF = true := by decide +kernel
theorem sm_snoc {M : List Fd} {f : Fd} (h : Sm M) (h1 : f.1.size ≤ 1010) (h2 : f.2.size ≤ 1010) : Sm (M ++ [f]) := by
  intro x hx
  rcases List.mem_append.1 hx with hx | hx
  · exact h x hx
  · obtain rfl : x = f := by simpa using hx
    exact ⟨h1, h2⟩
theorem del_sm {M : List Fd} (n : ByteArray) (h : Sm M) : Sm (delF n M) := fun x hx => h x (del_mem hx).1

set_option maxHeartbeats 16000000 in
theorem keeps_walk (s : St) (L : List Fd) (ad : Option Addr) (cap : Nat) (w : World) (hr : Row w (.slice ad L.length cap) L) (hcm : cap ≤ maxLen) (hs : ∀ f ∈ L, f.1.size ≤ maxLen ∧ f.2.size ≤ maxLen) :
    Calls Tryd.prog 6 #[s.v, .slice ad L.length cap] w fun e w' => e = .returned (.bool true) ∧ Below w.heap.size w w' := by
  have hbx := Bx.new w s
  have hb0 : Below w.heap.size w (w.alloc (.cells #[.string s.m, .string s.t, .int .i64 s.c, .string s.r, .int .i64 s.n] 23)) := one_alloc w _ 23
  have HR := hide (hr.below hb0)
  have HS := hide hs
  clear hr hs
  unfold St.v
  go_enter Tryd.func6, Tryd.ntmps6
  go_wp2_with fail
  generalize (w.alloc (.cells #[.string s.m, .string s.t, .int .i64 s.c, .string s.r, .int .i64 s.n] 23)) = wb at hbx hb0 HR ⊢
  refine (few_any L ad cap wb HR.out hcm HS.out).mono ?_
  rintro e w1 ⟨r, M, rfl, hrow, hlen, hsh, hb1⟩
  have hsm := few_sm hsh
  have HBX := hide (hbx.below hb1)
  have hB1 := hb0.trans (hb1.mono hb0.size)
  obtain ⟨ar, cr, rfl⟩ := hrow.slice
  clear HR HS hsh hbx hb0 hb1
  have hCs := sm_snoc hsm (f := closedF) (by decide) (by decide)
  have hKs := sm_snoc hsm (f := keptF) (by decide) (by decide)
  have hDs := del_sm connS hsm
  have hDl := del_le connS M
  have hCl : (M ++ [closedF]).length ≤ 50 := by rw [List.length_append]; simp; omega
  have hKl : (M ++ [keptF]).length ≤ 50 := by rw [List.length_append]; simp; omega
  have HC := hide (keep_closed (L := M) s.n closed_nm rfl)
  have HK := hide (keep_kept (L := M) s.n kept_nm rfl)
  have HD := hide (keep_without s.n M)
  -- the closed one
  have hba := one_alloc w1 #[] 39
  have HA := hide (And.intro (show Own (w1.alloc (.cells #[] 39)) w1.heap.size (.slice (some ⟨w1.heap.size, 0, none⟩) 0 0) [] from World.ownsRow_lit w1 #[] 0 (Nat.le_refl _) (by decide) rfl) (And.intro (hrow.below hba) hba))
  have HROW := hide hrow
  clear hrow hba
  go_wp2_with (first
    | (at_builtin; refine wpList_append_Row rfl (.tmp 10) (.tmp 11) rfl w1.heap.size (.slice (some ⟨w1.heap.size, 0, none⟩) 0 0) (.slice ar M.length cr) [] M rfl rfl HA.out.1 HA.out.2.1 (by simp; omega) HA.out.2.2.size ?_; intro v2 w2 ho2 hg2; have hb2 := HA.out.2.2.grown hg2 HA.out.2.2.size (own_block HA.out.1); have hba2 := hb2.alloc hb2.size (.cells #[.string closedF.1, .string closedF.2] 39); have HO2 := hide (And.intro (ho2.alloc (.cells #[.string closedF.1, .string closedF.2] 39)) (And.intro (row_one w2 closedF) hba2)); clear ho2 hg2 hb2 hba2)
    | (at_builtin; refine wpList_append_Row rfl (.tmp 12) (.tmp 14) rfl w1.heap.size v2 (.slice (some ⟨w2.heap.size, 0, none⟩) 1 1) ([] ++ M) [closedF] rfl rfl HO2.out.1 HO2.out.2.1 (by simp; omega) HO2.out.2.2.size ?_; intro v3 w3 ho3 hg3; have hb3 := HO2.out.2.2.grown hg3 HO2.out.2.2.size (own_block HO2.out.1); have hr3 := HROW.out.below hb3; have hba3 := one_alloc w3 #[] 39; have HA3 := hide (And.intro (show Own (w3.alloc (.cells #[] 39)) w3.heap.size (.slice (some ⟨w3.heap.size, 0, none⟩) 0 0) [] from World.ownsRow_lit w3 #[] 0 (Nat.le_refl _) (by decide) rfl) (And.intro (hr3.below hba3) hba3)); clear hg3 HO2 hr3 hba3)
    | (at_builtin; refine wpList_append_Row rfl (.tmp 16) (.tmp 17) rfl w3.heap.size (.slice (some ⟨w3.heap.size, 0, none⟩) 0 0) (.slice ar M.length cr) [] M rfl rfl HA3.out.1 HA3.out.2.1 (by simp; omega) HA3.out.2.2.size ?_; intro v4 w4 ho4 hg4; have hb4 := HA3.out.2.2.grown hg4 HA3.out.2.2.size (own_block HA3.out.1); have hba4 := hb4.alloc hb4.size (.cells #[.string keptF.1, .string keptF.2] 39); have HO4 := hide (And.intro (ho4.alloc (.cells #[.string keptF.1, .string keptF.2] 39)) (And.intro (row_one w4 keptF) hba4)); clear ho4 hg4 hb4 hba4)
    | (at_builtin; refine wpList_append_Row rfl (.tmp 18) (.tmp 20) rfl w3.heap.size v4 (.slice (some ⟨w4.heap.size, 0, none⟩) 1 1) ([] ++ M) [keptF] rfl rfl HO4.out.1 HO4.out.2.1 (by simp; omega) HO4.out.2.2.size ?_; intro v5 w5 ho5 hg5; have hb5 := HO4.out.2.2.grown hg5 HO4.out.2.2.size (own_block HO4.out.1); clear hg5 HO4 HA3))
  rw [List.nil_append] at ho3 ho5
  have HCR := hide (ho3.below hb5).row
  have HKR := hide ho5.row
  have hb15 := hb3.trans (hb5.mono hb3.size)
  have HMR := hide (HROW.out.below hb15)
  have HB5 := hide (HBX.out.below hb15)
  have hB5 := hB1.trans (hb15.mono hB1.size)
  clear ho3 ho5 hb3 hb5 hb15 HROW HBX hB1 HA
  refine (refremove_any M (.slice ar M.length cr) connW w5 HMR.out (by omega) hsm.sh (by decide)).mono ?_
  rintro e w6 ⟨r6, rfl, ho6, hb6⟩
  rw [del_low low_conn] at ho6
  have HCR6 := hide (HCR.out.below hb6)
  have HKR6 := hide (HKR.out.below hb6)
  have HMR6 := hide (HMR.out.below hb6)
  have HB6 := hide (HB5.out.below hb6)
  have HDR6 := hide ho6.row
  have hB6 := hB5.trans (hb6.mono hB5.size)
  clear HCR HKR HMR HB5 ho6 hb6 hB5
  generalize M ++ [closedF] = CL at *
  generalize M ++ [keptF] = KL at *
  generalize delF connS M = DL at *
  go_wp2_with fail
  have HC : Hid (keepF s.n CL = false) := HC
  obtain ⟨q, hq⟩ : ∃ q, (s.n == 1) = q := ⟨_, rfl⟩
  have HD2 : Hid (keepF s.n DL = q) := by unfold Hid; rw [HD.out, ← hq]; rfl
  obtain ⟨kk, hkk⟩ : ∃ kk, keepF 1 M = kk := ⟨_, rfl⟩
  have HK2 : Hid (keepF s.n KL = kk) := by unfold Hid; rw [HK.out, hkk]
  have HK1 := hide hkk
  clear HD HK hkk
  have H7 := hide (fun (W : World) (h : Below w6.heap.size w6 W) => HCR6.out.below h)
  have H8 := hide (fun (W : World) (h : Below w6.heap.size w6 W) => HDR6.out.below h)
  have H9 := hide (fun (W : World) (h : Below w6.heap.size w6 W) => HKR6.out.below h)
  have H10 := hide (fun (W : World) (h : Below w6.heap.size w6 W) => HMR6.out.below h)
  have H11 := hide (fun (W : World) (h : Below w6.heap.size w6 W) => HB6.out.below h)
  refine wp_region_held_drew (S := (fun w' => Below w6.heap.size w6 w' ∧ Bx w' w.heap.size s)) (by kernel_rfl) (⟨(Below.refl _ _).drew, HB6.out.below (Below.refl _ _).drew⟩) (fun hHeld => ?_)
  refine wpAnyH_ready (rs := [0]) (by kernel_rfl) (by simp) ?_
  refine AllReadyH.cons (o := _) rfl (fun K hK => ?_) AllReadyH.nil
  go_simp
  refine (alive_any w6.drew).mono ?_
  rintro e w7 ⟨rfl, hb7⟩
  have hW7 : Below w6.heap.size w6 w7 := (Below.refl _ _).drew.trans hb7
  have hS7 : Below w6.heap.size w6 w7 ∧ Bx w7 w.heap.size s := ⟨hW7, H11.out _ hW7⟩
  clear hb7
  refine hK.out _ _ (hS7) (fun hHeld => ?_)
  clear hK K
  refine wpAnyH_take (i := 1) (oi := _) (v := .bool true) rfl (by kernel_rfl) (by kernel_rfl) (by kernel_rfl) (fun _ _ _ h => h) (Or.inl ⟨by kernel_rfl, fun wS hSw => by skip; go_simp⟩) (by first | trivial | assumption) ?_
  simp only [Act.put, List.getElem_toArray, List.getElem_cons_zero, List.getElem_cons_succ, List.setIfInBounds_toArray, List.set_cons_zero, List.set_cons_succ]
  refine wpAnyH_take (i := 2) (oi := _) (v := .agg #[.string s.m, .string s.t, .int .i64 s.c, .string s.r, .int .i64 s.n]) rfl (by kernel_rfl) (by kernel_rfl) (by kernel_rfl) (fun _ _ _ h => h) (Or.inl ⟨by kernel_rfl, fun wS hSw => by obtain ⟨_, h0, h1, h2, h3, h4, _⟩ := hSw; go_simp⟩) (by first | trivial | assumption) ?_
  simp only [Act.put, List.getElem_toArray, List.getElem_cons_zero, List.getElem_cons_succ, List.setIfInBounds_toArray, List.set_cons_zero, List.set_cons_succ]
  refine wpAnyH_take (i := 3) (oi := _) (v := v3) rfl (by kernel_rfl) (by kernel_rfl) (by kernel_rfl) (fun _ _ _ h => h) (Or.inl ⟨by kernel_rfl, fun wS hSw => by skip; go_simp⟩) (by first | trivial | assumption) ?_
  simp only [Act.put, List.getElem_toArray, List.getElem_cons_zero, List.getElem_cons_succ, List.setIfInBounds_toArray, List.set_cons_zero, List.set_cons_succ]
  refine wpAnyH_ready (rs := [4]) (by kernel_rfl) (by simp) ?_
  refine AllReadyH.cons (o := _) rfl (fun K hK => ?_) AllReadyH.nil
  go_simp
  refine (keeps_any s CL v3 w7 (H7.out _ hW7) hCl hCs).mono ?_
  rintro e w8 ⟨rfl, hb8⟩
  rw [HC.out]
  have hW8 : Below w6.heap.size w6 w8 := hW7.trans (hb8.mono hW7.size)
  have hS8 : Below w6.heap.size w6 w8 ∧ Bx w8 w.heap.size s := ⟨hW8, H11.out _ hW8⟩
  clear hb8
  refine hK.out _ _ (hS8) (fun hHeld => ?_)
  clear hK K
  refine wpAnyH_take (i := 5) (oi := _) (v := .bool true) rfl (by kernel_rfl) (by kernel_rfl) (by kernel_rfl) (fun _ _ _ h => h) (Or.inl ⟨by kernel_rfl, fun wS hSw => by skip; go_simp⟩) (by first | trivial | assumption) ?_
  simp only [Act.put, List.getElem_toArray, List.getElem_cons_zero, List.getElem_cons_succ, List.setIfInBounds_toArray, List.set_cons_zero, List.set_cons_succ]
  refine wpAnyH_take (i := 6) (oi := _) (v := .bool true) rfl (by kernel_rfl) (by kernel_rfl) (by kernel_rfl) (fun _ _ _ h => h) (Or.inl ⟨by kernel_rfl, fun wS hSw => by skip; go_simp⟩) (by first | trivial | assumption) ?_
  simp only [Act.put, List.getElem_toArray, List.getElem_cons_zero, List.getElem_cons_succ, List.setIfInBounds_toArray, List.set_cons_zero, List.set_cons_succ]
  refine wpAnyH_take (i := 7) (oi := _) (v := .bool true) rfl (by kernel_rfl) (by kernel_rfl) (by kernel_rfl) (fun _ _ _ h => h) (Or.inl ⟨by kernel_rfl, fun wS hSw => by skip; go_simp⟩) (by first | trivial | assumption) ?_
  simp only [Act.put, List.getElem_toArray, List.getElem_cons_zero, List.getElem_cons_succ, List.setIfInBounds_toArray, List.set_cons_zero, List.set_cons_succ]
  refine wpAnyH_take (i := 8) (oi := _) (v := .agg #[.string s.m, .string s.t, .int .i64 s.c, .string s.r, .int .i64 s.n]) rfl (by kernel_rfl) (by kernel_rfl) (by kernel_rfl) (fun _ _ _ h => h) (Or.inl ⟨by kernel_rfl, fun wS hSw => by obtain ⟨_, h0, h1, h2, h3, h4, _⟩ := hSw; go_simp⟩) (by first | trivial | assumption) ?_
  simp only [Act.put, List.getElem_toArray, List.getElem_cons_zero, List.getElem_cons_succ, List.setIfInBounds_toArray, List.set_cons_zero, List.set_cons_succ]
  refine wpAnyH_take (i := 9) (oi := _) (v := r6) rfl (by kernel_rfl) (by kernel_rfl) (by kernel_rfl) (fun _ _ _ h => h) (Or.inl ⟨by kernel_rfl, fun wS hSw => by skip; go_simp⟩) (by first | trivial | assumption) ?_
  simp only [Act.put, List.getElem_toArray, List.getElem_cons_zero, List.getElem_cons_succ, List.setIfInBounds_toArray, List.set_cons_zero, List.set_cons_succ]
  refine wpAnyH_take (i := 11) (oi := _) (v := .pointer (some ⟨w.heap.size, 4, none⟩)) rfl (by kernel_rfl) (by kernel_rfl) (by kernel_rfl) (fun _ _ _ h => h) (Or.inl ⟨by kernel_rfl, fun wS hSw => by skip; go_simp⟩) (by first | trivial | assumption) ?_
  simp only [Act.put, List.getElem_toArray, List.getElem_cons_zero, List.getElem_cons_succ, List.setIfInBounds_toArray, List.set_cons_zero, List.set_cons_succ]
  refine wpAnyH_take (i := 12) (oi := _) (v := .int .i64 s.n) rfl (by kernel_rfl) (by kernel_rfl) (by kernel_rfl) (fun _ _ _ h => h) (Or.inl ⟨by kernel_rfl, fun wS hSw => by obtain ⟨_, h0, h1, h2, h3, h4, _⟩ := hSw; go_simp⟩) (by first | trivial | assumption) ?_
  simp only [Act.put, List.getElem_toArray, List.getElem_cons_zero, List.getElem_cons_succ, List.setIfInBounds_toArray, List.set_cons_zero, List.set_cons_succ]
  refine wpAnyH_take (i := 13) (oi := _) (v := .bool q) rfl (by kernel_rfl) (by kernel_rfl) (by kernel_rfl) (fun _ _ _ h => h) (Or.inl ⟨by kernel_rfl, fun wS hSw => by skip; go_simp⟩) (by first | trivial | assumption) ?_
  simp only [Act.put, List.getElem_toArray, List.getElem_cons_zero, List.getElem_cons_succ, List.setIfInBounds_toArray, List.set_cons_zero, List.set_cons_succ]
  refine wpAnyH_ready (rs := [10]) (by kernel_rfl) (by simp) ?_
  refine AllReadyH.cons (o := _) rfl (fun K hK => ?_) AllReadyH.nil
  go_simp
  refine (keeps_any s DL r6 w8 (H8.out _ hW8) (by omega) hDs).mono ?_
  rintro e w9 ⟨rfl, hb9⟩
  rw [HD2.out]
  have hW9 : Below w6.heap.size w6 w9 := hW8.trans (hb9.mono hW8.size)
  have hS9 : Below w6.heap.size w6 w9 ∧ Bx w9 w.heap.size s := ⟨hW9, H11.out _ hW9⟩
  clear hb9
  refine hK.out _ _ (hS9) (fun hHeld => ?_)
  clear hK K
  refine wpAnyH_take (i := 14) (oi := _) (v := .bool true) rfl (by kernel_rfl) (by kernel_rfl) (by kernel_rfl) (fun _ _ _ h => h) (Or.inl ⟨by kernel_rfl, fun wS hSw => by skip; go_simp⟩) (by first | trivial | assumption) ?_
  simp only [Act.put, List.getElem_toArray, List.getElem_cons_zero, List.getElem_cons_succ, List.setIfInBounds_toArray, List.set_cons_zero, List.set_cons_succ]
  refine wpAnyH_take (i := 15) (oi := _) (v := .bool true) rfl (by kernel_rfl) (by kernel_rfl) (by kernel_rfl) (fun _ _ _ h => h) (Or.inl ⟨by kernel_rfl, fun wS hSw => by skip; go_simp⟩) (by first | trivial | assumption) ?_
  simp only [Act.put, List.getElem_toArray, List.getElem_cons_zero, List.getElem_cons_succ, List.setIfInBounds_toArray, List.set_cons_zero, List.set_cons_succ]
  refine wpAnyH_take (i := 16) (oi := _) (v := .bool true) rfl (by kernel_rfl) (by kernel_rfl) (by kernel_rfl) (fun _ _ _ h => h) (Or.inl ⟨by kernel_rfl, fun wS hSw => by skip; go_simp⟩) (by first | trivial | assumption) ?_
  simp only [Act.put, List.getElem_toArray, List.getElem_cons_zero, List.getElem_cons_succ, List.setIfInBounds_toArray, List.set_cons_zero, List.set_cons_succ]
  refine wpAnyH_take (i := 17) (oi := _) (v := .agg #[.string s.m, .string s.t, .int .i64 s.c, .string s.r, .int .i64 s.n]) rfl (by kernel_rfl) (by kernel_rfl) (by kernel_rfl) (fun _ _ _ h => h) (Or.inl ⟨by kernel_rfl, fun wS hSw => by obtain ⟨_, h0, h1, h2, h3, h4, _⟩ := hSw; go_simp⟩) (by first | trivial | assumption) ?_
  simp only [Act.put, List.getElem_toArray, List.getElem_cons_zero, List.getElem_cons_succ, List.setIfInBounds_toArray, List.set_cons_zero, List.set_cons_succ]
  refine wpAnyH_take (i := 18) (oi := _) (v := v5) rfl (by kernel_rfl) (by kernel_rfl) (by kernel_rfl) (fun _ _ _ h => h) (Or.inl ⟨by kernel_rfl, fun wS hSw => by skip; go_simp⟩) (by first | trivial | assumption) ?_
  simp only [Act.put, List.getElem_toArray, List.getElem_cons_zero, List.getElem_cons_succ, List.setIfInBounds_toArray, List.set_cons_zero, List.set_cons_succ]
  refine wpAnyH_take (i := 20) (oi := _) (v := .agg #[.string ⟨#[]⟩, .string ⟨#[]⟩, .int .i64 0, .string ⟨#[]⟩, .int .i64 1]) rfl (by kernel_rfl) (by kernel_rfl) (by kernel_rfl) (fun _ _ _ h => h) (Or.inl ⟨by kernel_rfl, fun wS hSw => by skip; go_simp⟩) (by first | trivial | assumption) ?_
  simp only [Act.put, List.getElem_toArray, List.getElem_cons_zero, List.getElem_cons_succ, List.setIfInBounds_toArray, List.set_cons_zero, List.set_cons_succ]
  refine wpAnyH_take (i := 21) (oi := _) (v := .slice ar M.length cr) rfl (by kernel_rfl) (by kernel_rfl) (by kernel_rfl) (fun _ _ _ h => h) (Or.inl ⟨by kernel_rfl, fun wS hSw => by skip; go_simp⟩) (by first | trivial | assumption) ?_
  simp only [Act.put, List.getElem_toArray, List.getElem_cons_zero, List.getElem_cons_succ, List.setIfInBounds_toArray, List.set_cons_zero, List.set_cons_succ]
  refine wpAnyH_ready (rs := [19]) (by kernel_rfl) (by simp) ?_
  refine AllReadyH.cons (o := _) rfl (fun K hK => ?_) AllReadyH.nil
  go_simp
  refine (keeps_any s KL v5 w9 (H9.out _ hW9) hKl hKs).mono ?_
  rintro e w10 ⟨rfl, hb10⟩
  rw [HK2.out]
  have hW10 : Below w6.heap.size w6 w10 := hW9.trans (hb10.mono hW9.size)
  have hS10 : Below w6.heap.size w6 w10 ∧ Bx w10 w.heap.size s := ⟨hW10, H11.out _ hW10⟩
  clear hb10
  refine hK.out _ _ (hS10) (fun hHeld => ?_)
  clear hK K
  refine wpAnyH_ready (rs := [22]) (by kernel_rfl) (by simp) ?_
  refine AllReadyH.cons (o := _) rfl (fun K hK => ?_) AllReadyH.nil
  go_simp
  refine (keeps_any ⟨⟨#[]⟩, ⟨#[]⟩, 0, ⟨#[]⟩, 1⟩ M (.slice ar M.length cr) w10 (H10.out _ hW10) (by omega) hsm).mono ?_
  rintro e w11 ⟨rfl, hb11⟩
  rw [HK1.out]
  have hW11 : Below w6.heap.size w6 w11 := hW10.trans (hb11.mono hW10.size)
  have hS11 : Below w6.heap.size w6 w11 ∧ Bx w11 w.heap.size s := ⟨hW11, H11.out _ hW11⟩
  clear hb11
  refine hK.out _ _ (hS11) (fun hHeld => ?_)
  clear hK K
  refine wpAnyH_take (i := 23) (oi := _) (v := .bool true) rfl (by kernel_rfl) (by kernel_rfl) (by kernel_rfl) (fun _ _ _ h => h) (Or.inl ⟨by kernel_rfl, fun wS hSw => by skip; go_simp⟩) (by first | trivial | assumption) ?_
  simp only [Act.put, List.getElem_toArray, List.getElem_cons_zero, List.getElem_cons_succ, List.setIfInBounds_toArray, List.set_cons_zero, List.set_cons_succ]
  refine wpAnyH_take (i := 24) (oi := _) (v := .bool true) rfl (by kernel_rfl) (by kernel_rfl) (by kernel_rfl) (fun _ _ _ h => h) (Or.inl ⟨by kernel_rfl, fun wS hSw => by skip; go_simp⟩) (by first | trivial | assumption) ?_
  simp only [Act.put, List.getElem_toArray, List.getElem_cons_zero, List.getElem_cons_succ, List.setIfInBounds_toArray, List.set_cons_zero, List.set_cons_succ]
  refine wpAnyH_ready (rs := [25]) (by kernel_rfl) (by simp) ?_
  refine AllReadyH.cons (o := _) rfl (fun K hK => ?_) AllReadyH.nil
  go_simp
  refine hK.out _ _ (hS11) (fun hHeld => ?_)
  clear hK K
  refine wpAnyH_done (by kernel_rfl) ?_ _
  go_wp2_with fail
  go_ret
  exact ⟨rfl, hB6.trans (hW11.mono hB6.size)⟩

end Go.Proofs.YtojoidhjlbcijaaDoor
