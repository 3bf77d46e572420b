/- The walk of StartBack. -/
import Derived.Test.YthpankelfhhjgaaDoorLa
import Derived.Laws.EntriesVeiled
namespace Go.Proofs.YthpankelfhhjgaaDoor
set_option linter.unusedVariables false
set_option linter.unusedSimpArgs false
open Go.RowKit

theorem cf8 (a : Array Value) (w1 : World) : Sem.run Tryd.prog (callFunc 8 a) w1 = .ok (.enter 8 a) w1 := by kernel_rfl
theorem cf10 (a : Array Value) (w1 : World) : Sem.run Tryd.prog (callFunc 10 a) w1 = .ok (.enter 10 a) w1 := by kernel_rfl

/-- The two readers lie in block N. -/
structure Rds (w : World) (N : Nat) : Prop where
  c0 : w.cell? ⟨N, 0, none⟩ = some (.func (.func 8) #[] #[])
  c1 : w.cell? ⟨N, 1, none⟩ = some (.func (.func 10) #[] #[])
  lt : N < w.heap.size
theorem Rds.below {w w' : World} {N : Nat} (h : Rds w N) (hb : Below w.heap.size w w') : Rds w' N := by
  have hc : ∀ k, w'.cell? ⟨N, k, none⟩ = w.cell? ⟨N, k, none⟩ := fun k => hb.cell (p := ⟨N, k, none⟩) h.lt
  exact ⟨(hc 0).trans h.c0, (hc 1).trans h.c1, Nat.lt_of_lt_of_le h.lt hb.size⟩
theorem Rds.alloc {w : World} {N : Nat} (h : Rds w N) (o : Obj) : Rds (w.alloc o) N := h.below ((Below.refl _ _).alloc (Nat.le_refl _) o)
theorem Rds.new (w : World) (t : TypeId) : Rds (w.alloc (.cells #[.func (.func 8) #[] #[], .func (.func 10) #[] #[]] t)) w.heap.size :=
  ⟨by rw [World.cell?_alloc_new]; rfl, by rw [World.cell?_alloc_new]; rfl, by simp⟩

/-- A reader: what it answers, and that what is read is read again. -/
structure Reader (RD : FuncId) (U : ByteArray → St) : Prop where
  cf : ∀ (a : Array Value) (w1 : World), Sem.run Tryd.prog (callFunc RD a) w1 = .ok (.enter RD a) w1
  any : ∀ (s : ByteArray) (w : World), s.size ≤ 5000 → Calls Tryd.prog RD #[.string s] w fun e w' => e = .returned (.tuple #[(gvU (U s)).v, .int .i64 (gvE (U s))]) ∧ Below w.heap.size w w'
  back : ∀ s : ByteArray, rtB (U s) = true → U (wrS (U s)) = U s
  short : ∀ s : ByteArray, s.size ≤ 5000 → Short (U s)
theorem reader8 : Reader 8 psU := ⟨cf8, fun s w h => parse_any s w h, fun s h => back_req h rfl, fun s h => ps_short h⟩
theorem reader10 : Reader 10 stU := ⟨cf10, fun s w h => status_any s w h, fun s h => back_sta h (st_code h), fun s h => st_short h⟩
theorem Rds.pick {w : World} {N : Nat} (h : Rds w N) {k : Nat} (hk : k < 2) : ∃ RD U, w.cell? ⟨N, k, none⟩ = some (.func (.func RD) #[] #[]) ∧ Reader RD U := by
  match k, hk with
  | 0, _ => exact ⟨8, psU, h.c0, reader8⟩
  | 1, _ => exact ⟨10, stU, h.c1, reader10⟩

set_option maxRecDepth 100000 in
set_option maxHeartbeats 4000000 in
theorem back_walk (u : St) (s : ByteArray) (w : World) (h1 : u.m.size ≤ maxLen) (h2 : u.t.size ≤ maxLen) (h3 : u.r.size ≤ maxLen) (hs : s.size ≤ maxLen) (ht : Tabs w) :
    Calls Tryd.prog 4 #[u.v, .string s] w fun e w' => e = .returned (.bool true) ∧ Below w.heap.size w w' := by
  have hnew := Five.new w u
  have hbn : Below w.heap.size w (w.alloc (.cells u.cs.toArray 23)) := (Below.refl _ _).alloc (Nat.le_refl _) _
  unfold St.cs at hnew hbn
  have hfew := few_any u
  have hsx := few_cut s 600
  unfold maxLen at hs
  go_enter Tryd.func4, Tryd.ntmps4
  unfold St.v
  go_wp2_with fail
  generalize World.alloc _ _ = W0 at hnew hbn ⊢
  go_cut [1] (fun s1 wc => s1 = .string (s.extract 0 (min (s.size : Int) 600).toNat) ∧ Five wc w.heap.size (fewU u) ∧ Below w.heap.size w wc)
  case first =>
    obtain ⟨c0, c1, c2, c3, c4, -, -⟩ := id hnew.drew
    refine wp_region_held_drew (S := (fun _ => True)) (by kernel_rfl) (trivial) (fun hHeld => ?_)
    refine wpAnyH_take (i := 2) (oi := _) (v := .string s) rfl (by kernel_rfl) (by kernel_rfl) (by kernel_rfl) (fun _ _ _ h => h) (Or.inl ⟨by rfl, fun wS hSw => by go_simp⟩) (by first | trivial | assumption) ?_
    simp only [Act.put, List.setIfInBounds_toArray, List.set_cons_zero, List.set_cons_succ]
    refine wpAnyH_take (i := 3) (oi := _) (v := .string s) rfl (by kernel_rfl) (by kernel_rfl) (by kernel_rfl) (fun _ _ _ h => h) (Or.inl ⟨by rfl, fun wS hSw => by go_simp⟩) (by first | trivial | assumption) ?_
    simp only [Act.put, List.setIfInBounds_toArray, List.set_cons_zero, List.set_cons_succ]
    refine wpAnyH_take (i := 4) (oi := _) (v := .int .i64 s.size) rfl (by kernel_rfl) (by kernel_rfl) (by kernel_rfl) (fun _ _ _ h => h) (Or.inl ⟨by rfl, fun wS hSw => by go_simp⟩) (by first | trivial | assumption) ?_
    simp only [Act.put, List.setIfInBounds_toArray, List.set_cons_zero, List.set_cons_succ]
    refine wpAnyH_take (i := 5) (oi := _) (v := .int .i64 (min (s.size : Int) 600)) rfl (by kernel_rfl) (by kernel_rfl) (by kernel_rfl) (fun _ _ _ h => h) (Or.inl ⟨by rfl, fun wS hSw => by go_simp⟩) (by first | trivial | assumption) ?_
    simp only [Act.put, List.setIfInBounds_toArray, List.set_cons_zero, List.set_cons_succ]
    refine wpAnyH_take (i := 6) (oi := _) (v := .string (s.extract 0 (min (s.size : Int) 600).toNat)) rfl (by kernel_rfl) (by kernel_rfl) (by kernel_rfl) (fun _ _ _ h => h) (Or.inl ⟨by rfl, fun wS hSw => by go_simp; intro hx; exfalso; have := hx (by omega); omega⟩) (by first | trivial | assumption) ?_
    simp only [Act.put, List.setIfInBounds_toArray, List.set_cons_zero, List.set_cons_succ]
    refine wpAnyH_ready (rs := [0]) (by kernel_rfl) (by simp) ?_
    refine AllReadyH.cons (o := _) rfl (fun K hK => ?_) AllReadyH.nil
    go_simp
    refine hK.out _ _ (trivial) (fun hHeld => ?_)
    clear hK K
    refine wpAnyH_ready (rs := [1]) (by kernel_rfl) (by simp) ?_
    refine AllReadyH.cons (o := _) rfl (fun K hK => ?_) AllReadyH.nil
    go_simp
    refine (hfew W0.drew h1 h2 h3).mono ?_
    rintro e w1 ⟨rfl, hb1⟩
    unfold St.v
    refine hK.out _ _ (trivial) (fun hHeld => ?_)
    clear hK K
    have hN1 := hnew.drew.below hb1
    have hB1 := (below_drew hbn).trans (hb1.mono (below_drew hbn).size)
    obtain ⟨d0, d1, d2, d3, d4, -, df⟩ := id hN1
    refine wpAnyH_ready (rs := [7]) (by kernel_rfl) (by simp) ?_
    refine AllReadyH.cons (o := _) rfl (fun K hK => ?_) AllReadyH.nil
    go_simp
    refine hK.out _ _ (trivial) (fun hHeld => ?_)
    clear hK K
    refine wpAnyH_ready (rs := [8]) (by kernel_rfl) (by simp) ?_
    refine AllReadyH.cons (o := _) rfl (fun K hK => ?_) AllReadyH.nil
    go_simp
    refine hK.out _ _ (trivial) (fun hHeld => ?_)
    clear hK K
    refine wpAnyH_done (by kernel_rfl) ?_ _
    go_wp2_with fail
    go_meet
    exact ⟨rfl, put5_five hN1 (fewU u), put5_below hB1 (Nat.le_refl _) (fewU u)⟩
  case rest =>
    clear hnew hbn
    obtain ⟨rfl, hN, hB⟩ := hcut
    have hsh := few_short u
    have hsx' : (s.extract 0 (min (s.size : Int) 600).toNat).size ≤ 600 := hsx
    clear hsx
    generalize fewU u = F at hN hsh ⊢
    generalize s.extract 0 (min (s.size : Int) 600).toNat = L at hsx' ⊢
    clear hfew h1 h2 h3
    have htc := ht.below hB
    obtain ⟨c0, c1, c2, c3, c4, -, -⟩ := id hN
    go_wp2_with fail
    refine (print_any F _ hsh htc).mono ?_
    rintro e w1 ⟨rfl, hb1⟩
    have hN1 := hN.below hb1
    have hB1 := hB.trans (hb1.mono hB.size)
    clear hb1 hN hB htc c0 c1 c2 c3 c4
    go_upto_if 32 with fail
    go_cut [5, 6, 7, 8, 9, 10] (fun s5 s6 s7 s8 s9 s10 wd => Below w.heap.size w wd)
    case first =>
      cases hrt : rtB F
      · have e1 := (pr_no hrt).2
        rw [e1]
        go_wp2_with fail
        go_meet
        exact hB1
      · have e1 := (pr_yes hrt).2
        have e2 := (pr_yes hrt).1
        rw [e1, e2]
        have hwl := wr_size hrt
        by_cases hc : F.c = 0
        · have HP := hide (fun W => parse_yes hrt (back_req hrt hc) W hwl)
          have HS := hide (fun W => status_not (not_sta hrt hc) W hwl)
          have d1 : (F.c == 0) = true := by rw [hc]; rfl
          have d2 : (F.c != 0) = false := by rw [hc]; rfl
          generalize wrS F = T at HP HS
          clear hc hrt e1 e2
          go_wp2_with fail
          refine (HP.out _).mono ?_
          rintro e w2 ⟨rfl, hb2⟩
          have hN2 := (hN1.below hb2).alloc (.cells F.cs.toArray 23)
          have hX2 := Five.new w2 F
          have hB2 := hB1.trans (hb2.mono hB1.size)
          have hB3 : Below w.heap.size w (w2.alloc (.cells F.cs.toArray 23)) := hB2.alloc hB2.size _
          unfold St.v
          unfold St.cs at hN2 hX2 hB3
          clear hN1 hB1 hb2 hB2
          go_wp2_with fail
          generalize w2.alloc _ = W2 at hN2 hX2 hB3 ⊢
          generalize w2.heap.size = NX at hX2 ⊢
          refine (HS.out _).mono ?_
          rintro e w3 ⟨rfl, hb3⟩
          have hN4 := (hN2.below hb3).alloc (.cells St.no.cs.toArray 23)
          have hX4 := (hX2.below hb3).alloc (.cells St.no.cs.toArray 23)
          have hB4 := hB3.trans (hb3.mono hB3.size)
          have hB5 : Below w.heap.size w (w3.alloc (.cells St.no.cs.toArray 23)) := hB4.alloc hB4.size _
          unfold St.v
          unfold St.no noS
          unfold St.cs St.no noS at hN4 hX4 hB5
          dsimp only at hN4 hX4 hB5
          clear hN2 hX2 hB3 hb3 hB4
          go_upto_region 6 with fail
          generalize w3.alloc _ = W4 at hN4 hX4 hB5 ⊢
          obtain ⟨a0, a1, a2, a3, a4, -, -⟩ := hN4
          obtain ⟨b0, b1, b2, b3, b4, -, -⟩ := hX4
          go_wp2_with fail
          go_meet
          exact hB5
        · have HP := hide (fun W => parse_not (not_req hrt hc) W hwl)
          have HS := hide (fun W => status_yes hrt (back_sta hrt hc) W hwl)
          have d1 : (F.c == 0) = false := by simpa using hc
          have d2 : (F.c != 0) = true := by simpa using hc
          generalize wrS F = T at HP HS
          clear hc hrt e1 e2
          go_wp2_with fail
          refine (HP.out _).mono ?_
          rintro e w2 ⟨rfl, hb2⟩
          have hN2 := (hN1.below hb2).alloc (.cells St.no.cs.toArray 23)
          have hB2 := hB1.trans (hb2.mono hB1.size)
          have hB3 : Below w.heap.size w (w2.alloc (.cells St.no.cs.toArray 23)) := hB2.alloc hB2.size _
          unfold St.v
          unfold St.no noS
          unfold St.cs St.no noS at hN2 hB3
          dsimp only at hN2 hB3
          clear hN1 hB1 hb2 hB2
          go_wp2_with fail
          generalize w2.alloc _ = W2 at hN2 hB3 ⊢
          generalize w2.heap.size = NX
          refine (HS.out _).mono ?_
          rintro e w3 ⟨rfl, hb3⟩
          have hN4 := (hN2.below hb3).alloc (.cells F.cs.toArray 23)
          have hX4 := Five.new w3 F
          have hB4 := hB3.trans (hb3.mono hB3.size)
          have hB5 : Below w.heap.size w (w3.alloc (.cells F.cs.toArray 23)) := hB4.alloc hB4.size _
          unfold St.v
          unfold St.cs at hN4 hX4 hB5
          clear hN2 hB3 hb3 hB4
          go_upto_region 6 with fail
          generalize w3.alloc _ = W4 at hN4 hX4 hB5 ⊢
          generalize w3.heap.size = NY at hX4 ⊢
          obtain ⟨a0, a1, a2, a3, a4, -, -⟩ := hN4
          obtain ⟨b0, b1, b2, b3, b4, -, -⟩ := hX4
          go_wp2_with fail
          go_meet
          exact hB5
    case rest =>
      clear hN1 hB1 hsh
      have hB2 := hcut
      clear hcut
      have hR2 := Rds.new wc 29
      have hB3 : Below w.heap.size w (wc.alloc (.cells #[.func (.func 8) #[] #[], .func (.func 10) #[] #[]] 29)) := hB2.alloc hB2.size _
      go_wp2_with fail
      generalize wc.alloc _ = W3 at hR2 hB3 ⊢
      generalize wc.heap.size = NS at hR2 ⊢
      clear hB2
      go_loopw [79] (fun i wr => ∃ k : Nat, k ≤ 2 ∧ i = .int .i64 k ∧ Rds wr NS ∧ Below w.heap.size w wr) (fun i _ => 2 - (intOf i).toNat)
      case atStart => exact ⟨0, by omega, rfl, hR2, hB3⟩
      case round =>
        clear hR2 hB3
        obtain ⟨k, hk, rfl, hR, hB⟩ := hrel
        by_cases hlt : k < 2
        · have hltz : (k : Int) < 2 := by omega
          obtain ⟨RD, U, hcell, hrd⟩ := hR.pick hlt
          have hcf := hrd.cf
          have HA := hide hrd.any
          have hsh := hrd.short L (by omega)
          cases hrt : rtB (U L)
          · have e1 := (gv_no hrt).2
            have e2 := (gv_no hrt).1
            go_wp2_with fail
            refine (HA.out L _ (by omega)).mono ?_
            rintro e w4 ⟨rfl, hb4⟩
            rw [e1, e2]
            have hR4 := hR.below hb4
            have hB4 := hB.trans (hb4.mono hB.size)
            unfold St.v St.no noS
            go_wp2_with fail
            exact ⟨⟨k + 1, by omega, by go_num, hR4.alloc _, hB4.alloc hB4.size _⟩, by simp [intOf]; omega⟩
          · have e1 := (gv_yes hrt).2
            have e2 := (gv_yes hrt).1
            have HL := hide (HA.out L · (by omega))
            rw [e1, e2] at HL
            have hwl := wr_size hrt
            have HT := hide (HA.out (wrS (U L)) · hwl)
            rw [hrd.back L hrt, e1, e2] at HT
            have HPr := hide (print_yes hrt · hsh)
            have HRt := hide (right_any (U L) · hsh)
            rw [hrt] at HRt
            generalize wrS (U L) = T at HT HPr
            generalize U L = X at HL HT HPr HRt
            clear e1 e2 hwl HA hrt hsh hrd
            go_wp2_with fail
            refine (HL.out _).mono ?_
            rintro e w4 ⟨rfl, hb4⟩
            have hR4 := (hR.below hb4).alloc (.cells X.cs.toArray 23)
            have hX4 := Five.new w4 X
            have hB4 := hB.trans (hb4.mono hB.size)
            have hB5 : Below w.heap.size w (w4.alloc (.cells X.cs.toArray 23)) := hB4.alloc hB4.size _
            unfold St.v
            unfold St.cs at hR4 hX4 hB5
            clear hR hB hb4 hB4 hcell
            go_wp2_with fail
            generalize w4.alloc _ = W5 at hR4 hX4 hB5 ⊢
            generalize w4.heap.size = NX at hX4 ⊢
            refine (HPr.out _ (ht.below hB5)).mono ?_
            rintro e w6 ⟨rfl, hb6⟩
            have hR6 := hR4.below hb6
            have hX6 := hX4.below hb6
            have hB6 := hB5.trans (hb6.mono hB5.size)
            clear hR4 hX4 hB5 hb6
            go_wp2_with fail
            refine (HT.out _).mono ?_
            rintro e w7 ⟨rfl, hb7⟩
            have hR8 := (hR6.below hb7).alloc (.cells X.cs.toArray 23)
            have hX8 := (hX6.below hb7).alloc (.cells X.cs.toArray 23)
            have hY8 := Five.new w7 X
            have hB7 := hB6.trans (hb7.mono hB6.size)
            have hB8 : Below w.heap.size w (w7.alloc (.cells X.cs.toArray 23)) := hB7.alloc hB7.size _
            unfold St.v
            unfold St.cs at hR8 hX8 hY8 hB8
            clear hR6 hX6 hB6 hb7 hB7
            go_upto_region 15 with fail
            generalize w7.alloc _ = W8 at hR8 hX8 hY8 hB8 ⊢
            generalize w7.heap.size = NY at hY8 ⊢
            obtain ⟨a0, a1, a2, a3, a4, -, -⟩ := id hX8
            obtain ⟨b0, b1, b2, b3, b4, -, -⟩ := id hY8
            go_wp2_with fail
            refine (HRt.out _).mono ?_
            rintro e w9 ⟨rfl, hb9⟩
            have hR9 := hR8.below hb9
            have hB9 := hB8.trans (hb9.mono hB8.size)
            go_wp2_with fail
            exact ⟨⟨k + 1, by omega, by go_num, hR9, hB9⟩, by simp [intOf]; omega⟩
        · obtain rfl : k = 2 := by omega
          go_wp2_with fail
          refine (alive_any _).mono ?_
          rintro e w4 ⟨rfl, hb4⟩
          go_wp2_with fail
          go_ret
          exact ⟨rfl, hB.trans (hb4.mono hB.size)⟩

end Go.Proofs.YthpankelfhhjgaaDoor
