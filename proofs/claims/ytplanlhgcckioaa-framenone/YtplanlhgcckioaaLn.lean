/- The walk of FrameNone. -/
import Derived.Test.YtplanlhgcckioaaMh
import Derived.Test.YtplanlhgcckioaaRb
import Derived.Test.YtplanlhgcckioaaLs
namespace Go.Proofs.Ytplanlhgcckioaa
set_option linter.unusedVariables false
set_option linter.unusedSimpArgs false
set_option maxRecDepth 100000
open Go.RowKit

theorem rm1 (Q : List Fd) (v : Value) (w : World) (hr : Row w v Q) (hl : Q.length ≤ 100) (hs : Sh Q) :
    Calls Try.prog 15 #[v, .string ⟨#[99, 111, 110, 116, 101, 110, 116, 45, 108, 101, 110, 103, 116, 104]⟩] w fun e w' => ∃ r, e = .returned r ∧ Own w' w.heap.size r (delF lenS Q) ∧ Below w.heap.size w w' := by
  rw [← del_cl]; exact refremove_any Q v lenW w hr (by omega) hs (by decide)
theorem rm2 (Q : List Fd) (v : Value) (w : World) (hr : Row w v Q) (hl : Q.length ≤ 100) (hs : Sh Q) :
    Calls Try.prog 15 #[v, .string ⟨#[116, 114, 97, 110, 115, 102, 101, 114, 45, 101, 110, 99, 111, 100, 105, 110, 103]⟩] w fun e w' => ∃ r, e = .returned r ∧ Own w' w.heap.size r (delF tecS Q) ∧ Below w.heap.size w w' := by
  rw [← del_te]; exact refremove_any Q v tecW w hr (by omega) hs (by decide)

set_option maxHeartbeats 16000000 in
theorem none_walk (s : St) (L : List Fd) (ad : Option Addr) (cap : Nat) (nm0 val0 : ByteArray) (w : World) (h1 : s.m.size ≤ maxLen) (h2 : s.t.size ≤ maxLen) (h3 : s.r.size ≤ maxLen)
    (hr : Row w (.slice ad L.length cap) L) (hcm : cap ≤ maxLen) (hs : ∀ f ∈ L, f.1.size ≤ maxLen ∧ f.2.size ≤ maxLen) (hn0 : nm0.size ≤ maxLen) (hv0 : val0.size ≤ maxLen) :
    Calls Try.prog 4 #[s.v, .slice ad L.length cap, .string nm0, .string val0] w fun e w' => e = .returned (.bool true) ∧ Below w.heap.size w w' := by
  have hB : Below w.heap.size w (w.alloc (.cells s.cs.toArray 23)) := (Below.refl _ _).alloc (Nat.le_refl _) _
  have hF := Five.new w s
  have hR := hide (hr.below hB)
  have hsm := fun w => small_any s w h1 h2 h3
  have hfw := fun w h => few_own L ad cap w h hcm hs
  have hsh := small_short s
  unfold maxLen at hn0 hv0
  have hc1 := small_cut nm0 20
  have hc2 := small_cut val0 20
  unfold St.cs at hB hF hR
  clear hs hcm hr h1 h2 h3
  unfold St.v at hsm ⊢
  go_enter Try.func4, Try.ntmps4
  go_wp2_with fail
  generalize World.alloc _ _ = W1 at hF hB hR ⊢
  obtain ⟨c0, c1, c2, c3, c4, -, -⟩ := id hF
  go_wp2_with fail
  refine (hsm _).mono ?_
  rintro e w2 ⟨rfl, hb2⟩
  have hF2 := hF.below hb2
  have hB2 := hB.trans (hb2.mono hB.size)
  have hR2 := hide (hR.out.below hb2)
  clear c0 c1 c2 c3 c4 hF hB hR hb2
  go_wp2_with fail
  refine (hfw _ hR2.out).mono ?_
  rintro e w3 ⟨r, M, rfl, hR3, hM, hMs, hb3, hown⟩
  have hF3 := hF2.below hb3
  have hB3 := hB2.trans (hb3.mono hB2.size)
  have hfar : 0 < M.length → ∃ g n c, r = .slice (some ⟨g, 0, none⟩) n c ∧ w.heap.size < g := fun h => by
    obtain ⟨g, n, c, hg, hle⟩ := hown h
    exact ⟨g, n, c, hg, Nat.lt_of_lt_of_le hF2.lt hle⟩
  have HR4 := hide (row_put5 hR3 hfar (smU s))
  have hF4 := put5_five hF3 (smU s)
  have hB4 := put5_below hB3 (Nat.le_refl _) (smU s)
  obtain ⟨ar, cr, rfl⟩ := hR3.slice
  obtain ⟨d0, d1, d2, d3, d4, -, df⟩ := id hF3
  have HS := hide (few_sh hMs)
  clear hF2 hB2 hR2 hb3 hR3 hfar hown hMs hF3 hB3 hsm hfw
  generalize smU s = F at HR4 hF4 hB4 hsh ⊢
  unfold put5 at HR4 hF4 hB4
  go_upto_region 2 with fail
  generalize World.setCell _ _ _ = W4 at HR4 hF4 hB4 ⊢
  clear d0 d1 d2 d3 d4 df
  have hah : ∀ w0, Row w0 (.slice ar M.length cr) M → Calls Try.prog 9 #[F.v, .slice ar M.length cr, .string ⟨#[72, 69, 65, 68]⟩] w0 fun en w' => en = .returned (anV (ansF F M hdS)) ∧ Below w0.heap.size w0 w' := fun w0 h => answer_any F M hdS _ w0 hsh h (by omega) HS.out
  have hag : ∀ w0, Row w0 (.slice ar M.length cr) M → Calls Try.prog 9 #[F.v, .slice ar M.length cr, .string ⟨#[71, 69, 84]⟩] w0 fun en w' => en = .returned (anV (ansF F M gtS)) ∧ Below w0.heap.size w0 w' := fun w0 h => answer_any F M gtS _ w0 hsh h (by omega) HS.out
  have hrt := fun w => srefright_any F w hsh
  have hrf := fun v w h => refright_any M v w h (by omega) HS.out
  have HOK : Hid (okA F M = (rtB F && rightF M && !decide (F.c = 0))) := rfl
  cases hok : okA F M
  · rw [ans_no hdS hok] at hah
    rw [ans_no gtS hok] at hag
    rw [hok] at HOK
    clear hok
    cases h1 : rtB F
    · rw [h1] at hrt
      clear h1 HOK
      unfold St.v anV at hah hag
      unfold St.v at hrt
      obtain ⟨c0, c1, c2, c3, c4, -, -⟩ := id hF4
      go_wp2_with fail
      refine (hah _ HR4.out).mono ?_
      rintro en w5 ⟨rfl, hb⟩
      have hF5 := (hF4.below hb).alloc (.cells #[.int .i64 0, .int .i64 0] 28)
      have hB5' := hB4.trans (hb.mono hB4.size)
      have hB5 := hB5'.alloc hB5'.size (.cells #[.int .i64 0, .int .i64 0] 28)
      have HR5 := hide ((HR4.out.below hb).below (one_alloc _ #[.int .i64 0, .int .i64 0] 28))
      have hX5 := Tw.new w5 0 0
      go_upto_region 3 with fail
      generalize w5.alloc _ = W5 at hF5 hB5 HR5 hX5 ⊢
      generalize w5.heap.size = N5 at hX5 ⊢
      clear hF4 hB4 HR4 hB5' hb c0 c1 c2 c3 c4
      obtain ⟨c0, c1, c2, c3, c4, -, -⟩ := id hF5
      go_wp2_with fail
      refine (hag _ HR5.out).mono ?_
      rintro en w6 ⟨rfl, hb⟩
      have hF6 := (hF5.below hb).alloc (.cells #[.int .i64 0, .int .i64 0] 28)
      have hB6' := hB5.trans (hb.mono hB5.size)
      have hB6 := hB6'.alloc hB6'.size (.cells #[.int .i64 0, .int .i64 0] 28)
      have HR6 := hide ((HR5.out.below hb).below (one_alloc _ #[.int .i64 0, .int .i64 0] 28))
      have hX6 := (hX5.below hb).alloc (.cells #[.int .i64 0, .int .i64 0] 28)
      have hY6 := Tw.new w6 0 0
      go_upto_region 4 with fail
      generalize w6.alloc _ = W6 at hF6 hB6 HR6 hX6 hY6 ⊢
      generalize w6.heap.size = N6 at hY6 ⊢
      clear hF5 hB5 HR5 hB6' hb c0 c1 c2 c3 c4 hX5
      obtain ⟨c0, c1, c2, c3, c4, -, -⟩ := id hF6
      go_wp2_with fail
      refine (hrt _).mono ?_
      rintro en w7 ⟨rfl, hb⟩
      have hF7 := hF6.below hb
      have hB7 := hB6.trans (hb.mono hB6.size)
      have HR7 := hide (HR6.out.below hb)
      have hX7 := hX6.below hb
      have hY7 := hY6.below hb
      clear hF6 hB6 HR6 hb c0 c1 c2 c3 c4 hX6 hY6
      obtain ⟨c0, c1, c2, c3, c4, -, -⟩ := id hF7
      go_wp2_with fail
      refine (alive_any _).mono ?_
      rintro en w9 ⟨rfl, hb⟩
      have hB9 := hB7.trans (hb.mono hB7.size)
      have x0 := (hX7.below hb).c0
      have x1 := (hX7.below hb).c1
      have y0 := (hY7.below hb).c0
      have y1 := (hY7.below hb).c1
      go_wp2_with fail
      go_ret
      exact ⟨rfl, hB9⟩
    · rw [h1] at hrt HOK
      cases h2 : (F.c == 0)
      · have h3 : rightF M = false := by
          have := HOK.out
          rw [decide_eq_false (beq_eq_false_iff_ne.1 h2)] at this
          simpa using this.symm
        rw [h3] at hrf
        clear h1 h3 HOK
        unfold St.v anV at hah hag
        unfold St.v at hrt
        obtain ⟨c0, c1, c2, c3, c4, -, -⟩ := id hF4
        go_wp2_with fail
        refine (hah _ HR4.out).mono ?_
        rintro en w5 ⟨rfl, hb⟩
        have hF5 := (hF4.below hb).alloc (.cells #[.int .i64 0, .int .i64 0] 28)
        have hB5' := hB4.trans (hb.mono hB4.size)
        have hB5 := hB5'.alloc hB5'.size (.cells #[.int .i64 0, .int .i64 0] 28)
        have HR5 := hide ((HR4.out.below hb).below (one_alloc _ #[.int .i64 0, .int .i64 0] 28))
        have hX5 := Tw.new w5 0 0
        go_upto_region 3 with fail
        generalize w5.alloc _ = W5 at hF5 hB5 HR5 hX5 ⊢
        generalize w5.heap.size = N5 at hX5 ⊢
        clear hF4 hB4 HR4 hB5' hb c0 c1 c2 c3 c4
        obtain ⟨c0, c1, c2, c3, c4, -, -⟩ := id hF5
        go_wp2_with fail
        refine (hag _ HR5.out).mono ?_
        rintro en w6 ⟨rfl, hb⟩
        have hF6 := (hF5.below hb).alloc (.cells #[.int .i64 0, .int .i64 0] 28)
        have hB6' := hB5.trans (hb.mono hB5.size)
        have hB6 := hB6'.alloc hB6'.size (.cells #[.int .i64 0, .int .i64 0] 28)
        have HR6 := hide ((HR5.out.below hb).below (one_alloc _ #[.int .i64 0, .int .i64 0] 28))
        have hX6 := (hX5.below hb).alloc (.cells #[.int .i64 0, .int .i64 0] 28)
        have hY6 := Tw.new w6 0 0
        go_upto_region 4 with fail
        generalize w6.alloc _ = W6 at hF6 hB6 HR6 hX6 hY6 ⊢
        generalize w6.heap.size = N6 at hY6 ⊢
        clear hF5 hB5 HR5 hB6' hb c0 c1 c2 c3 c4 hX5
        obtain ⟨c0, c1, c2, c3, c4, -, -⟩ := id hF6
        go_wp2_with fail
        refine (hrt _).mono ?_
        rintro en w7 ⟨rfl, hb⟩
        have hF7 := hF6.below hb
        have hB7 := hB6.trans (hb.mono hB6.size)
        have HR7 := hide (HR6.out.below hb)
        have hX7 := hX6.below hb
        have hY7 := hY6.below hb
        clear hF6 hB6 HR6 hb c0 c1 c2 c3 c4 hX6 hY6
        obtain ⟨c0, c1, c2, c3, c4, -, -⟩ := id hF7
        go_wp2_with fail
        refine (hrf _ _ HR7.out).mono ?_
        rintro en w8 ⟨rfl, hb⟩
        have hF8 := hF7.below hb
        have hB8 := hB7.trans (hb.mono hB7.size)
        have HR8 := hide (HR7.out.below hb)
        have hX8 := hX7.below hb
        have hY8 := hY7.below hb
        clear hF7 hB7 HR7 hb c0 c1 c2 c3 c4 hX7 hY7
        go_wp2_with fail
        refine (alive_any _).mono ?_
        rintro en w9 ⟨rfl, hb⟩
        have hB9 := hB8.trans (hb.mono hB8.size)
        have x0 := (hX8.below hb).c0
        have x1 := (hX8.below hb).c1
        have y0 := (hY8.below hb).c0
        have y1 := (hY8.below hb).c1
        go_wp2_with fail
        go_ret
        exact ⟨rfl, hB9⟩
      · clear h1 HOK
        unfold St.v anV at hah hag
        unfold St.v at hrt
        obtain ⟨c0, c1, c2, c3, c4, -, -⟩ := id hF4
        go_wp2_with fail
        refine (hah _ HR4.out).mono ?_
        rintro en w5 ⟨rfl, hb⟩
        have hF5 := (hF4.below hb).alloc (.cells #[.int .i64 0, .int .i64 0] 28)
        have hB5' := hB4.trans (hb.mono hB4.size)
        have hB5 := hB5'.alloc hB5'.size (.cells #[.int .i64 0, .int .i64 0] 28)
        have HR5 := hide ((HR4.out.below hb).below (one_alloc _ #[.int .i64 0, .int .i64 0] 28))
        have hX5 := Tw.new w5 0 0
        go_upto_region 3 with fail
        generalize w5.alloc _ = W5 at hF5 hB5 HR5 hX5 ⊢
        generalize w5.heap.size = N5 at hX5 ⊢
        clear hF4 hB4 HR4 hB5' hb c0 c1 c2 c3 c4
        obtain ⟨c0, c1, c2, c3, c4, -, -⟩ := id hF5
        go_wp2_with fail
        refine (hag _ HR5.out).mono ?_
        rintro en w6 ⟨rfl, hb⟩
        have hF6 := (hF5.below hb).alloc (.cells #[.int .i64 0, .int .i64 0] 28)
        have hB6' := hB5.trans (hb.mono hB5.size)
        have hB6 := hB6'.alloc hB6'.size (.cells #[.int .i64 0, .int .i64 0] 28)
        have HR6 := hide ((HR5.out.below hb).below (one_alloc _ #[.int .i64 0, .int .i64 0] 28))
        have hX6 := (hX5.below hb).alloc (.cells #[.int .i64 0, .int .i64 0] 28)
        have hY6 := Tw.new w6 0 0
        go_upto_region 4 with fail
        generalize w6.alloc _ = W6 at hF6 hB6 HR6 hX6 hY6 ⊢
        generalize w6.heap.size = N6 at hY6 ⊢
        clear hF5 hB5 HR5 hB6' hb c0 c1 c2 c3 c4 hX5
        obtain ⟨c0, c1, c2, c3, c4, -, -⟩ := id hF6
        go_wp2_with fail
        refine (hrt _).mono ?_
        rintro en w7 ⟨rfl, hb⟩
        have hF7 := hF6.below hb
        have hB7 := hB6.trans (hb.mono hB6.size)
        have HR7 := hide (HR6.out.below hb)
        have hX7 := hX6.below hb
        have hY7 := hY6.below hb
        clear hF6 hB6 HR6 hb c0 c1 c2 c3 c4 hX6 hY6
        obtain ⟨c0, c1, c2, c3, c4, -, -⟩ := id hF7
        go_wp2_with fail
        refine (alive_any _).mono ?_
        rintro en w9 ⟨rfl, hb⟩
        have hB9 := hB7.trans (hb.mono hB7.size)
        have x0 := (hX7.below hb).c0
        have x1 := (hX7.below hb).c1
        have y0 := (hY7.below hb).c0
        have y1 := (hY7.below hb).c1
        go_wp2_with fail
        go_ret
        exact ⟨rfl, hB9⟩
  · rw [ans_hd hok] at hah
    have HBAR := hide (ans_bar gtS hok)
    have HMORE := hide (fun f => ans_more (f := f) gtS hok)
    rw [hok] at HOK
    have hk : rtB F = true ∧ rightF M = true ∧ ¬ F.c = 0 := by
      have := HOK.out.symm
      simp at this
      exact ⟨this.1.1, this.1.2, this.2⟩
    rw [hk.1] at hrt
    rw [hk.2.1] at hrf
    have h2 : (F.c == 0) = false := beq_eq_false_iff_ne.2 hk.2.2
    clear hok HOK hk
    obtain ⟨⟨B1, B2, B3⟩, hBB⟩ : ∃ q, ansF F M gtS = q := ⟨_, rfl⟩
    rw [hBB] at hag HBAR HMORE
    clear hBB
    unfold St.v anV at hah hag
    unfold St.v at hrt
    obtain ⟨c0, c1, c2, c3, c4, -, -⟩ := id hF4
    go_wp2_with fail
    refine (hah _ HR4.out).mono ?_
    rintro en w5 ⟨rfl, hb⟩
    have hF5 := (hF4.below hb).alloc (.cells #[.int .i64 0, .int .i64 0] 28)
    have hB5' := hB4.trans (hb.mono hB4.size)
    have hB5 := hB5'.alloc hB5'.size (.cells #[.int .i64 0, .int .i64 0] 28)
    have HR5 := hide ((HR4.out.below hb).below (one_alloc _ #[.int .i64 0, .int .i64 0] 28))
    have hX5 := Tw.new w5 0 0
    go_upto_region 3 with fail
    generalize w5.alloc _ = W5 at hF5 hB5 HR5 hX5 ⊢
    generalize w5.heap.size = N5 at hX5 ⊢
    clear hF4 hB4 HR4 hB5' hb c0 c1 c2 c3 c4
    obtain ⟨c0, c1, c2, c3, c4, -, -⟩ := id hF5
    go_wp2_with fail
    refine (hag _ HR5.out).mono ?_
    rintro en w6 ⟨rfl, hb⟩
    have hF6 := (hF5.below hb).alloc (.cells #[.int .i64 B1, .int .i64 B2] 28)
    have hB6' := hB5.trans (hb.mono hB5.size)
    have hB6 := hB6'.alloc hB6'.size (.cells #[.int .i64 B1, .int .i64 B2] 28)
    have HR6 := hide ((HR5.out.below hb).below (one_alloc _ #[.int .i64 B1, .int .i64 B2] 28))
    have hX6 := (hX5.below hb).alloc (.cells #[.int .i64 B1, .int .i64 B2] 28)
    have hY6 := Tw.new w6 B1 B2
    go_upto_region 4 with fail
    generalize w6.alloc _ = W6 at hF6 hB6 HR6 hX6 hY6 ⊢
    generalize w6.heap.size = N6 at hY6 ⊢
    clear hF5 hB5 HR5 hB6' hb c0 c1 c2 c3 c4 hX5
    obtain ⟨c0, c1, c2, c3, c4, -, -⟩ := id hF6
    go_wp2_with fail
    refine (hrt _).mono ?_
    rintro en w7 ⟨rfl, hb⟩
    have hF7 := hF6.below hb
    have hB7 := hB6.trans (hb.mono hB6.size)
    have HR7 := hide (HR6.out.below hb)
    have hX7 := hX6.below hb
    have hY7 := hY6.below hb
    clear hF6 hB6 HR6 hb c0 c1 c2 c3 c4 hX6 hY6
    obtain ⟨c0, c1, c2, c3, c4, -, -⟩ := id hF7
    go_wp2_with fail
    refine (hrf _ _ HR7.out).mono ?_
    rintro en w8 ⟨rfl, hb⟩
    have hF8 := hF7.below hb
    have hB8 := hB7.trans (hb.mono hB7.size)
    have HR8 := hide (HR7.out.below hb)
    have hX8 := hX7.below hb
    have hY8 := hY7.below hb
    clear hF7 hB7 HR7 hb c0 c1 c2 c3 c4 hX7 hY7
    go_upto_region 6 with fail
    go_cut [86] (fun c wc => c = .bool false ∧ Five wc w.heap.size F ∧ Tw wc N6 B1 B2 ∧ Hid (Row wc (.slice ar M.length cr) M) ∧ Below w.heap.size w wc)
    case first =>
      cases h204 : (F.c == 204)
      · cases h304 : (F.c == 304)
        · clear HBAR
          obtain ⟨c0, c1, c2, c3, c4, -, -⟩ := id hF8
          obtain ⟨x0, x1, -, -⟩ := id hX8
          obtain ⟨y0, y1, -, -⟩ := id hY8
          go_wp2_with fail
          refine (alive_any _).mono ?_
          rintro en w9 ⟨rfl, hb⟩
          have hF9 := hF8.below hb
          have hB9 := hB8.trans (hb.mono hB8.size)
          have HR9 := hide (HR8.out.below hb)
          have hY9 := hY8.below hb
          clear hah hag hrt hrf
          go_wp2_with fail
          go_meet
          exact ⟨rfl, hF9, hY9, HR9, hB9⟩
        · obtain ⟨rfl, hb23⟩ := Prod.mk.inj (HBAR.out (by rw [beq_iff_eq.1 h304]; exact bare_304))
          obtain ⟨rfl, rfl⟩ := Prod.mk.inj hb23
          clear hb23 HBAR
          obtain ⟨c0, c1, c2, c3, c4, -, -⟩ := id hF8
          obtain ⟨x0, x1, -, -⟩ := id hX8
          obtain ⟨y0, y1, -, -⟩ := id hY8
          go_wp2_with fail
          refine (alive_any _).mono ?_
          rintro en w9 ⟨rfl, hb⟩
          have hF9 := hF8.below hb
          have hB9 := hB8.trans (hb.mono hB8.size)
          have HR9 := hide (HR8.out.below hb)
          have hY9 := hY8.below hb
          clear hah hag hrt hrf
          go_wp2_with fail
          go_meet
          exact ⟨rfl, hF9, hY9, HR9, hB9⟩
      · obtain ⟨rfl, hb23⟩ := Prod.mk.inj (HBAR.out (by rw [beq_iff_eq.1 h204]; exact bare_204))
        obtain ⟨rfl, rfl⟩ := Prod.mk.inj hb23
        clear hb23 HBAR
        obtain ⟨c0, c1, c2, c3, c4, -, -⟩ := id hF8
        obtain ⟨x0, x1, -, -⟩ := id hX8
        obtain ⟨y0, y1, -, -⟩ := id hY8
        go_wp2_with fail
        refine (alive_any _).mono ?_
        rintro en w9 ⟨rfl, hb⟩
        have hF9 := hF8.below hb
        have hB9 := hB8.trans (hb.mono hB8.size)
        have HR9 := hide (HR8.out.below hb)
        have hY9 := hY8.below hb
        clear hah hag hrt hrf
        go_wp2_with fail
        go_meet
        exact ⟨rfl, hF9, hY9, HR9, hB9⟩
    case rest =>
      clear hF8 hB8 HR8 hX8 hY8 hah hag hrt hrf HBAR h2
      obtain ⟨rfl, hF, hY, HR, hB⟩ := hcut
      have hadd : ∀ w0, Row w0 (.slice ar M.length cr) M → Calls Try.prog 14 #[.slice ar M.length cr, .agg #[.string (nm0.extract 0 (min (nm0.size : Int) 20).toNat), .string (val0.extract 0 (min (val0.size : Int) 20).toNat)]] w0 fun e w' => ∃ r, e = .returned (.tuple #[r, .int .i64 (addE M (nm0.extract 0 (min (nm0.size : Int) 20).toNat, val0.extract 0 (min (val0.size : Int) 20).toNat) : Nat)]) ∧ Own w' w0.heap.size r (addL M (nm0.extract 0 (min (nm0.size : Int) 20).toNat, val0.extract 0 (min (val0.size : Int) 20).toNat)) ∧ Below w0.heap.size w0 w' :=
        fun w0 h => refadd_any M _ (nm0.extract 0 (min (nm0.size : Int) 20).toNat, val0.extract 0 (min (val0.size : Int) 20).toNat) w0 h (by omega) HS.out (Nat.le_trans hc1 (by decide)) (Nat.le_trans hc2 (by decide))
      have HSM := hide (add_sh (L := M) (f := (nm0.extract 0 (min (nm0.size : Int) 20).toNat, val0.extract 0 (min (val0.size : Int) 20).toNat)) HS.out (Nat.le_trans hc1 (by decide)) (Nat.le_trans hc2 (by decide)))
      obtain ⟨X1, hX1⟩ : ∃ x, nm0.extract 0 (min (nm0.size : Int) 20).toNat = x := ⟨_, rfl⟩
      obtain ⟨X2, hX2⟩ : ∃ x, val0.extract 0 (min (val0.size : Int) 20).toNat = x := ⟨_, rfl⟩
      rw [hX1, hX2] at hadd HSM
      have HADD0 := hide (fun h => add_zero (L := M) (f := (X1, X2)) h)
      have hlen := add_le M (X1, X2)
      have HDL := hide (fun h => dl_same (L := M) (f := (X1, X2)) h)
      obtain ⟨E, hE⟩ : ∃ e, addE M (X1, X2) = e := ⟨_, rfl⟩
      obtain ⟨MM, hMM⟩ : ∃ e, addL M (X1, X2) = e := ⟨_, rfl⟩
      rw [hE, hMM] at hadd HADD0
      rw [hMM] at HSM hlen
      clear hE hMM hc1 hc2
      have HRD : Hid (Row wc.drew (.slice ar M.length cr) M) := HR.out.below ⟨rfl, rfl, rfl, Nat.le_refl _, fun _ _ => rfl⟩
      go_upto_region 8 with fail
      refine wp_region_held_drew (S := (fun _ => True)) (by kernel_rfl) (trivial) (fun hHeld => ?_)
      refine wpAnyH_take (i := 0) (oi := _) (v := .slice ar M.length cr) rfl (by kernel_rfl) (by kernel_rfl) (by kernel_rfl) (fun _ _ _ h => h) (Or.inl ⟨by rfl, fun wS hSw => by go_simp⟩) (by first | trivial | assumption) ?_
      simp only [Act.put, List.getElem_toArray, List.getElem_cons_zero, List.getElem_cons_succ, List.setIfInBounds_toArray, List.set_cons_zero, List.set_cons_succ]
      refine wpAnyH_take (i := 1) (oi := _) (v := .string nm0) rfl (by kernel_rfl) (by kernel_rfl) (by kernel_rfl) (fun _ _ _ h => h) (Or.inl ⟨by rfl, fun wS hSw => by go_simp⟩) (by first | trivial | assumption) ?_
      simp only [Act.put, List.getElem_toArray, List.getElem_cons_zero, List.getElem_cons_succ, List.setIfInBounds_toArray, List.set_cons_zero, List.set_cons_succ]
      refine wpAnyH_take (i := 2) (oi := _) (v := .string nm0) rfl (by kernel_rfl) (by kernel_rfl) (by kernel_rfl) (fun _ _ _ h => h) (Or.inl ⟨by rfl, fun wS hSw => by go_simp⟩) (by first | trivial | assumption) ?_
      simp only [Act.put, List.getElem_toArray, List.getElem_cons_zero, List.getElem_cons_succ, List.setIfInBounds_toArray, List.set_cons_zero, List.set_cons_succ]
      refine wpAnyH_take (i := 3) (oi := _) (v := .int .i64 nm0.size) rfl (by kernel_rfl) (by kernel_rfl) (by kernel_rfl) (fun _ _ _ h => h) (Or.inl ⟨by rfl, fun wS hSw => by go_simp⟩) (by first | trivial | assumption) ?_
      simp only [Act.put, List.getElem_toArray, List.getElem_cons_zero, List.getElem_cons_succ, List.setIfInBounds_toArray, List.set_cons_zero, List.set_cons_succ]
      refine wpAnyH_take (i := 4) (oi := _) (v := .int .i64 (min (nm0.size : Int) 20)) rfl (by kernel_rfl) (by kernel_rfl) (by kernel_rfl) (fun _ _ _ h => h) (Or.inl ⟨by rfl, fun wS hSw => by go_simp⟩) (by first | trivial | assumption) ?_
      simp only [Act.put, List.getElem_toArray, List.getElem_cons_zero, List.getElem_cons_succ, List.setIfInBounds_toArray, List.set_cons_zero, List.set_cons_succ]
      refine wpAnyH_take (i := 5) (oi := _) (v := .string X1) rfl (by kernel_rfl) (by kernel_rfl) (by kernel_rfl) (fun _ _ _ h => h) (Or.inl ⟨by rfl, fun wS hSw => by go_simp; rw [← hX1]; intro hx; exfalso; have := hx (by omega); omega⟩) (by first | trivial | assumption) ?_
      simp only [Act.put, List.getElem_toArray, List.getElem_cons_zero, List.getElem_cons_succ, List.setIfInBounds_toArray, List.set_cons_zero, List.set_cons_succ]
      refine wpAnyH_take (i := 6) (oi := _) (v := .string val0) rfl (by kernel_rfl) (by kernel_rfl) (by kernel_rfl) (fun _ _ _ h => h) (Or.inl ⟨by rfl, fun wS hSw => by go_simp⟩) (by first | trivial | assumption) ?_
      simp only [Act.put, List.getElem_toArray, List.getElem_cons_zero, List.getElem_cons_succ, List.setIfInBounds_toArray, List.set_cons_zero, List.set_cons_succ]
      refine wpAnyH_take (i := 7) (oi := _) (v := .string val0) rfl (by kernel_rfl) (by kernel_rfl) (by kernel_rfl) (fun _ _ _ h => h) (Or.inl ⟨by rfl, fun wS hSw => by go_simp⟩) (by first | trivial | assumption) ?_
      simp only [Act.put, List.getElem_toArray, List.getElem_cons_zero, List.getElem_cons_succ, List.setIfInBounds_toArray, List.set_cons_zero, List.set_cons_succ]
      refine wpAnyH_take (i := 8) (oi := _) (v := .int .i64 val0.size) rfl (by kernel_rfl) (by kernel_rfl) (by kernel_rfl) (fun _ _ _ h => h) (Or.inl ⟨by rfl, fun wS hSw => by go_simp⟩) (by first | trivial | assumption) ?_
      simp only [Act.put, List.getElem_toArray, List.getElem_cons_zero, List.getElem_cons_succ, List.setIfInBounds_toArray, List.set_cons_zero, List.set_cons_succ]
      refine wpAnyH_take (i := 9) (oi := _) (v := .int .i64 (min (val0.size : Int) 20)) rfl (by kernel_rfl) (by kernel_rfl) (by kernel_rfl) (fun _ _ _ h => h) (Or.inl ⟨by rfl, fun wS hSw => by go_simp⟩) (by first | trivial | assumption) ?_
      simp only [Act.put, List.getElem_toArray, List.getElem_cons_zero, List.getElem_cons_succ, List.setIfInBounds_toArray, List.set_cons_zero, List.set_cons_succ]
      refine wpAnyH_take (i := 10) (oi := _) (v := .string X2) rfl (by kernel_rfl) (by kernel_rfl) (by kernel_rfl) (fun _ _ _ h => h) (Or.inl ⟨by rfl, fun wS hSw => by go_simp; rw [← hX2]; intro hx; exfalso; have := hx (by omega); omega⟩) (by first | trivial | assumption) ?_
      simp only [Act.put, List.getElem_toArray, List.getElem_cons_zero, List.getElem_cons_succ, List.setIfInBounds_toArray, List.set_cons_zero, List.set_cons_succ]
      refine wpAnyH_take (i := 11) (oi := _) (v := .agg #[.string X1, .string X2]) rfl (by kernel_rfl) (by kernel_rfl) (by kernel_rfl) (fun _ _ _ h => h) (Or.inl ⟨by rfl, fun wS hSw => by go_simp⟩) (by first | trivial | assumption) ?_
      simp only [Act.put, List.getElem_toArray, List.getElem_cons_zero, List.getElem_cons_succ, List.setIfInBounds_toArray, List.set_cons_zero, List.set_cons_succ]
      refine wpAnyH_ready (rs := [12]) (by kernel_rfl) (by simp) ?_
      refine AllReadyH.cons (o := _) rfl (fun K hK => ?_) AllReadyH.nil
      go_simp
      refine (hadd wc.drew HRD.out).mono ?_
      rintro e w9 ⟨r9, rfl, ho, hb⟩
      refine hK.out _ _ (trivial) (fun hHeld => ?_)
      clear hK K
      have hF9 := hF.drew.below hb
      have hB9 := hB.drew.trans (hb.mono hB.size)
      have HR9 := hide (HRD.out.below hb)
      have hY9 := hY.drew.below hb
      have HM9 := hide ho.row
      obtain ⟨a9, n9, rfl⟩ := ho.row.slice
      clear hF hB HR hY ho hb HRD hX1 hX2 hn0 hv0
      refine wpAnyH_take (i := 13) (oi := _) (v := .tuple #[.slice a9 MM.length n9, .int .i64 (E : Nat)]) rfl (by kernel_rfl) (by kernel_rfl) (by kernel_rfl) (fun _ _ _ h => h) (Or.inl ⟨by rfl, fun wS hSw => by go_simp⟩) (by first | trivial | assumption) ?_
      simp only [Act.put, List.getElem_toArray, List.getElem_cons_zero, List.getElem_cons_succ, List.setIfInBounds_toArray, List.set_cons_zero, List.set_cons_succ]
      refine wpAnyH_take (i := 14) (oi := _) (v := .slice a9 MM.length n9) rfl (by kernel_rfl) (by kernel_rfl) (by kernel_rfl) (fun _ _ _ h => h) (Or.inl ⟨by rfl, fun wS hSw => by go_simp⟩) (by first | trivial | assumption) ?_
      simp only [Act.put, List.getElem_toArray, List.getElem_cons_zero, List.getElem_cons_succ, List.setIfInBounds_toArray, List.set_cons_zero, List.set_cons_succ]
      refine wpAnyH_take (i := 15) (oi := _) (v := .int .i64 (E : Nat)) rfl (by kernel_rfl) (by kernel_rfl) (by kernel_rfl) (fun _ _ _ h => h) (Or.inl ⟨by rfl, fun wS hSw => by go_simp⟩) (by first | trivial | assumption) ?_
      simp only [Act.put, List.getElem_toArray, List.getElem_cons_zero, List.getElem_cons_succ, List.setIfInBounds_toArray, List.set_cons_zero, List.set_cons_succ]
      refine wpAnyH_ready (rs := [16]) (by kernel_rfl) (by simp) ?_
      refine AllReadyH.cons (o := _) rfl (fun K hK => ?_) AllReadyH.nil
      go_simp
      refine hK.out _ _ (trivial) (fun hHeld => ?_)
      clear hK K
      refine wpAnyH_ready (rs := [17]) (by kernel_rfl) (by simp) ?_
      refine AllReadyH.cons (o := _) rfl (fun K hK => ?_) AllReadyH.nil
      go_simp
      refine hK.out _ _ (trivial) (fun hHeld => ?_)
      clear hK K
      refine wpAnyH_done (by kernel_rfl) ?_ _
      go_wp2_with fail
      refine (rm1 MM _ _ HM9.out (by omega) HSM.out).mono ?_
      rintro e w10 ⟨r10, rfl, ho, hb⟩
      have hF10 := hF9.below hb
      have hB10 := hB9.trans (hb.mono hB9.size)
      have HR10 := hide (HR9.out.below hb)
      have hY10 := hY9.below hb
      have HM10 := hide (HM9.out.below hb)
      have HO10 := hide ho.row
      obtain ⟨a10, n10, rfl⟩ := ho.row.slice
      clear hF9 hB9 HR9 hY9 HM9 hb ho
      go_wp2_with fail
      refine (rm2 (delF lenS MM) _ _ HO10.out (Nat.le_trans (del_le _ _) (by omega)) (del_short HSM.out)).mono ?_
      rintro e w11 ⟨r11, rfl, ho, hb⟩
      have hF11 := hF10.below hb
      have hB11 := hB10.trans (hb.mono hB10.size)
      have HR11 := hide (HR10.out.below hb)
      have hY11 := hY10.below hb
      have HM11 := hide (HM10.out.below hb)
      have hd1 : (delF tecS (delF lenS MM)).length ≤ 46 := Nat.le_trans (dl_le MM) (by omega)
      obtain ⟨a11, n11, rfl⟩ := ho.row.slice
      clear hF10 hB10 HR10 hY10 HM10 HO10 hb ho
      have HDE : Hid (delF tecS (delF lenS MM) = dlF MM) := rfl
      obtain ⟨q1, hq1⟩ : ∃ q, (delF tecS (delF lenS MM)).length = q := ⟨_, rfl⟩
      rw [hq1] at hd1 ⊢
      have HQ1 : Hid ((dlF MM).length = q1) := hq1
      clear hq1 HDE
      obtain ⟨qm, hqm⟩ : ∃ q, MM.length = q := ⟨_, rfl⟩
      have HQM := hide hqm
      rw [hqm] at hlen HM11 ⊢
      clear hqm
      by_cases g0 : E = 0
      · subst g0
        obtain ⟨z1, z2, z3, z4⟩ := HADD0.out rfl
        subst z4
        have HANS : Hid (nm lenS (X1, X2) = false → nm tecS (X1, X2) = false → ansF F (M ++ [(X1, X2)]) gtS = (B1, B2, B3)) := HMORE.out _ z2 z3
        have HZ := HDL.out
        clear z1 z2 z3 HADD0 HMORE HDL
        go_wp2_with fail
        refine (rm1 M _ _ HR11.out (by omega) HS.out).mono ?_
        rintro e w12 ⟨r12, rfl, ho, hb⟩
        have hF12 := hF11.below hb
        have hB12 := hB11.trans (hb.mono hB11.size)
        have hY12 := hY11.below hb
        have HM12 := hide (HM11.out.below hb)
        have HO12 := hide ho.row
        obtain ⟨a12, n12, rfl⟩ := ho.row.slice
        clear hF11 hB11 HR11 hY11 HM11 hb ho
        go_wp2_with fail
        refine (rm2 (delF lenS M) _ _ HO12.out (Nat.le_trans (del_le _ _) (by omega)) (del_short HS.out)).mono ?_
        rintro e w13 ⟨r13, rfl, ho, hb⟩
        have hF13 := hF12.below hb
        have hB13 := hB12.trans (hb.mono hB12.size)
        have hY13 := hY12.below hb
        have HM13 := hide (HM12.out.below hb)
        have hd2 : (delF tecS (delF lenS M)).length ≤ 46 := Nat.le_trans (dl_le M) (by omega)
        obtain ⟨a13, n13, rfl⟩ := ho.row.slice
        clear hF12 hB12 hY12 HM12 HO12 hb ho
        obtain ⟨q2, hq2⟩ : ∃ q, (delF tecS (delF lenS M)).length = q := ⟨_, rfl⟩
        rw [hq2] at hd2 ⊢
        have HQ2 : Hid ((dlF M).length = q2) := hq2
        clear hq2
        by_cases hd : (qm : Int) - (q1 : Int) = (M.length : Int) - (q2 : Int)
        · have hnb : ((qm : Int) - (q1 : Int) != (M.length : Int) - (q2 : Int)) = false := by rw [hd]; simp
          have hsame := HZ (by rw [HQM.out, HQ1.out, HQ2.out]; exact hd)
          have hans := HANS.out hsame.1 hsame.2
          have hag : ∀ w0, Row w0 (.slice a9 qm n9) (M ++ [(X1, X2)]) → Calls Try.prog 9 #[F.v, .slice a9 qm n9, .string ⟨#[71, 69, 84]⟩] w0 fun en w' => en = .returned (anV (ansF F (M ++ [(X1, X2)]) gtS)) ∧ Below w0.heap.size w0 w' := fun w0 h => answer_any F _ gtS _ w0 hsh h (by rw [HQM.out]; omega) HSM.out
          rw [hans] at hag
          unfold St.v anV at hag
          clear hd HZ HANS hsame hans HQ1 HQ2 HQM HSM hadd HS
          obtain ⟨c0, c1, c2, c3, c4, -, -⟩ := id hF13
          go_wp2_with fail
          refine (hag _ HM13.out).mono ?_
          rintro en w14 ⟨rfl, hb⟩
          have hB14' := hB13.trans (hb.mono hB13.size)
          have hB14 := hB14'.alloc hB14'.size (.cells #[.int .i64 B1, .int .i64 B2] 28)
          have hY14 := (hY13.below hb).alloc (.cells #[.int .i64 B1, .int .i64 B2] 28)
          have hX14 := Tw.new w14 B1 B2
          go_upto_region 13 with fail
          generalize w14.alloc _ = W14 at hB14 hY14 hX14 ⊢
          generalize w14.heap.size = N14 at hX14 ⊢
          clear hF13 hB13 hY13 HM13 hb hag c0 c1 c2 c3 c4 hB14'
          obtain ⟨x0, x1, -, -⟩ := id hX14
          obtain ⟨y0, y1, -, -⟩ := id hY14
          go_wp2_with fail
          go_ret
          exact ⟨rfl, hB14⟩
        · have hnb : ((qm : Int) - (q1 : Int) != (M.length : Int) - (q2 : Int)) = true := by rw [bne_iff_ne]; exact hd
          clear hd HZ HANS HQ1 HQ2 HQM HSM hadd HS
          go_wp2_with fail
          go_ret
          exact ⟨rfl, hB13⟩
      · have g0b : (((E : Nat) : Int) != 0) = true := by rw [bne_iff_ne]; omega
        clear HADD0 HMORE HDL
        go_wp2_with fail
        go_ret
        exact ⟨rfl, hB11⟩

end Go.Proofs.Ytplanlhgcckioaa
