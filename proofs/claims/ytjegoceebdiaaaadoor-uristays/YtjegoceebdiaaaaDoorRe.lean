/- The walk of the document's own Parse. -/
import Derived.Test.YtjegoceebdiaaaaDoorRd
namespace Go.Proofs.YtjegoceebdiaaaaDoor
set_option linter.unusedVariables false
set_option linter.unusedSimpArgs false
open Go.RowKit

def stopB (c : UInt8) : Bool := neB 47 c && neB 63 c
def hpN (s : ByteArray) : Nat := (s.data.toList.takeWhile stopB).length
theorem hpN_le (s : ByteArray) : hpN s ≤ s.size := by rw [← size_list]; exact takeWhile_le _ _
def slashed (t : ByteArray) : ByteArray := if pre [47] t.data.toList then t else (⟨#[47]⟩ : ByteArray) ++ t
def tailU (b : U) (s : ByteArray) : U := ⟨b.abs, b.host, b.port, befS 63 s, hasB 63 s, aftS 63 s⟩
def candR (s : ByteArray) : U :=
  if absL s.data.toList then tailU (plU ((s.extract 7 s.size).extract 0 (hpN (s.extract 7 s.size)))) (slashed ((s.extract 7 s.size).extract (hpN (s.extract 7 s.size)) (s.extract 7 s.size).size))
  else tailU U0 s
def prU (s : ByteArray) : U := if 500 < s.size then U0 else if rtU (candR s) then candR s else U0
def prErr (s : ByteArray) : Int := if 500 < s.size then 2 else if rtU (candR s) then 0 else 20

theorem pr_bad {s : ByteArray} (h : ¬ 500 < s.size) (g : rtU (candR s) = false) : prU s = U0 ∧ prErr s = 20 := by
  unfold prU prErr; rw [if_neg h, if_neg h, g]; exact ⟨rfl, rfl⟩
theorem pr_good {s : ByteArray} (h : ¬ 500 < s.size) (g : rtU (candR s) = true) : prU s = candR s ∧ prErr s = 0 := by
  unfold prU prErr; rw [if_neg h, if_neg h, g]; exact ⟨rfl, rfl⟩

theorem start2 (w : World) : Six ((w.alloc (.cells #[.bool false, .string ⟨#[]⟩, .int .i64 0, .string ⟨#[]⟩, .bool false, .string ⟨#[]⟩] 23)).alloc (.cells #[.bool false, .string ⟨#[]⟩, .int .i64 0, .string ⟨#[]⟩, .bool false, .string ⟨#[]⟩] 23)) w.heap.size U0 ∧
    Six ((w.alloc (.cells #[.bool false, .string ⟨#[]⟩, .int .i64 0, .string ⟨#[]⟩, .bool false, .string ⟨#[]⟩] 23)).alloc (.cells #[.bool false, .string ⟨#[]⟩, .int .i64 0, .string ⟨#[]⟩, .bool false, .string ⟨#[]⟩] 23)) (w.heap.size + 1) U0 ∧
    Below w.heap.size w ((w.alloc (.cells #[.bool false, .string ⟨#[]⟩, .int .i64 0, .string ⟨#[]⟩, .bool false, .string ⟨#[]⟩] 23)).alloc (.cells #[.bool false, .string ⟨#[]⟩, .int .i64 0, .string ⟨#[]⟩, .bool false, .string ⟨#[]⟩] 23)) := by
  refine ⟨(six_zero w).alloc _, ?_, ((Below.refl _ _).alloc (Nat.le_refl _) _).alloc (by simp) _⟩
  have := six_zero (w.alloc (.cells #[.bool false, .string ⟨#[]⟩, .int .i64 0, .string ⟨#[]⟩, .bool false, .string ⟨#[]⟩] 23))
  rwa [show (w.alloc (.cells #[.bool false, .string ⟨#[]⟩, .int .i64 0, .string ⟨#[]⟩, .bool false, .string ⟨#[]⟩] 23)).heap.size = w.heap.size + 1 by simp] at this

theorem low_pre (s : ByteArray) : pre (⟨#[104, 116, 116, 112, 58, 47, 47]⟩ : ByteArray).data.toList (lowS s).data.toList = absL s.data.toList := by rw [lowS_list]; rfl
theorem has_ix {s : ByteArray} (h : hasB 63 s = true) : ixI 63 s.data.toList = (atN 63 s.data.toList : Int) ∧ atN 63 s.data.toList < s.size := by
  have g : hasL 63 s.data.toList = true := h
  refine ⟨ix_has g, ?_⟩
  unfold hasL at g; rw [decide_eq_true_eq, size_list] at g; exact g

theorem tail_none {b : U} {s : ByteArray} (h : hasB 63 s = false) (ha : b.asks = false) (hq : b.query = ⟨#[]⟩) : (⟨b.abs, b.host, b.port, s, b.asks, b.query⟩ : U) = tailU b s := by
  have g : ¬ atN 63 s.data.toList < s.data.toList.length := by
    unfold hasB at h; rwa [decide_eq_false_iff_not] at h
  unfold tailU
  rw [h, bef_none g, aft_none g, ha, hq]
theorem tail_some {b : U} {s : ByteArray} (h : hasB 63 s = true) : (⟨b.abs, b.host, b.port, s.extract 0 (atN 63 s.data.toList), true, s.extract (atN 63 s.data.toList + 1) s.size⟩ : U) = tailU b s := by
  unfold tailU
  rw [h, bef_ext, aft_ext]
theorem pl_asks (s : ByteArray) : (plU s).asks = false ∧ (plU s).query = ⟨#[]⟩ := by
  unfold plU; split <;> exact ⟨rfl, rfl⟩
theorem pl_host (s : ByteArray) : (plU s).host.size ≤ s.size := by
  unfold plU
  split
  · show (lowS s).size ≤ s.size
    rw [lowS_size]; omega
  · show (lowS (s.extract 0 (laI 58 s.data.toList).toNat)).size ≤ s.size
    rw [lowS_size, ByteArray.size_extract]; omega
theorem Six.one {w : World} {N : Nat} {u : U} (h : Six w N u) {B : Nat} {w0 : World} (hb : Below B w0 w) (k : Nat) (v : Value) (hN : B ≤ N) : Below B w0 (w.setCell ⟨N, k, none⟩ v) := hb.setCell hN v
theorem below_one {B : Nat} {w0 w : World} (hb : Below B w0 w) (N k : Nat) (v : Value) (hN : B ≤ N) : Below B w0 (w.setCell ⟨N, k, none⟩ v) := hb.setCell hN v
theorem stop_no {c : UInt8} (h : c = 47 ∨ c = 63) : stopB c = false := by rcases h with rfl | rfl <;> rfl
theorem stop_yes {c : UInt8} (h : c ≠ 47) (g : c ≠ 63) : stopB c = true := by simp [stopB, neB, h, g]
theorem u8_is {c d : UInt8} {n : Int} (hd : n = (d.toNat : Int)) : ((c.toNat : Int) == n) = decide (c = d) := by subst hd; exact u8_beq c d
theorem u8_isnt {c d : UInt8} {n : Int} (hd : n = (d.toNat : Int)) : ((c.toNat : Int) != n) = !decide (c = d) := by subst hd; exact u8_bne c d
theorem slash_yes {t : ByteArray} (h : pre [47] t.data.toList = true) : slashed t = t := by unfold slashed; rw [if_pos h]
theorem slash_no {t : ByteArray} (h : pre [47] t.data.toList = false) : slashed t = (⟨#[47]⟩ : ByteArray) ++ t := by unfold slashed; rw [if_neg (by simp [h])]

set_option maxRecDepth 100000 in
set_option maxHeartbeats 2000000 in
theorem refparse_any (s : ByteArray) (w : World) (hs : s.size ≤ 5000) :
    Calls Tryd.prog 12 #[.string s] w fun e w' => e = .returned (.tuple #[(prU s).v, .int .i64 (prErr s)]) ∧ Below w.heap.size w w' := by
  obtain ⟨hR0, hN0, hB0⟩ := start2 w
  have lw := lowS_size s
  by_cases hlen : 500 < s.size
  · have HR : Hid (prU s = U0 ∧ prErr s = 2) := by
      unfold Hid prU prErr; rw [if_pos hlen, if_pos hlen]; exact ⟨rfl, rfl⟩
    go_enter Tryd.func12, Tryd.ntmps12
    go_wp2_with fail
    refine bodyPost_ret (v := .tuple #[U0.v, .int .i64 2]) (by simp [results, Tryd.results12, go_sem, U0_v]) rfl ⟨ret_ue HR.out.1.symm HR.out.2.symm, ?_⟩
    exact (Below.refl _ _).alloc (Nat.le_refl _) _
  have hld : decide ((500 : Int) < (s.size : Int)) = false := decide_eq_false (by omega)
  obtain ⟨bb, hab⟩ : ∃ bb, absL s.data.toList = bb := ⟨_, rfl⟩
  have HAB := hide ((low_pre s).trans hab)
  have HLB := hide hab
  clear hab
  go_enter Tryd.func12, Tryd.ntmps12
  go_wp2_with fail
  generalize World.alloc _ _ = W0 at hR0 hN0 hB0 ⊢
  refine (reflower_any s _ (by omega)).mono ?_
  rintro e w1 ⟨rfl, hb1⟩
  have hR1 := hR0.below hb1
  have hN1 := hN0.below hb1
  have hB1 := hB0.trans (hb1.mono hB0.size)
  clear hb1 hR0 hN0 hB0 W0
  go_wp2_with fail
  refine (beg_any (lowS s) _ _ HAB.out _ (by omega) (by decide)).mono ?_
  rintro e w2 ⟨rfl, hw2⟩
  subst hw2
  go_upto_if 14 with fail
  go_cut [0, 5] (fun s0 n0 wc => ∃ (P : U) (S : ByteArray), s0 = .string S ∧ S.size ≤ 5001 ∧ P.host.size ≤ 10000 ∧ Hid (P.asks = false ∧ P.query = ⟨#[]⟩) ∧ Hid (candR s = tailU P S) ∧ Six wc (w.heap.size + 1) P ∧ Six wc w.heap.size U0 ∧ Below w.heap.size w wc)
  case first =>
    cases bb
    · have HC : Hid (candR s = tailU U0 s) := by unfold Hid candR; rw [if_neg (by simp [HLB.out])]
      go_wp2_with fail
      go_meet
      exact ⟨U0, s, rfl, by omega, by show 0 ≤ 10000; omega, ⟨rfl, rfl⟩, HC, hN1, hR1, hB1⟩
    · have h7 := abs7 HLB.out
      rw [← befS_list, size_list] at h7
      have b7 := befS_size 63 s
      have h7z : (7 : Int) ≤ (s.size : Int) := by omega
      have HC : Hid (candR s = tailU (plU ((s.extract 7 s.size).extract 0 (hpN (s.extract 7 s.size)))) (slashed ((s.extract 7 s.size).extract (hpN (s.extract 7 s.size)) (s.extract 7 s.size).size))) := by unfold Hid candR; rw [if_pos HLB.out]
      have hXs : (s.extract 7 s.size).size ≤ s.size := by rw [ByteArray.size_extract]; omega
      clear h7 b7
      go_wp2_with fail
      generalize s.extract 7 s.size = X at HC hXs ⊢
      go_loop [5] (fun i => ∃ k : Nat, k ≤ X.size ∧ i = .int .i64 k ∧ Hid (∀ x ∈ X.data.toList.take k, stopB x = true)) (fun i => X.size - (intOf i).toNat)
      case atStart => exact ⟨0, Nat.zero_le _, rfl, by simp [Hid]⟩
      case round =>
        obtain ⟨k, hk, rfl, hall⟩ := hrel
        by_cases hlt : k < X.size
        · have hltz : (k : Int) < X.size := by omega
          have e47 := u8_isnt (c := X[k]) (d := 47) (n := 47) rfl
          have e63 := u8_isnt (c := X[k]) (d := 63) (n := 63) rfl
          by_cases h47 : X[k] = 47
          · rw [decide_eq_true h47, Bool.not_true] at e47
            have HK : Hid (hpN X = k) := takeWhile_at (by rw [size_list]; exact hlt) hall.out (by rw [get_at X k hlt]; exact stop_no (Or.inl h47))
            clear h47 e63
            go_wp2_with fail
            have hpl := refplace_any (X.extract 0 k)
            have hplh := pl_host (X.extract 0 k)
            have hple : (X.extract 0 k).size ≤ 5000 := by rw [ByteArray.size_extract]; omega
            have HPA := hide (pl_asks (X.extract 0 k))
            rw [HK.out] at HC
            refine (hpl _ (by omega)).mono ?_
            generalize plU (X.extract 0 k) = P at hplh HPA HC
            rintro e w5 ⟨rfl, hb5⟩
            have hBh : P.host.size ≤ 10000 := by omega
            have hR5 := hR1.below hb5
            have hN5 := hN1.below hb5
            have hB5 := hB1.trans (hb5.mono hB1.size)
            clear hb5 hR1 hN1 hB1 hpl hplh hple
            obtain ⟨n0, n1, n2, n3, n4, n5, -, nf⟩ := id hN5
            unfold U.v
            have hTs : (X.extract k X.size).size ≤ 5000 := by rw [ByteArray.size_extract]; omega
            have hN1 : Six (put6 w5 (w.heap.size + 1) P) (w.heap.size + 1) P := put6_six hN5 P
            have hR1 : Six (put6 w5 (w.heap.size + 1) P) w.heap.size U0 := put6_other hR5 P (by omega)
            have hB1 : Below w.heap.size w (put6 w5 (w.heap.size + 1) P) := put6_below hB5 (by omega) P
            unfold put6 at hN1 hR1 hB1
            go_wp2_with fail
            clear n0 n1 n2 n3 n4 n5 nf hN5 hR5 hB5
            generalize World.setCell _ _ _ = w2 at hN1 hR1 hB1 ⊢
            cases hsl : pre [47] (X.extract k X.size).data.toList
            · rw [slash_no hsl] at HC
              have hTT : ((⟨#[47]⟩ : ByteArray) ++ X.extract k X.size).size ≤ 5001 := by rw [ByteArray.size_append, show (⟨#[47]⟩ : ByteArray).size = 1 from rfl]; omega
              refine (beg_any (X.extract k X.size) ⟨#[47]⟩ _ hsl _ (by omega) (by decide)).mono ?_
              rintro e w6 ⟨rfl, hw6⟩
              subst hw6
              go_wp2_with fail
              go_meet
              exact ⟨P, _, rfl, hTT, hBh, HPA, HC, hN1, hR1, hB1⟩
            · rw [slash_yes hsl] at HC
              refine (beg_any (X.extract k X.size) ⟨#[47]⟩ _ hsl _ (by omega) (by decide)).mono ?_
              rintro e w6 ⟨rfl, hw6⟩
              subst hw6
              go_wp2_with fail
              go_meet
              exact ⟨P, _, rfl, by omega, hBh, HPA, HC, hN1, hR1, hB1⟩
          · rw [decide_eq_false h47, Bool.not_false] at e47
            by_cases h63 : X[k] = 63
            · rw [decide_eq_true h63, Bool.not_true] at e63
              have HK : Hid (hpN X = k) := takeWhile_at (by rw [size_list]; exact hlt) hall.out (by rw [get_at X k hlt]; exact stop_no (Or.inr h63))
              clear h47 h63
              go_wp2_with fail
              have hpl := refplace_any (X.extract 0 k)
              have hplh := pl_host (X.extract 0 k)
              have hple : (X.extract 0 k).size ≤ 5000 := by rw [ByteArray.size_extract]; omega
              have HPA := hide (pl_asks (X.extract 0 k))
              rw [HK.out] at HC
              refine (hpl _ (by omega)).mono ?_
              generalize plU (X.extract 0 k) = P at hplh HPA HC
              rintro e w5 ⟨rfl, hb5⟩
              have hBh : P.host.size ≤ 10000 := by omega
              have hR5 := hR1.below hb5
              have hN5 := hN1.below hb5
              have hB5 := hB1.trans (hb5.mono hB1.size)
              clear hb5 hR1 hN1 hB1 hpl hplh hple
              obtain ⟨n0, n1, n2, n3, n4, n5, -, nf⟩ := id hN5
              unfold U.v
              have hTs : (X.extract k X.size).size ≤ 5000 := by rw [ByteArray.size_extract]; omega
              have hN1 : Six (put6 w5 (w.heap.size + 1) P) (w.heap.size + 1) P := put6_six hN5 P
              have hR1 : Six (put6 w5 (w.heap.size + 1) P) w.heap.size U0 := put6_other hR5 P (by omega)
              have hB1 : Below w.heap.size w (put6 w5 (w.heap.size + 1) P) := put6_below hB5 (by omega) P
              unfold put6 at hN1 hR1 hB1
              go_wp2_with fail
              clear n0 n1 n2 n3 n4 n5 nf hN5 hR5 hB5
              generalize World.setCell _ _ _ = w2 at hN1 hR1 hB1 ⊢
              cases hsl : pre [47] (X.extract k X.size).data.toList
              · rw [slash_no hsl] at HC
                have hTT : ((⟨#[47]⟩ : ByteArray) ++ X.extract k X.size).size ≤ 5001 := by rw [ByteArray.size_append, show (⟨#[47]⟩ : ByteArray).size = 1 from rfl]; omega
                refine (beg_any (X.extract k X.size) ⟨#[47]⟩ _ hsl _ (by omega) (by decide)).mono ?_
                rintro e w6 ⟨rfl, hw6⟩
                subst hw6
                go_wp2_with fail
                go_meet
                exact ⟨P, _, rfl, hTT, hBh, HPA, HC, hN1, hR1, hB1⟩
              · rw [slash_yes hsl] at HC
                refine (beg_any (X.extract k X.size) ⟨#[47]⟩ _ hsl _ (by omega) (by decide)).mono ?_
                rintro e w6 ⟨rfl, hw6⟩
                subst hw6
                go_wp2_with fail
                go_meet
                exact ⟨P, _, rfl, by omega, hBh, HPA, HC, hN1, hR1, hB1⟩
            · rw [decide_eq_false h63, Bool.not_false] at e63
              have HY := hide (all_more hlt hall.out (stop_yes h47 h63))
              clear h47 h63
              go_wp2_with fail
              exact ⟨⟨k + 1, by omega, by go_num, HY⟩, by simp [intOf]; omega⟩
        · have hd : decide ((k : Int) < X.size) = false := decide_eq_false (by omega)
          have HK : Hid (hpN X = k) := by
            have h1 := hall.out
            rw [List.take_of_length_le (by rw [size_list]; omega)] at h1
            unfold Hid hpN
            rw [takeWhile_all h1, size_list]; omega
          go_wp2_with fail
          have hpl := refplace_any (X.extract 0 k)
          have hplh := pl_host (X.extract 0 k)
          have hple : (X.extract 0 k).size ≤ 5000 := by rw [ByteArray.size_extract]; omega
          have HPA := hide (pl_asks (X.extract 0 k))
          rw [HK.out] at HC
          refine (hpl _ (by omega)).mono ?_
          generalize plU (X.extract 0 k) = P at hplh HPA HC
          rintro e w5 ⟨rfl, hb5⟩
          have hBh : P.host.size ≤ 10000 := by omega
          have hR5 := hR1.below hb5
          have hN5 := hN1.below hb5
          have hB5 := hB1.trans (hb5.mono hB1.size)
          clear hb5 hR1 hN1 hB1 hpl hplh hple
          obtain ⟨n0, n1, n2, n3, n4, n5, -, nf⟩ := id hN5
          unfold U.v
          have hTs : (X.extract k X.size).size ≤ 5000 := by rw [ByteArray.size_extract]; omega
          have hN1 : Six (put6 w5 (w.heap.size + 1) P) (w.heap.size + 1) P := put6_six hN5 P
          have hR1 : Six (put6 w5 (w.heap.size + 1) P) w.heap.size U0 := put6_other hR5 P (by omega)
          have hB1 : Below w.heap.size w (put6 w5 (w.heap.size + 1) P) := put6_below hB5 (by omega) P
          unfold put6 at hN1 hR1 hB1
          go_wp2_with fail
          clear n0 n1 n2 n3 n4 n5 nf hN5 hR5 hB5
          generalize World.setCell _ _ _ = w2 at hN1 hR1 hB1 ⊢
          cases hsl : pre [47] (X.extract k X.size).data.toList
          · rw [slash_no hsl] at HC
            have hTT : ((⟨#[47]⟩ : ByteArray) ++ X.extract k X.size).size ≤ 5001 := by rw [ByteArray.size_append, show (⟨#[47]⟩ : ByteArray).size = 1 from rfl]; omega
            refine (beg_any (X.extract k X.size) ⟨#[47]⟩ _ hsl _ (by omega) (by decide)).mono ?_
            rintro e w6 ⟨rfl, hw6⟩
            subst hw6
            go_wp2_with fail
            go_meet
            exact ⟨P, _, rfl, hTT, hBh, HPA, HC, hN1, hR1, hB1⟩
          · rw [slash_yes hsl] at HC
            refine (beg_any (X.extract k X.size) ⟨#[47]⟩ _ hsl _ (by omega) (by decide)).mono ?_
            rintro e w6 ⟨rfl, hw6⟩
            subst hw6
            go_wp2_with fail
            go_meet
            exact ⟨P, _, rfl, by omega, hBh, HPA, HC, hN1, hR1, hB1⟩
  case rest =>
    clear hN1 hR1 hB1
    obtain ⟨P, S, rfl, hSs, hBh, HPA, HC, hN1, hR1, hB1⟩ := hcut
    obtain ⟨n0, n1, n2, n3, n4, n5, -, nf⟩ := id hN1
    cases h63 : hasB 63 S
    · have HX := hide (ix_hasnt (show hasL 63 S.data.toList = false from h63))
      have HT := hide (tail_none (b := P) h63 HPA.out.1 HPA.out.2)
      have HSH : Hid (Short ⟨P.abs, P.host, P.port, S, P.asks, P.query⟩) := ⟨hBh, by show S.size ≤ 10000; omega, by show (P.query).size ≤ 10000; rw [HPA.out.2]; exact Nat.zero_le _⟩
      clear h63
      go_wp2_with fail
      refine (find_is S 63 63 _ rfl HX.out _ (by omega)).mono ?_
      rintro e w3 ⟨rfl, hw3⟩
      subst hw3
      go_wp2_with fail
      have hN3 := hN1.s3 S
      have hR3 := hR1.other (w.heap.size + 1) 3 (.string S) (by omega)
      have hB3 := below_one hB1 (w.heap.size + 1) 3 (.string S) (by omega)
      clear n0 n1 n2 n3 n4 n5 nf hN1 hR1 hB1
      generalize World.setCell _ _ _ = W3 at hN3 hR3 hB3 ⊢
      refine (refright_any ⟨P.abs, P.host, P.port, S, P.asks, P.query⟩ _ HSH.out).mono ?_
      rintro e w4 ⟨rfl, hb4⟩
      have hR4 := hR3.below hb4
      have hN4 := hN3.below hb4
      have hB4 := hB3.trans (hb4.mono hB3.size)
      clear hb4 hR3 hN3 hB3 W3
      obtain ⟨r0, r1, r2, r3, r4, r5, -, rf⟩ := id hR4
      obtain ⟨n0, n1, n2, n3, n4, n5, -, -⟩ := id hN4
      cases hrt : rtU ⟨P.abs, P.host, P.port, S, P.asks, P.query⟩
      · have HR := hide (pr_bad hlen (by rw [HC.out, ← HT.out]; exact hrt))
        go_wp2_with fail
        refine bodyPost_ret (v := .tuple #[U0.v, .int .i64 20]) (by simp [results, Tryd.results12, go_sem, U0_v, r0, r1, r2, r3, r4, r5, rf]) rfl ⟨ret_ue HR.out.1.symm HR.out.2.symm, ?_⟩
        exact put6_below hB4 (Nat.le_refl _) U0
      · have HR := hide (pr_good hlen (by rw [HC.out, ← HT.out]; exact hrt))
        rw [HC.out, ← HT.out] at HR
        go_wp2_with fail
        refine bodyPost_ret (v := .tuple #[U.v ⟨P.abs, P.host, P.port, S, P.asks, P.query⟩, .int .i64 0]) (by simp [results, Tryd.results12, go_sem, U.v, r0, r1, r2, r3, r4, r5, rf]) rfl ⟨ret_ue HR.out.1.symm HR.out.2.symm, ?_⟩
        exact put6_below hB4 (Nat.le_refl _) ⟨P.abs, P.host, P.port, S, P.asks, P.query⟩
    · obtain ⟨hx, hxl⟩ := has_ix h63
      have HX := hide hx
      have HT := hide (tail_some (b := P) h63)
      clear hx h63
      generalize atN 63 S.data.toList = k at hxl HX HT
      have HSH : Hid (Short ⟨P.abs, P.host, P.port, S.extract 0 k, true, S.extract (k + 1) S.size⟩) := ⟨hBh, by show (S.extract 0 k).size ≤ 10000; rw [ByteArray.size_extract]; omega, by show (S.extract (k + 1) S.size).size ≤ 10000; rw [ByteArray.size_extract]; omega⟩
      go_wp2_with fail
      refine (find_is S 63 63 _ rfl HX.out _ (by omega)).mono ?_
      rintro e w3 ⟨rfl, hw3⟩
      subst hw3
      go_wp2_with fail
      have hN3 := (((hN1.s3 S).s4 true).s3 (S.extract 0 k)).s5 (S.extract (k + 1) S.size)
      have hR3 := (((hR1.other (w.heap.size + 1) 3 (.string S) (by omega)).other (w.heap.size + 1) 4 (.bool true) (by omega)).other (w.heap.size + 1) 3 (.string (S.extract 0 k)) (by omega)).other (w.heap.size + 1) 5 (.string (S.extract (k + 1) S.size)) (by omega)
      have hB3 := below_one (below_one (below_one (below_one hB1 (w.heap.size + 1) 3 (.string S) (by omega)) (w.heap.size + 1) 4 (.bool true) (by omega)) (w.heap.size + 1) 3 (.string (S.extract 0 k)) (by omega)) (w.heap.size + 1) 5 (.string (S.extract (k + 1) S.size)) (by omega)
      clear n0 n1 n2 n3 n4 n5 nf hN1 hR1 hB1
      generalize World.setCell _ _ _ = W3 at hN3 hR3 hB3 ⊢
      refine (refright_any ⟨P.abs, P.host, P.port, S.extract 0 k, true, S.extract (k + 1) S.size⟩ _ HSH.out).mono ?_
      rintro e w4 ⟨rfl, hb4⟩
      have hR4 := hR3.below hb4
      have hN4 := hN3.below hb4
      have hB4 := hB3.trans (hb4.mono hB3.size)
      clear hb4 hR3 hN3 hB3 W3
      obtain ⟨r0, r1, r2, r3, r4, r5, -, rf⟩ := id hR4
      obtain ⟨n0, n1, n2, n3, n4, n5, -, -⟩ := id hN4
      cases hrt : rtU ⟨P.abs, P.host, P.port, S.extract 0 k, true, S.extract (k + 1) S.size⟩
      · have HR := hide (pr_bad hlen (by rw [HC.out, ← HT.out]; exact hrt))
        go_wp2_with fail
        refine bodyPost_ret (v := .tuple #[U0.v, .int .i64 20]) (by simp [results, Tryd.results12, go_sem, U0_v, r0, r1, r2, r3, r4, r5, rf]) rfl ⟨ret_ue HR.out.1.symm HR.out.2.symm, ?_⟩
        exact put6_below hB4 (Nat.le_refl _) U0
      · have HR := hide (pr_good hlen (by rw [HC.out, ← HT.out]; exact hrt))
        rw [HC.out, ← HT.out] at HR
        go_wp2_with fail
        refine bodyPost_ret (v := .tuple #[U.v ⟨P.abs, P.host, P.port, S.extract 0 k, true, S.extract (k + 1) S.size⟩, .int .i64 0]) (by simp [results, Tryd.results12, go_sem, U.v, r0, r1, r2, r3, r4, r5, rf]) rfl ⟨ret_ue HR.out.1.symm HR.out.2.symm, ?_⟩
        exact put6_below hB4 (Nat.le_refl _) ⟨P.abs, P.host, P.port, S.extract 0 k, true, S.extract (k + 1) S.size⟩

end Go.Proofs.YtjegoceebdiaaaaDoor
