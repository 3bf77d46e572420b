/- The walk of Parse. -/
import Derived.Test.YtjegoceebdiaaaaDoorUd
import Derived.Test.YtjegoceebdiaaaaDoorMv
namespace Go.Proofs.YtjegoceebdiaaaaDoor
set_option linter.unusedVariables false
set_option linter.unusedSimpArgs false
open Go.RowKit

theorem Six.drewN {w : World} {N : Nat} {u : U} (h : Six w N u) (n : Nat) : Six (w.drewN n) N u := ⟨h.c0, h.c1, h.c2, h.c3, h.c4, h.c5, h.lt, h.fz⟩
theorem Six.other {w : World} {N : Nat} {u : U} (h : Six w N u) (M k : Nat) (v : Value) (hM : M ≠ N) : Six (w.setCell ⟨M, k, none⟩ v) N u := by
  have hc : ∀ j, (w.setCell ⟨M, k, none⟩ v).cell? ⟨N, j, none⟩ = w.cell? ⟨N, j, none⟩ := fun j => World.cell?_setCell_other _ _ _ _ (by simp [Ne.symm hM])
  exact ⟨(hc 0).trans h.c0, (hc 1).trans h.c1, (hc 2).trans h.c2, (hc 3).trans h.c3, (hc 4).trans h.c4, (hc 5).trans h.c5, by simpa using h.lt, fun o => by rw [World.frozen?_setCell]; exact h.fz o⟩
theorem Six.s0 {w : World} {N : Nat} {u : U} (h : Six w N u) (x : Bool) : Six (w.setCell ⟨N, 0, none⟩ (.bool x)) N ⟨x, u.host, u.port, u.path, u.asks, u.query⟩ :=
  ⟨World.cell?_setCell_same _ _ _ h.c0, (World.cell?_setCell_other _ _ _ _ (by simp)).trans h.c1, (World.cell?_setCell_other _ _ _ _ (by simp)).trans h.c2, (World.cell?_setCell_other _ _ _ _ (by simp)).trans h.c3, (World.cell?_setCell_other _ _ _ _ (by simp)).trans h.c4, (World.cell?_setCell_other _ _ _ _ (by simp)).trans h.c5, by simpa using h.lt, fun o => by rw [World.frozen?_setCell]; exact h.fz o⟩
theorem Six.s1 {w : World} {N : Nat} {u : U} (h : Six w N u) (x : ByteArray) : Six (w.setCell ⟨N, 1, none⟩ (.string x)) N ⟨u.abs, x, u.port, u.path, u.asks, u.query⟩ :=
  ⟨(World.cell?_setCell_other _ _ _ _ (by simp)).trans h.c0, World.cell?_setCell_same _ _ _ h.c1, (World.cell?_setCell_other _ _ _ _ (by simp)).trans h.c2, (World.cell?_setCell_other _ _ _ _ (by simp)).trans h.c3, (World.cell?_setCell_other _ _ _ _ (by simp)).trans h.c4, (World.cell?_setCell_other _ _ _ _ (by simp)).trans h.c5, by simpa using h.lt, fun o => by rw [World.frozen?_setCell]; exact h.fz o⟩
theorem Six.s2 {w : World} {N : Nat} {u : U} (h : Six w N u) (x : Int) : Six (w.setCell ⟨N, 2, none⟩ (.int .i64 x)) N ⟨u.abs, u.host, x, u.path, u.asks, u.query⟩ :=
  ⟨(World.cell?_setCell_other _ _ _ _ (by simp)).trans h.c0, (World.cell?_setCell_other _ _ _ _ (by simp)).trans h.c1, World.cell?_setCell_same _ _ _ h.c2, (World.cell?_setCell_other _ _ _ _ (by simp)).trans h.c3, (World.cell?_setCell_other _ _ _ _ (by simp)).trans h.c4, (World.cell?_setCell_other _ _ _ _ (by simp)).trans h.c5, by simpa using h.lt, fun o => by rw [World.frozen?_setCell]; exact h.fz o⟩
theorem Six.s3 {w : World} {N : Nat} {u : U} (h : Six w N u) (x : ByteArray) : Six (w.setCell ⟨N, 3, none⟩ (.string x)) N ⟨u.abs, u.host, u.port, x, u.asks, u.query⟩ :=
  ⟨(World.cell?_setCell_other _ _ _ _ (by simp)).trans h.c0, (World.cell?_setCell_other _ _ _ _ (by simp)).trans h.c1, (World.cell?_setCell_other _ _ _ _ (by simp)).trans h.c2, World.cell?_setCell_same _ _ _ h.c3, (World.cell?_setCell_other _ _ _ _ (by simp)).trans h.c4, (World.cell?_setCell_other _ _ _ _ (by simp)).trans h.c5, by simpa using h.lt, fun o => by rw [World.frozen?_setCell]; exact h.fz o⟩
theorem Six.s4 {w : World} {N : Nat} {u : U} (h : Six w N u) (x : Bool) : Six (w.setCell ⟨N, 4, none⟩ (.bool x)) N ⟨u.abs, u.host, u.port, u.path, x, u.query⟩ :=
  ⟨(World.cell?_setCell_other _ _ _ _ (by simp)).trans h.c0, (World.cell?_setCell_other _ _ _ _ (by simp)).trans h.c1, (World.cell?_setCell_other _ _ _ _ (by simp)).trans h.c2, (World.cell?_setCell_other _ _ _ _ (by simp)).trans h.c3, World.cell?_setCell_same _ _ _ h.c4, (World.cell?_setCell_other _ _ _ _ (by simp)).trans h.c5, by simpa using h.lt, fun o => by rw [World.frozen?_setCell]; exact h.fz o⟩
theorem Six.s5 {w : World} {N : Nat} {u : U} (h : Six w N u) (x : ByteArray) : Six (w.setCell ⟨N, 5, none⟩ (.string x)) N ⟨u.abs, u.host, u.port, u.path, u.asks, x⟩ :=
  ⟨(World.cell?_setCell_other _ _ _ _ (by simp)).trans h.c0, (World.cell?_setCell_other _ _ _ _ (by simp)).trans h.c1, (World.cell?_setCell_other _ _ _ _ (by simp)).trans h.c2, (World.cell?_setCell_other _ _ _ _ (by simp)).trans h.c3, (World.cell?_setCell_other _ _ _ _ (by simp)).trans h.c4, World.cell?_setCell_same _ _ _ h.c5, by simpa using h.lt, fun o => by rw [World.frozen?_setCell]; exact h.fz o⟩

/-- All six at once. -/
def put6 (w : World) (N : Nat) (u : U) : World := (((((w.setCell ⟨N, 0, none⟩ (.bool u.abs)).setCell ⟨N, 1, none⟩ (.string u.host)).setCell ⟨N, 2, none⟩ (.int .i64 u.port)).setCell ⟨N, 3, none⟩ (.string u.path)).setCell ⟨N, 4, none⟩ (.bool u.asks)).setCell ⟨N, 5, none⟩ (.string u.query)
theorem put6_six {w : World} {N : Nat} {u : U} (h : Six w N u) (x : U) : Six (put6 w N x) N x := (((((h.s0 x.abs).s1 x.host).s2 x.port).s3 x.path).s4 x.asks).s5 x.query
theorem put6_other {w : World} {N M : Nat} {u : U} (h : Six w N u) (x : U) (hM : M ≠ N) : Six (put6 w M x) N u := (((((h.other M _ _ hM).other M _ _ hM).other M _ _ hM).other M _ _ hM).other M _ _ hM).other M _ _ hM
theorem put6_below {B : Nat} {w w' : World} (h : Below B w w') {N : Nat} (hN : B ≤ N) (x : U) : Below B w (put6 w' N x) := (((((h.setCell hN _).setCell hN _).setCell hN _).setCell hN _).setCell hN _).setCell hN _

theorem U0_v : U0.v = .agg #[.bool false, .string ⟨#[]⟩, .int .i64 0, .string ⟨#[]⟩, .bool false, .string ⟨#[]⟩] := rfl
theorem six_zero (w : World) : Six (w.alloc (.cells #[.bool false, .string ⟨#[]⟩, .int .i64 0, .string ⟨#[]⟩, .bool false, .string ⟨#[]⟩] 23)) w.heap.size U0 := Six.new w U0

theorem ret_ue {a b : U} {x y : Int} (h : a = b) (g : x = y) : Ending.returned (.tuple #[a.v, .int .i64 x]) = .returned (.tuple #[b.v, .int .i64 y]) := by rw [h, g]

theorem cand_ref {s : ByteArray} (h : absL s.data.toList = false) : cand s.data.toList = ⟨false, ⟨#[]⟩, 0, befS 63 s, hasB 63 s, aftS 63 s⟩ := by
  unfold cand
  rw [if_neg (by simp [h])]
  rfl
theorem cand_abs {s : ByteArray} (h : absL s.data.toList = true) : cand s.data.toList = ⟨true, cpS (lowS (befS 47 ((befS 63 s).extract 7 (befS 63 s).size))), cpP (lowS (befS 47 ((befS 63 s).extract 7 (befS 63 s).size))), (⟨#[47]⟩ : ByteArray) ++ aftS 47 ((befS 63 s).extract 7 (befS 63 s).size), hasB 63 s, aftS 63 s⟩ := by
  unfold cand
  rw [if_pos h]
  have e1 : bytes (47 :: (((s.data.toList.takeWhile (neB 63)).drop 7).dropWhile (neB 47)).drop 1) = (⟨#[47]⟩ : ByteArray) ++ aftS 47 ((befS 63 s).extract 7 (befS 63 s).size) := by
    apply bytes_ext
    rw [bytes_list, app_list, aftS_list, ext_drop, befS_list]; rfl
  have e2 : (lowS (befS 47 ((befS 63 s).extract 7 (befS 63 s).size))).data.toList = lowL (((s.data.toList.takeWhile (neB 63)).drop 7).takeWhile (neB 47)) := by
    rw [lowS_list, befS_list, ext_drop, befS_list]
  unfold cpS cpP
  rw [e1, e2]
  rfl

theorem cutP_len (l : List UInt8) : (cutP l).1.length ≤ l.length := by
  unfold cutP; split
  · exact Nat.le_refl _
  · rw [List.length_take]; omega
theorem cpS_size (s : ByteArray) : (cpS s).size ≤ s.size := by
  rw [← size_list, ← size_list s]
  unfold cpS
  rw [bytes_list]
  exact cutP_len _

set_option maxRecDepth 100000 in
set_option maxHeartbeats 1000000 in
theorem parse_any (s : ByteArray) (w : World) (hs : s.size ≤ 5000) (ht : Tabs w) :
    Calls Tryd.prog 11 #[.string s] w fun e w' => e = .returned (.tuple #[(psU s.data.toList).v, .int .i64 (psE s.data.toList)]) ∧ Below w.heap.size w w' := by
  have hR0 := six_zero w
  have hB0 : Below w.heap.size w (w.alloc (.cells #[.bool false, .string ⟨#[]⟩, .int .i64 0, .string ⟨#[]⟩, .bool false, .string ⟨#[]⟩] 23)) := (Below.refl _ _).alloc (Nat.le_refl _) _
  by_cases hlen : 500 < s.size
  · have HR : Hid (psU s.data.toList = U0 ∧ psE s.data.toList = 2) := by
      unfold Hid psU psE; rw [size_list, if_pos hlen, if_pos hlen]; exact ⟨rfl, rfl⟩
    go_enter Tryd.func11, Tryd.ntmps11
    go_wp2_with fail
    refine bodyPost_ret (v := .tuple #[U0.v, .int .i64 2]) (by simp [results, Tryd.results11, go_sem, U0_v]) rfl ⟨ret_ue HR.out.1.symm HR.out.2.symm, ?_⟩
    exact hB0
  · have hld : decide ((500 : Int) < (s.size : Int)) = false := decide_eq_false (by omega)
    have b1 := befS_size 63 s
    have b2 := aftS_size 63 s
    cases hab : absL s.data.toList
    · have HC := hide (cand_ref hab)
      have hsh : Short ⟨false, ⟨#[]⟩, 0, befS 63 s, hasB 63 s, aftS 63 s⟩ := ⟨by show 0 ≤ 10000; omega, by show (befS 63 s).size ≤ 10000; omega, by show (aftS 63 s).size ≤ 10000; omega⟩
      have HSH := hide hsh
      have HAB := hide hab
      clear hab hsh
      go_enter Tryd.func11, Tryd.ntmps11
      go_wp2_with fail
      generalize w.alloc _ = W0 at hR0 hB0 ⊢
      refine (lower_any s _ (by omega)).mono ?_
      rintro e w1 ⟨rfl, hb1⟩
      have hR1 := hR0.below hb1
      have hB1 := hB0.trans (hb1.mono hB0.size)
      clear hb1 hR0 hB0 W0
      go_wp2_with fail
      refine (pre_any (lowS s) ⟨#[104, 116, 116, 112, 58, 47, 47]⟩ false (by rw [lowS_list]; exact HAB.out) _).mono ?_
      rintro e w2 ⟨rfl, hw2⟩
      subst hw2
      go_wp2_with fail
      refine (cut_any s 63 _ (by omega)).mono ?_
      rintro e w3 ⟨rfl, n, rfl⟩
      go_wp2_with fail
      have hN := (((six_zero w2).drewN n).s3 (befS 63 s)).s5 (aftS 63 s) |>.s4 (hasB 63 s)
      have hb2 : Below w2.heap.size w2 (((((w2.alloc (.cells #[.bool false, .string ⟨#[]⟩, .int .i64 0, .string ⟨#[]⟩, .bool false, .string ⟨#[]⟩] 23)).drewN n).setCell ⟨w2.heap.size, 3, none⟩ (.string (befS 63 s))).setCell ⟨w2.heap.size, 5, none⟩ (.string (aftS 63 s))).setCell ⟨w2.heap.size, 4, none⟩ (.bool (hasB 63 s))) :=
        ((((((Below.refl _ _).alloc (Nat.le_refl _) _).trans ((below_drewN _ n).mono (by simp)))).setCell (Nat.le_refl _) _).setCell (Nat.le_refl _) _).setCell (Nat.le_refl _) _
      generalize World.setCell _ _ _ = W3 at hN hb2 ⊢
      have hR3 := hR1.below hb2
      have hB3 := hB1.trans (hb2.mono hB1.size)
      have hNR : w.heap.size < w2.heap.size := hR1.lt
      clear hb2 hR1 hB1
      refine (right_any ⟨false, ⟨#[]⟩, 0, befS 63 s, hasB 63 s, aftS 63 s⟩ _ HSH.out (ht.below hB3)).mono ?_
      rintro e w4 ⟨rfl, hb4⟩
      have hR4 := hR3.below hb4
      have hN4 : Six w4 w2.heap.size ⟨false, ⟨#[]⟩, 0, befS 63 s, hasB 63 s, aftS 63 s⟩ := hN.below hb4
      have hB4 := hB3.trans (hb4.mono hB3.size)
      clear hb4 hR3 hN hB3 W3
      obtain ⟨r0, r1, r2, r3, r4, r5, -, rf⟩ := hR4
      obtain ⟨n0, n1, n2, n3, n4, n5, -, -⟩ := hN4
      cases hrt : rtU ⟨false, ⟨#[]⟩, 0, befS 63 s, hasB 63 s, aftS 63 s⟩
      · have HR : Hid (psU s.data.toList = U0 ∧ psE s.data.toList = 20) := by
          unfold Hid psU psE
          rw [size_list, if_neg hlen, if_neg hlen, HC.out, hrt]; exact ⟨rfl, rfl⟩
        go_wp2_with fail
        refine bodyPost_ret (v := .tuple #[U0.v, .int .i64 20]) (by simp [results, Tryd.results11, go_sem, U0_v, *]) rfl ⟨ret_ue HR.out.1.symm HR.out.2.symm, ?_⟩
        exact put6_below hB4 (Nat.le_refl _) U0
      · have HR : Hid (psU s.data.toList = ⟨false, ⟨#[]⟩, 0, befS 63 s, hasB 63 s, aftS 63 s⟩ ∧ psE s.data.toList = 0) := by
          unfold Hid psU psE
          rw [size_list, if_neg hlen, if_neg hlen, HC.out, hrt]; exact ⟨rfl, rfl⟩
        go_wp2_with fail
        refine bodyPost_ret (v := .tuple #[U.v ⟨false, ⟨#[]⟩, 0, befS 63 s, hasB 63 s, aftS 63 s⟩, .int .i64 0]) (by simp [results, Tryd.results11, go_sem, U.v, *]) rfl ⟨ret_ue HR.out.1.symm HR.out.2.symm, ?_⟩
        exact put6_below hB4 (Nat.le_refl _) ⟨false, ⟨#[]⟩, 0, befS 63 s, hasB 63 s, aftS 63 s⟩
    · have h7 := abs7 hab
      rw [← befS_list, size_list] at h7
      have h7z : (7 : Int) ≤ ((befS 63 s).size : Int) := by omega
      have HC := hide (cand_abs hab)
      have HAB := hide hab
      have hXs : ((befS 63 s).extract 7 (befS 63 s).size).size ≤ s.size := by rw [ByteArray.size_extract]; omega
      have x1 := befS_size 47 ((befS 63 s).extract 7 (befS 63 s).size)
      have x2 := aftS_size 47 ((befS 63 s).extract 7 (befS 63 s).size)
      have x3 := lowS_size (befS 47 ((befS 63 s).extract 7 (befS 63 s).size))
      have x4 := cpS_size (lowS (befS 47 ((befS 63 s).extract 7 (befS 63 s).size)))
      have hpl := place_any ((befS 63 s).extract 7 (befS 63 s).size)
      clear hab h7
      go_enter Tryd.func11, Tryd.ntmps11
      go_wp2_with fail
      generalize w.alloc _ = W0 at hR0 hB0 ⊢
      refine (lower_any s _ (by omega)).mono ?_
      rintro e w1 ⟨rfl, hb1⟩
      have hR1 := hR0.below hb1
      have hB1 := hB0.trans (hb1.mono hB0.size)
      clear hb1 hR0 hB0 W0
      go_wp2_with fail
      refine (pre_any (lowS s) ⟨#[104, 116, 116, 112, 58, 47, 47]⟩ true (by rw [lowS_list]; exact HAB.out) _).mono ?_
      rintro e w2 ⟨rfl, hw2⟩
      subst hw2
      go_wp2_with fail
      refine (cut_any s 63 _ (by omega)).mono ?_
      rintro e w3 ⟨rfl, n, rfl⟩
      go_wp2_with fail
      have hN : Six (((((w2.alloc (.cells #[.bool true, .string ⟨#[]⟩, .int .i64 0, .string ⟨#[]⟩, .bool false, .string ⟨#[]⟩] 23)).drewN n).setCell ⟨w2.heap.size, 3, none⟩ (.string (befS 63 s))).setCell ⟨w2.heap.size, 5, none⟩ (.string (aftS 63 s))).setCell ⟨w2.heap.size, 4, none⟩ (.bool (hasB 63 s))) w2.heap.size ⟨true, ⟨#[]⟩, 0, befS 63 s, hasB 63 s, aftS 63 s⟩ := ((((Six.new w2 ⟨true, ⟨#[]⟩, 0, ⟨#[]⟩, false, ⟨#[]⟩⟩).drewN n).s3 (befS 63 s)).s5 (aftS 63 s)).s4 (hasB 63 s)
      have hb2 : Below w2.heap.size w2 (((((w2.alloc (.cells #[.bool true, .string ⟨#[]⟩, .int .i64 0, .string ⟨#[]⟩, .bool false, .string ⟨#[]⟩] 23)).drewN n).setCell ⟨w2.heap.size, 3, none⟩ (.string (befS 63 s))).setCell ⟨w2.heap.size, 5, none⟩ (.string (aftS 63 s))).setCell ⟨w2.heap.size, 4, none⟩ (.bool (hasB 63 s))) :=
        ((((((Below.refl _ _).alloc (Nat.le_refl _) _).trans ((below_drewN _ n).mono (by simp)))).setCell (Nat.le_refl _) _).setCell (Nat.le_refl _) _).setCell (Nat.le_refl _) _
      generalize World.setCell _ _ _ = W3 at hN hb2 ⊢
      have hR3 := hR1.below hb2
      have hB3 := hB1.trans (hb2.mono hB1.size)
      have hNR : w.heap.size < w2.heap.size := hR1.lt
      clear hb2 hR1 hB1
      refine (hpl _ (by omega)).mono ?_
      generalize ((befS 63 s).extract 7 (befS 63 s).size) = X at hXs x1 x2 x3 x4 HC
      rintro e w4 ⟨rfl, hb4⟩
      have hR4 := hR3.below hb4
      have hN4 := hN.below hb4
      have hB4 := hB3.trans (hb4.mono hB3.size)
      clear hb4 hR3 hN hB3 W3 hpl
      have hsh : Short ⟨true, cpS (lowS (befS 47 X)), cpP (lowS (befS 47 X)), (⟨#[47]⟩ : ByteArray) ++ aftS 47 X, hasB 63 s, aftS 63 s⟩ := ⟨by show (cpS (lowS (befS 47 X))).size ≤ 10000; omega, by show ((⟨#[47]⟩ : ByteArray) ++ aftS 47 X).size ≤ 10000; rw [ByteArray.size_append, show (⟨#[47]⟩ : ByteArray).size = 1 from rfl]; omega, by show (aftS 63 s).size ≤ 10000; omega⟩
      have HSH := hide hsh
      obtain ⟨n0, n1, n2, n3, n4, n5, -, nf⟩ := id hN4
      go_wp2_with fail
      have hN5 : Six (((w4.setCell ⟨w2.heap.size, 1, none⟩ (.string (cpS (lowS (befS 47 X))))).setCell ⟨w2.heap.size, 2, none⟩ (.int .i64 (cpP (lowS (befS 47 X))))).setCell ⟨w2.heap.size, 3, none⟩ (.string ((⟨#[47]⟩ : ByteArray) ++ aftS 47 X))) w2.heap.size ⟨true, cpS (lowS (befS 47 X)), cpP (lowS (befS 47 X)), (⟨#[47]⟩ : ByteArray) ++ aftS 47 X, hasB 63 s, aftS 63 s⟩ := ((hN4.s1 (cpS (lowS (befS 47 X)))).s2 (cpP (lowS (befS 47 X)))).s3 ((⟨#[47]⟩ : ByteArray) ++ aftS 47 X)
      have hR5 := ((hR4.other w2.heap.size 1 (.string (cpS (lowS (befS 47 X)))) (by omega)).other w2.heap.size 2 (.int .i64 (cpP (lowS (befS 47 X)))) (by omega)).other w2.heap.size 3 (.string ((⟨#[47]⟩ : ByteArray) ++ aftS 47 X)) (by omega)
      have hB5 := ((hB4.setCell (show w.heap.size ≤ (⟨w2.heap.size, 1, none⟩ : Addr).block by show w.heap.size ≤ w2.heap.size; omega) (.string (cpS (lowS (befS 47 X))))).setCell (show w.heap.size ≤ (⟨w2.heap.size, 2, none⟩ : Addr).block by show w.heap.size ≤ w2.heap.size; omega) (.int .i64 (cpP (lowS (befS 47 X))))).setCell (show w.heap.size ≤ (⟨w2.heap.size, 3, none⟩ : Addr).block by show w.heap.size ≤ w2.heap.size; omega) (.string ((⟨#[47]⟩ : ByteArray) ++ aftS 47 X))
      clear n0 n1 n2 n3 n4 n5 nf hN4 hR4 hB4
      generalize World.setCell _ _ _ = W5 at hN5 hR5 hB5 ⊢
      refine (right_any ⟨true, cpS (lowS (befS 47 X)), cpP (lowS (befS 47 X)), (⟨#[47]⟩ : ByteArray) ++ aftS 47 X, hasB 63 s, aftS 63 s⟩ _ HSH.out (ht.below hB5)).mono ?_
      rintro e w6 ⟨rfl, hb6⟩
      have hR6 := hR5.below hb6
      have hN6 := hN5.below hb6
      have hB6 := hB5.trans (hb6.mono hB5.size)
      clear hb6 hR5 hN5 hB5 W5
      obtain ⟨r0, r1, r2, r3, r4, r5, -, rf⟩ := hR6
      obtain ⟨n0, n1, n2, n3, n4, n5, -, -⟩ := hN6
      cases hrt : rtU ⟨true, cpS (lowS (befS 47 X)), cpP (lowS (befS 47 X)), (⟨#[47]⟩ : ByteArray) ++ aftS 47 X, hasB 63 s, aftS 63 s⟩
      · have HR : Hid (psU s.data.toList = U0 ∧ psE s.data.toList = 20) := by
          unfold Hid psU psE
          rw [size_list, if_neg hlen, if_neg hlen, HC.out, hrt]; exact ⟨rfl, rfl⟩
        go_wp2_with fail
        refine bodyPost_ret (v := .tuple #[U0.v, .int .i64 20]) (by simp [results, Tryd.results11, go_sem, U0_v, *]) rfl ⟨ret_ue HR.out.1.symm HR.out.2.symm, ?_⟩
        exact put6_below hB6 (Nat.le_refl _) U0
      · have HR : Hid (psU s.data.toList = ⟨true, cpS (lowS (befS 47 X)), cpP (lowS (befS 47 X)), (⟨#[47]⟩ : ByteArray) ++ aftS 47 X, hasB 63 s, aftS 63 s⟩ ∧ psE s.data.toList = 0) := by
          unfold Hid psU psE
          rw [size_list, if_neg hlen, if_neg hlen, HC.out, hrt]; exact ⟨rfl, rfl⟩
        go_wp2_with fail
        refine bodyPost_ret (v := .tuple #[U.v ⟨true, cpS (lowS (befS 47 X)), cpP (lowS (befS 47 X)), (⟨#[47]⟩ : ByteArray) ++ aftS 47 X, hasB 63 s, aftS 63 s⟩, .int .i64 0]) (by simp [results, Tryd.results11, go_sem, U.v, *]) rfl ⟨ret_ue HR.out.1.symm HR.out.2.symm, ?_⟩
        exact put6_below hB6 (Nat.le_refl _) ⟨true, cpS (lowS (befS 47 X)), cpP (lowS (befS 47 X)), (⟨#[47]⟩ : ByteArray) ++ aftS 47 X, hasB 63 s, aftS 63 s⟩

end Go.Proofs.YtjegoceebdiaaaaDoor
