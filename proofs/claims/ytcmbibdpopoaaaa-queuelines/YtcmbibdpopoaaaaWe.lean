/- The walk of QueueTwice. -/
import Derived.Test.YtcmbibdpopoaaaaWc
import Derived.Test.YtcmbibdpopoaaaaWd
import Derived.Deep.DeepCutAuto
namespace Go.Proofs.Ytcmbibdpopoaaaa
set_option linter.unusedVariables false
set_option linter.unusedSimpArgs false
open Go.RowKit

/-- A queue lies in block N. -/
def Q2 (w : World) (N : Nat) (b : ByteArray) (c : Int) : Prop := w.cell? ⟨N, 0, none⟩ = some (.string b) ∧ w.cell? ⟨N, 1, none⟩ = some (.int .i64 c) ∧ N < w.heap.size

theorem Q2.below {w w' : World} {N : Nat} {b : ByteArray} {c : Int} (h : Q2 w N b c) (hb : Below w.heap.size w w') : Q2 w' N b c :=
  ⟨(hb.cell (p := ⟨N, 0, none⟩) h.2.2).trans h.1, (hb.cell (p := ⟨N, 1, none⟩) h.2.2).trans h.2.1, Nat.lt_of_lt_of_le h.2.2 hb.size⟩

theorem Q2.alloc {w : World} {N : Nat} {b : ByteArray} {c : Int} (h : Q2 w N b c) (o : Obj) : Q2 (w.alloc o) N b c :=
  h.below ((Below.refl _ _).alloc (Nat.le_refl _) o)

theorem Q2.new (w : World) (b : ByteArray) (c : Int) : Q2 (w.alloc (.cells #[.string b, .int .i64 c] 23)) w.heap.size b c := ⟨by go_simp, by go_simp, by simp⟩

theorem keepA {W0 W : World} {N : Nat} {v0 v1 : Value} {o : Obj} (h : Below W0.heap.size W0 W ∧ W.cell? ⟨N, 0, none⟩ = some v0 ∧ W.cell? ⟨N, 1, none⟩ = some v1)
    (hN : N < W0.heap.size) : Below W0.heap.size W0 (W.alloc o) ∧ (W.alloc o).cell? ⟨N, 0, none⟩ = some v0 ∧ (W.alloc o).cell? ⟨N, 1, none⟩ = some v1 :=
  keepQ ((Below.refl _ _).alloc (Nat.le_refl _) o) h hN

theorem put_yes' (b s : ByteArray) (c : Int) (k : Nat) (w : World) (h : rightB b.size c = true) (hs : s.size ≤ maxLen) (hk : (k : Int) = min (s.size : Int) (c - b.size)) :
    Calls Try.prog 14 #[.agg #[.string b, .int .i64 c], .string s] w fun e w' => e = .returned (.tuple #[.agg #[.string (b ++ s.extract 0 k), .int .i64 c], .int .i64 k, .int .i64 0]) ∧ Below w.heap.size w w' := by
  have := put_yes b s c w h hs
  rwa [← hk, Int.toNat_natCast] at this

theorem maxLen_of {n : Nat} (h : n ≤ 100000) : n ≤ maxLen := by unfold maxLen; omega

set_option maxRecDepth 100000 in
set_option maxHeartbeats 1000000 in
theorem queueTwice_walk (b s : ByteArray) (c cut n m : Int) (w : World) (hb : b.size ≤ maxLen) (hs : s.size ≤ maxLen) :
    Calls Try.prog 7 #[.agg #[.string b, .int .i64 c], .string s, .int .i64 cut, .int .i64 n, .int .i64 m] w fun e w' => e = .returned (.bool true) ∧ Below w.heap.size w w' := by
  go_enter Try.func7, Try.ntmps7
  go_wp2_with fail
  go_cut [1] (fun s1 wc => ∃ s' b' : ByteArray, s1 = .string s' ∧ s'.size ≤ 500 ∧ Below w.heap.size w wc ∧ Q2 wc w.heap.size b' c)
  case first =>
    unfold maxLen at hs
    obtain ⟨k, hk⟩ : ∃ k : Nat, k = min s.size 500 := ⟨_, rfl⟩
    have hk1 : (k : Int) ≤ (s.size : Int) := by omega
    have hk2 : k ≤ 500 := by omega
    have HK : Hid (k = min s.size 500) := hk
    clear hk
    refine wp_region_held_drew (S := (fun _ => True)) (by kernel_rfl) (trivial) (fun hHeld => ?_)
    refine wpAnyH_take (i := 2) (oi := _) (v := .string s) rfl (by kernel_rfl) (by kernel_rfl) (by kernel_rfl) (fun _ _ _ h => h) (Or.inl ⟨by rfl, fun wS hSw => by go_simp⟩) (by first | trivial | assumption) ?_
    simp only [Act.put, List.setIfInBounds_toArray, List.set_cons_zero, List.set_cons_succ]
    refine wpAnyH_take (i := 3) (oi := _) (v := .string s) rfl (by kernel_rfl) (by kernel_rfl) (by kernel_rfl) (fun _ _ _ h => h) (Or.inl ⟨by rfl, fun wS hSw => by go_simp⟩) (by first | trivial | assumption) ?_
    simp only [Act.put, List.setIfInBounds_toArray, List.set_cons_zero, List.set_cons_succ]
    refine wpAnyH_take (i := 4) (oi := _) (v := .int .i64 s.size) rfl (by kernel_rfl) (by kernel_rfl) (by kernel_rfl) (fun _ _ _ h => h) (Or.inl ⟨by rfl, fun wS hSw => by go_simp⟩) (by first | trivial | assumption) ?_
    simp only [Act.put, List.setIfInBounds_toArray, List.set_cons_zero, List.set_cons_succ]
    refine wpAnyH_take (i := 5) (oi := _) (v := .int .i64 k) rfl (by kernel_rfl) (by kernel_rfl) (by kernel_rfl) (fun _ _ _ h => h) (Or.inl ⟨by rfl, fun wS hSw => by go_simp; have := HK.out; split <;> omega⟩) (by first | trivial | assumption) ?_
    simp only [Act.put, List.setIfInBounds_toArray, List.set_cons_zero, List.set_cons_succ]
    refine wpAnyH_take (i := 6) (oi := _) (v := .string (s.extract 0 k)) rfl (by kernel_rfl) (by kernel_rfl) (by kernel_rfl) (fun _ _ _ h => h) (Or.inl ⟨by rfl, fun wS hSw => by go_simp⟩) (by first | trivial | assumption) ?_
    simp only [Act.put, List.setIfInBounds_toArray, List.set_cons_zero, List.set_cons_succ]
    refine wpAnyH_ready (rs := [0]) (by kernel_rfl) (by simp) ?_
    refine AllReadyH.cons (o := _) rfl (fun K hK => ?_) AllReadyH.nil
    go_simp
    refine hK.out _ _ (trivial) (fun hHeld => ?_)
    clear hK K
    refine wpAnyH_ready (rs := [1]) (by kernel_rfl) (by simp) ?_
    refine AllReadyH.cons (o := _) rfl (fun K hK => ?_) AllReadyH.nil
    go_simp
    refine (few_any _ _ _ hb).mono ?_
    rintro e w1 ⟨b', hb', rfl, hw1⟩
    refine hK.out _ _ (trivial) (fun hHeld => ?_)
    clear hK K
    have c0 : w1.cell? ⟨w.heap.size, 0, none⟩ = some (.string b) := (hw1.cell (p := ⟨w.heap.size, 0, none⟩) (by simp)).trans (by go_simp)
    have c1 : w1.cell? ⟨w.heap.size, 1, none⟩ = some (.int .i64 c) := (hw1.cell (p := ⟨w.heap.size, 1, none⟩) (by simp)).trans (by go_simp)
    have f0 : ∀ o, w1.frozen? ⟨w.heap.size, o, none⟩ = false := fun o => (hw1.frozen (p := ⟨w.heap.size, o, none⟩) (by simp)).trans (by go_simp)
    refine wpAnyH_ready (rs := [7]) (by kernel_rfl) (by simp) ?_
    refine AllReadyH.cons (o := _) rfl (fun K hK => ?_) AllReadyH.nil
    go_simp
    refine hK.out _ _ (trivial) (fun hHeld => ?_)
    clear hK K
    refine wpAnyH_ready (rs := [8]) (by kernel_rfl) (by simp) ?_
    refine AllReadyH.cons (o := _) rfl (fun K hK => ?_) AllReadyH.nil
    go_simp
    refine hK.out _ _ (trivial) (fun hHeld => ?_)
    clear hK K
    refine wpAnyH_done (by kernel_rfl) ?_ _
    go_wp2_with fail
    go_meet
    have hz1 : w.heap.size < w1.heap.size := by have := hw1.size; simp at this; omega
    have hB1 : Below w.heap.size w w1 := ((Below.refl _ _).alloc (Nat.le_refl _) _).drew.trans (hw1.mono (by simp))
    exact ⟨_, b', rfl, by simp; omega, (hB1.setCell (Nat.le_refl _) _).setCell (Nat.le_refl _) _, (setq c0 c1).1, (setq c0 c1).2, by simpa using hz1⟩
  case rest =>
    obtain ⟨s', b', rfl, hs', hBw, hQ⟩ := hcut
    have hs1 : (s'.size : Int) ≤ 500 := by omega
    clear hs hb
    go_upto_region 2 with fail
    go_cut [2] (fun x wd => wd = wc ∧ ∃ k : Nat, x = .int .i64 k ∧ k ≤ s'.size)
    case first =>
      go_wp2_with fail
      all_goals
        go_meet
        refine ⟨rfl, ?_⟩
        first | exact ⟨_, rfl, Nat.le_refl _⟩ | exact ⟨0, rfl, by omega⟩ | exact ⟨cut.toNat, by rw [Int.toNat_of_nonneg (by omega)], by omega⟩
    case rest =>
    obtain ⟨rfl, kc, rfl, hkc⟩ := hcut
    go_upto_region 3 with fail
    go_cut [3, 4] (fun x y wd => wd = wc ∧ ∃ kn km : Nat, x = .int .i64 kn ∧ y = .int .i64 km ∧ kn ≤ 1000 ∧ km ≤ 1000)
    case first =>
      go_wp2_with fail
      all_goals
        go_meet
        refine ⟨rfl, ?_⟩
        first
          | exact ⟨1000, 1000, rfl, rfl, by omega, by omega⟩
          | exact ⟨1000, 0, rfl, rfl, by omega, by omega⟩
          | exact ⟨0, 1000, rfl, rfl, by omega, by omega⟩
          | exact ⟨0, 0, rfl, rfl, by omega, by omega⟩
          | exact ⟨n.toNat, 0, by rw [Int.toNat_of_nonneg (by omega)], rfl, by omega, by omega⟩
          | exact ⟨0, m.toNat, rfl, by rw [Int.toNat_of_nonneg (by omega)], by omega, by omega⟩
          | exact ⟨1000, m.toNat, rfl, by rw [Int.toNat_of_nonneg (by omega)], by omega, by omega⟩
          | exact ⟨n.toNat, 1000, by rw [Int.toNat_of_nonneg (by omega)], rfl, by omega, by omega⟩
          | exact ⟨n.toNat, m.toNat, by rw [Int.toNat_of_nonneg (by omega)], by rw [Int.toNat_of_nonneg (by omega)], by omega, by omega⟩
    case rest =>
    obtain ⟨rfl, kn, km, rfl, rfl, hkn, hkm⟩ := hcut
    have hkc1 : (kc : Int) ≤ (s'.size : Int) := by omega
    have hkn1 : (kn : Int) ≤ 1000 := by omega
    have hkm1 : (km : Int) ≤ 1000 := by omega
    cases hr : rightB b'.size c
    · have HR : Hid (rightB b'.size c = false) := hr
      clear hr
      obtain ⟨c0, c1, cz⟩ := hQ
      go_wp2_with fail
      refine (put_no _ _ _ _ HR.out).mono ?_
      rintro e w4 ⟨rfl, hw4⟩
      go_wp2_with fail
      refine (alive_any _).mono ?_
      rintro e w5 ⟨rfl, hw5⟩
      have hB4 : Below w.heap.size w w4 := hBw.trans (hw4.mono hBw.size)
      have hB5 : Below w.heap.size w w5 := (hB4.alloc hB4.size _).trans (hw5.mono (by have := hB4.size; simp; omega))
      obtain ⟨x0, x1, xz⟩ := (Q2.new w4 ⟨#[]⟩ 0).below hw5
      go_wp2_with fail
      go_ret
      exact ⟨rfl, hB5⟩
    · obtain ⟨r1, r2, r3⟩ := rightB_true hr
      have HR : Hid (rightB b'.size c = true) := hr
      clear hr
      obtain ⟨K, hK0⟩ : ∃ K : Nat, (K : Int) = min (s'.size : Int) (c - b'.size) := ⟨(min (s'.size : Int) (c - b'.size)).toNat, by omega⟩
      have HK : Hid ((K : Int) = min (s'.size : Int) (c - b'.size)) := hK0
      have hK1 : (K : Int) ≤ (s'.size : Int) := by omega
      clear hK0
      obtain ⟨c0, c1, cz⟩ := id hQ
      go_wp2_with fail
      refine (put_yes' _ _ _ K _ HR.out (maxLen_of (by omega)) HK.out).mono ?_
      rintro e w4 ⟨rfl, hw4⟩
      have hB4 : Below w.heap.size w w4 := hBw.trans (hw4.mono hBw.size)
      have hQ4 := hQ.below hw4
      clear hw4 hQ hBw c0 c1 cz
      go_wp2_with fail
      have hQ5 := hQ4.alloc (.cells #[.string (b' ++ s'.extract 0 K), .int .i64 c] 23)
      have hA5 := Q2.new w4 (b' ++ s'.extract 0 K) c
      have hB5 : Below w.heap.size w (w4.alloc (.cells #[.string (b' ++ s'.extract 0 K), .int .i64 c] 23)) := hB4.alloc hB4.size _
      clear hQ4 hB4
      generalize w4.alloc (.cells #[.string (b' ++ s'.extract 0 K), .int .i64 c] 23) = w5 at *
      generalize w4.heap.size = A at *
      clear w4
      obtain ⟨k1, hk1⟩ : ∃ k1 : Nat, (k1 : Int) = min (kc : Int) (c - b'.size) := ⟨(min (kc : Int) (c - b'.size)).toNat, by omega⟩
      have Hk1 : Hid ((k1 : Int) = min (kc : Int) (c - b'.size)) := hk1
      have hk1a : (k1 : Int) ≤ kc := by omega
      have hk1b : (b'.size : Int) + k1 ≤ c := by omega
      clear hk1
      have hsz : (s'.extract 0 kc).size = kc := by simp; omega
      go_cut [14, 15, 16] (fun x y z wd => ∃ M, x = .pointer (some ⟨M, 0, none⟩) ∧ y = .int .i64 k1 ∧ z = .int .i64 0 ∧ Below w.heap.size w wd ∧ Q2 wd w.heap.size b' c ∧ Q2 wd A (b' ++ s'.extract 0 K) c ∧ Q2 wd M (b' ++ s'.extract 0 k1) c)
      case first =>
        obtain ⟨c0, c1, cz⟩ := id hQ5
        go_region_held3 (fun w' => Below w5.heap.size w5 w' ∧ w'.cell? ⟨w.heap.size, 0, none⟩ = some (.string b') ∧ w'.cell? ⟨w.heap.size, 1, none⟩ = some (.int .i64 c))
          (first | exact ⟨(Below.refl _ _).drew, c0, c1⟩ | exact keepQ (by assumption) (by assumption) cz | exact keepA (by assumption) cz | exact keepA (keepQ hw6 ⟨(Below.refl _ _).drew, c0, c1⟩ cz) cz | exact keepTs (keepTs (by assumption) cz (by first | exact Nat.le_refl _ | exact hw6.size)) cz (by first | exact Nat.le_refl _ | exact hw6.size) | exact keepTs (keepTs (by assumption) cz (by simp)) cz (by simp))
          (first | (go_at_call 14; refine (put_yes' _ _ _ k1 _ HR.out (maxLen_of (by omega)) (by rw [hsz]; exact Hk1.out)).mono ?_; rintro e w6 ⟨rfl, hw6⟩; obtain ⟨hc6, hf6⟩ := stays hw6; rw [show (s'.extract 0 kc).extract 0 k1 = s'.extract 0 k1 from by rw [ByteArray.extract_extract]; congr 1; omega]))
        · rename_i hS
          go_wp2_with fail
          go_meet
          exact ⟨_, rfl, rfl, rfl, hB5.trans (hS.1.mono hB5.size), hQ5.below hS.1, hA5.below hS.1, Q2.new _ _ _⟩
        · rename_i hS
          go_wp2_with fail
          go_meet
          have z0 : w6.cell? ⟨w5.heap.size, 0, none⟩ = some (.string ⟨#[]⟩) := (hw6.cell (p := ⟨w5.heap.size, 0, none⟩) (by simp)).trans (by go_simp)
          have z1 : w6.cell? ⟨w5.heap.size, 1, none⟩ = some (.int .i64 0) := (hw6.cell (p := ⟨w5.heap.size, 1, none⟩) (by simp)).trans (by go_simp)
          exact ⟨_, rfl, rfl, rfl, hB5.trans (hS.1.mono hB5.size), hQ5.below hS.1, hA5.below hS.1, (setq z0 z1).1, (setq z0 z1).2, by have := hw6.size; simp at this; simp; omega⟩
      case rest =>
      obtain ⟨M, rfl, rfl, rfl, hB6, hQ6, hA6, hM6⟩ := hcut
      clear hB5 hQ5 hA5
      rename_i w7
      obtain ⟨b1, hb1⟩ : ∃ b1, b1 = b' ++ s'.extract 0 k1 := ⟨_, rfl⟩
      have Hb1 : Hid (b1 = b' ++ s'.extract 0 k1) := hb1
      rw [← hb1] at hM6
      have hb1s : (b1.size : Int) = b'.size + k1 := by rw [hb1]; simp [ByteArray.size_append, ByteArray.size_extract]; omega
      clear hb1
      have hr1 : rightB b1.size c = true := by simp [rightB]; omega
      have HR1 : Hid (rightB b1.size c = true) := hr1
      clear hr1
      obtain ⟨k2, hk2⟩ : ∃ k2 : Nat, (k2 : Int) = min ((s'.size - kc : Nat) : Int) (c - b1.size) := ⟨(min ((s'.size - kc : Nat) : Int) (c - b1.size)).toNat, by omega⟩
      have Hk2 : Hid ((k2 : Int) = min ((s'.size - kc : Nat) : Int) (c - b1.size)) := hk2
      have hk2a : k2 ≤ s'.size - kc := by omega
      clear hk2
      have hsz2 : (s'.extract kc s'.size).size = s'.size - kc := by simp
      go_upto_region 8 with fail
      go_cut [17, 18, 19] (fun x y z wd => ∃ L, x = .pointer (some ⟨L, 0, none⟩) ∧ y = .int .i64 k2 ∧ z = .int .i64 0 ∧ Below w.heap.size w wd ∧ Q2 wd w.heap.size b' c ∧ Q2 wd A (b' ++ s'.extract 0 K) c ∧ Q2 wd L (b1 ++ s'.extract kc (kc + k2)) c)
      case first =>
        obtain ⟨c0, c1, cz⟩ := id hM6
        have hsl : ((s'.size : Int)) ≤ s'.size := by omega
        go_region_held3 (fun w' => Below wc.heap.size wc w' ∧ w'.cell? ⟨M, 0, none⟩ = some (.string b1) ∧ w'.cell? ⟨M, 1, none⟩ = some (.int .i64 c))
          (first | exact ⟨(Below.refl _ _).drew, c0, c1⟩ | exact keepQ (by assumption) (by assumption) cz | exact keepA (by assumption) cz | exact keepA (keepQ hw6 ⟨(Below.refl _ _).drew, c0, c1⟩ cz) cz | exact keepTs (keepTs (by assumption) cz (by first | exact Nat.le_refl _ | exact hw6.size)) cz (by first | exact Nat.le_refl _ | exact hw6.size) | exact keepTs (keepTs (by assumption) cz (by simp)) cz (by simp))
          (first | (go_at_call 14; refine (put_yes' _ _ _ k2 _ HR1.out (maxLen_of (by omega)) (by rw [hsz2]; exact Hk2.out)).mono ?_; rintro e w6 ⟨rfl, hw6⟩; obtain ⟨hc6, hf6⟩ := stays hw6; rw [show (s'.extract kc s'.size).extract 0 k2 = s'.extract kc (kc + k2) from by rw [ByteArray.extract_extract]; congr 1; omega]))
        · rename_i hS
          go_wp2_with fail
          go_meet
          exact ⟨_, rfl, rfl, rfl, hB6.trans (hS.1.mono hB6.size), hQ6.below hS.1, hA6.below hS.1, Q2.new _ _ _⟩
        · rename_i hS
          go_wp2_with fail
          go_meet
          have z0 : w6.cell? ⟨wc.heap.size, 0, none⟩ = some (.string ⟨#[]⟩) := (hw6.cell (p := ⟨wc.heap.size, 0, none⟩) (by simp)).trans (by go_simp)
          have z1 : w6.cell? ⟨wc.heap.size, 1, none⟩ = some (.int .i64 0) := (hw6.cell (p := ⟨wc.heap.size, 1, none⟩) (by simp)).trans (by go_simp)
          exact ⟨_, rfl, rfl, rfl, hB6.trans (hS.1.mono hB6.size), hQ6.below hS.1, hA6.below hS.1, (setq z0 z1).1, (setq z0 z1).2, by have := hw6.size; simp at this; simp; omega⟩
      case rest =>
      obtain ⟨L, rfl, rfl, rfl, hB7, hQ7, hA7, hL7⟩ := hcut
      clear hB6 hQ6 hA6 hM6
      obtain ⟨l0, l1, lz⟩ := id hL7
      obtain ⟨a0, a1, az⟩ := id hA7
      go_upto_region 9 with fail
      go_cut [112] (fun x wd => x = .bool false ∧ wd = wc)
      case first =>
        by_cases hcase : k1 = kc
        · subst hcase
          have hKe : (k1 : Int) + (k2 : Int) = (K : Int) := by have h1 := HK.out; have h2 := Hk2.out; have h3 := Hk1.out; omega
          have hbe : b1 ++ s'.extract k1 (k1 + k2) = b' ++ s'.extract 0 K := by
            have e : K = k1 + k2 := by omega
            rw [Hb1.out, ByteArray.append_assoc, ByteArray.extract_append_extract, e]; congr 2 <;> omega
          rw [hbe] at l0
          generalize b' ++ s'.extract 0 K = X at *
          clear hbe
          have hlt : ¬ (k1 : Int) < k1 := by omega
          go_wp2_with fail
          go_meet
          exact ⟨rfl, rfl⟩
        · have hlt : (k1 : Int) < kc := by omega
          have hne : ((k1 : Int) == (kc : Int)) = false := by simp; omega
          have hKe : K = k1 := by have h1 := HK.out; have h3 := Hk1.out; omega
          subst hKe
          clear hcase
          go_wp2_with fail
          go_meet
          exact ⟨rfl, rfl⟩
      case rest =>
      obtain ⟨rfl, rfl⟩ := hcut
      clear HK hK1 Hk1 hk1a hk1b hsz Hb1 hb1s HR1 Hk2 hk2a hsz2 hA7 hL7 l0 l1 lz a0 a1 az
      obtain ⟨c0, c1, cz⟩ := id hQ7
      obtain ⟨T, hT⟩ : ∃ T : Nat, T = min (kn + km) b'.size := ⟨_, rfl⟩
      obtain ⟨U, hU⟩ : ∃ U : Nat, U = min kn b'.size := ⟨_, rfl⟩
      obtain ⟨V, hV⟩ : ∃ V : Nat, V = min km (b'.size - U) := ⟨_, rfl⟩
      obtain ⟨y, hy⟩ : ∃ y, y = b'.extract U b'.size := ⟨_, rfl⟩
      have hys : y.size = b'.size - U := by rw [hy]; simp
      have e1 : y.extract V y.size = b'.extract T b'.size := by rw [hys, hy, ByteArray.extract_extract]; congr 1 <;> omega
      have e2 : b'.extract 0 U ++ y.extract 0 V = b'.extract 0 T := by rw [hy, ByteArray.extract_extract, show U + 0 = U from rfl, ByteArray.extract_append_extract]; congr 1 <;> omega
      have E1 : Hid (y.extract V y.size = b'.extract T b'.size) := e1
      have E2 : Hid (b'.extract 0 U ++ y.extract 0 V = b'.extract 0 T) := e2
      have HT : Hid (T = min (kn + km) b'.size) := hT
      have HU : Hid (U = min kn b'.size) := hU
      have HV : Hid (V = min km (b'.size - U)) := hV
      have HY : Hid (y = b'.extract U b'.size) := hy
      have HRY : Hid (rightB y.size c = true) := by show rightB y.size c = true; simp [rightB]; omega
      have HYS : Hid (y.size = b'.size - U) := hys
      clear hT hU hV hy e1 e2 hys
      go_wp2_with fail
      refine (take_yes _ _ _ _ HR.out (by omega)).mono ?_
      rintro e w8 ⟨rfl, hw8⟩
      rw [show min ((kn : Int) + (km : Int)).toNat b'.size = T from by rw [HT.out]; omega]
      obtain ⟨c0, c1, cz⟩ := id (hQ7.below hw8)
      have hB8 : Below w.heap.size w w8 := hB7.trans (hw8.mono hB7.size)
      have hQ8 := hQ7.below hw8
      clear hw8
      go_wp2_with fail
      refine (take_yes _ _ _ _ HR.out (by omega)).mono ?_
      rintro e w9 ⟨rfl, hw9⟩
      rw [show min (kn : Int).toNat b'.size = U from by rw [HU.out]; omega, ← HY.out]
      have hB9 : Below w.heap.size w w9 := (hB8.alloc hB8.size _).trans (hw9.mono (by have := hB8.size; simp; omega))
      have hX9 := (Q2.new w8 (b'.extract T b'.size) c).below hw9
      clear hw9
      go_wp2_with fail
      refine (take_yes _ _ _ _ HRY.out (by omega)).mono ?_
      rintro e w10 ⟨rfl, hw10⟩
      rw [show min (km : Int).toNat y.size = V from by rw [HV.out, HYS.out]; omega, E1.out]
      have hB10 : Below w.heap.size w w10 := (hB9.alloc hB9.size _).trans (hw10.mono (by have := hB9.size; simp; omega))
      have hX10 := (hX9.alloc _).below hw10
      clear hw10
      go_wp2_with fail
      refine (alive_any _).mono ?_
      rintro e w11 ⟨rfl, hw11⟩
      have hB11 : Below w.heap.size w w11 := (hB10.alloc hB10.size _).trans (hw11.mono (by have := hB10.size; simp; omega))
      obtain ⟨x0, x1, xz⟩ := (hX10.alloc _).below hw11
      obtain ⟨z0, z1, zz⟩ := (Q2.new w10 (b'.extract T b'.size) c).below hw11
      have e2 := E2.out
      have hys : y.size ≤ 65536 := by have := HYS.out; omega
      go_wp2_with fail
      go_ret
      exact ⟨rfl, hB11⟩

end Go.Proofs.Ytcmbibdpopoaaaa
