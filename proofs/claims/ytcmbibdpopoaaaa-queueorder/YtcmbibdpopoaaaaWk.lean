/- The walk of QueueOrder. -/
import Derived.Test.YtcmbibdpopoaaaaWj
namespace Go.Proofs.Ytcmbibdpopoaaaa
set_option linter.unusedVariables false
set_option linter.unusedSimpArgs false
open Go.RowKit

theorem put_back0 {w w2 : World} {N : Nat} {b X : ByteArray} {c d : Int} (hN : w.heap.size ≤ N) (hB : Below w.heap.size w w2) (hQ : Q2 w2 N b c) (hF : F2 w2 N) :
    Below w.heap.size w ((w2.setCell ⟨N, 0, none⟩ (.string X)).setCell ⟨N, 1, none⟩ (.int .i64 d)) ∧
    F2 ((w2.setCell ⟨N, 0, none⟩ (.string X)).setCell ⟨N, 1, none⟩ (.int .i64 d)) N ∧
    Q2 ((w2.setCell ⟨N, 0, none⟩ (.string X)).setCell ⟨N, 1, none⟩ (.int .i64 d)) N X d := by
  obtain ⟨h0, h1, hz⟩ := hQ
  exact ⟨(hB.setCell hN _).setCell hN _, fun o => by rw [World.frozen?_setCell, World.frozen?_setCell]; exact hF o, (setq h0 h1).1, (setq h0 h1).2, by simpa using hz⟩

set_option maxRecDepth 100000 in
set_option maxHeartbeats 1000000 in
theorem queueOrder_walk (size : Int) (ad : Option Addr) (B off n cap : Nat) (S : Nat → ByteArray) (T : Nat → Int) (w : World) (hn : n ≤ maxLen)
    (hS : ∀ i, i < n → ad = some ⟨B, off, none⟩ ∧ B < w.heap.size ∧ w.cell? ⟨B, off + i * 2, none⟩ = some (.string (S i)) ∧ w.cell? ⟨B, off + i * 2 + 1, none⟩ = some (.int .i64 (T i)) ∧ (S i).size ≤ maxLen) :
    Calls Try.prog 5 #[.int .i64 size, .slice ad n cap] w fun e w' => e = .returned (.bool true) ∧ Below w.heap.size w w' := by
  have HS : Hid (∀ i, i < n → ad = some ⟨B, off, none⟩ ∧ B < w.heap.size ∧ w.cell? ⟨B, off + i * 2, none⟩ = some (.string (S i)) ∧ w.cell? ⟨B, off + i * 2 + 1, none⟩ = some (.int .i64 (T i)) ∧ (S i).size ≤ maxLen) := hS
  clear hS
  unfold maxLen at hn
  have hn1 : (n : Int) ≤ 9223372036854775807 := by omega
  go_enter Try.func5, Try.ntmps5
  go_upto_region 1 with fail
  go_cut [5, 6] (fun x y wd => ∃ (N : Nat) (c : Int), x = .pointer (some ⟨N, 0, none⟩) ∧ y = .int .i64 0 ∧ 1 ≤ c ∧ c ≤ 2000 ∧ w.heap.size ≤ N ∧ Below w.heap.size w wd ∧ F2 wd N ∧ Q2 wd N ⟨#[]⟩ c)
  case first =>
    go_wp2_with fail
    all_goals
      refine (new_yes _ _ (by first | decide | (simp [rightB]; omega))).mono ?_
      rintro e w1 ⟨rfl, hw1⟩
      go_wp2_with fail
      go_meet
      exact ⟨_, _, rfl, rfl, by omega, by omega, hw1.size, hw1.alloc hw1.size _, fun o => by go_simp, Q2.new _ _ _⟩
  case rest =>
  obtain ⟨N, c, rfl, rfl, hc1, hc2, hNw, hBd, hFd, hQd⟩ := hcut
  go_wp2_with fail
  refine (alive_any _).mono ?_
  rintro e wa ⟨rfl, hwa⟩
  have hBa : Below w.heap.size w wa := hBd.trans (hwa.mono hBd.size)
  have hFa := hFd.below hQd.2.2 hwa
  have hQa := hQd.below hwa
  clear hwa hBd hFd hQd
  go_upto_region 6 with fail
  go_loopg [7, 8, 34] (n + 1) (fun k x y z wr => ∃ (i : Nat) (inn out qb : ByteArray), x = .string inn ∧ y = .string out ∧ z = .int .i64 i ∧ k + i = n + 1 ∧ i ≤ n ∧ i ≤ 40 ∧ inn.size ≤ 300 * i ∧ inn = out ++ qb ∧ (qb.size : Int) ≤ c ∧ Below w.heap.size w wr ∧ F2 wr N ∧ Q2 wr N qb c)
  case atStart =>
    exact ⟨0, ⟨#[]⟩, ⟨#[]⟩, ⟨#[]⟩, rfl, rfl, rfl, rfl, Nat.zero_le _, Nat.zero_le _, Nat.zero_le _, rfl, by show ((0 : Nat) : Int) ≤ c; omega, hBa, hFa, hQa⟩
  case round =>
    obtain ⟨i, inn, out, qb, rfl, rfl, rfl, hk, hin, hi40, hsz, hio, hqc, hBr, hFr, hQr⟩ := hrel
    have HIO : Hid (inn = out ++ qb) := hio
    have hosz : inn.size = out.size + qb.size := by rw [hio, ByteArray.size_append]
    clear hio
    have HR : Hid (rightB qb.size c = true) := by show rightB qb.size c = true; simp [rightB]; omega
    obtain ⟨q0, q1, qz⟩ := id hQr
    by_cases hlt : (i : Int) < n
    · obtain ⟨had, hB, e0, e1, e2⟩ := HS.out i (by omega)
      subst had
      have g0 := (hBr.cell (p := ⟨B, off + i * 2, none⟩) hB).trans e0
      have g1 := (hBr.cell (p := ⟨B, off + i * 2 + 1, none⟩) hB).trans e1
      clear e0 e1
      generalize S i = sp at *
      generalize T i = tk at *
      unfold maxLen at e2
      by_cases h40 : i < 40
      · have h40' : (i : Int) < 40 := by omega
        go_upto_region 9 with fail
        have hB1 : Below w.heap.size w (wr.alloc (.cells #[.string sp, .int .i64 tk] 46)) := hBr.alloc hBr.size _
        have hF1 : F2 (wr.alloc (.cells #[.string sp, .int .i64 tk] 46)) N := hFr.below qz ((Below.refl _ _).alloc (Nat.le_refl _) _)
        have hQ1 := hQr.alloc (.cells #[.string sp, .int .i64 tk] 46)
        have hA1 : Q2 (wr.alloc (.cells #[.string sp, .int .i64 tk] 46)) wr.heap.size sp tk := ⟨by go_simp, by go_simp, by simp⟩
        have hNA : N < wr.heap.size := qz
        generalize wr.alloc (.cells #[.string sp, .int .i64 tk] 46) = W1 at *
        generalize wr.heap.size = M at *
        clear g0 g1 q0 q1 qz hBr hFr hQr
        obtain ⟨a0, a1, az⟩ := id hA1
        go_cut [11] (fun x wd => wd = W1 ∧ ∃ s2 : ByteArray, x = .string s2 ∧ s2.size ≤ 300)
        case first =>
          go_wp2_with fail
          all_goals
            go_meet
            refine ⟨rfl, _, rfl, ?_⟩
            first | omega | (simp; omega)
        case rest =>
        obtain ⟨rfl, s2, rfl, hs2⟩ := hcut
        clear a0 a1 az e2
        obtain ⟨q0, q1, qz⟩ := id hQ1
        go_wp2_with fail
        refine (room_any _ _ _).mono ?_
        rintro e w2 ⟨rfl, hw2⟩
        rw [HR.out, if_pos rfl]
        have hB2 : Below w.heap.size w w2 := hB1.trans (hw2.mono hB1.size)
        have hF2 := hF1.below hQ1.2.2 hw2
        have hQ2 := hQ1.below hw2
        have hA2 := hA1.below hw2
        clear hw2 hB1 hF1 hQ1 hA1 q0 q1 qz
        obtain ⟨q0, q1, qz⟩ := id hQ2
        obtain ⟨K, hK0⟩ : ∃ K : Nat, (K : Int) = min (s2.size : Int) (c - qb.size) := ⟨(min (s2.size : Int) (c - qb.size)).toNat, by omega⟩
        have HK : Hid ((K : Int) = min (s2.size : Int) (c - qb.size)) := hK0
        have hK1 : (K : Int) ≤ s2.size := by omega
        have hK2 : (qb.size : Int) + K ≤ c := by omega
        clear hK0
        obtain ⟨pb, hpb⟩ : ∃ pb, pb = qb ++ s2.extract 0 K := ⟨_, rfl⟩
        have hpbs : (pb.size : Int) ≤ c := by rw [hpb]; simp [ByteArray.size_append, ByteArray.size_extract]; omega
        have HPB : Hid (pb = qb ++ s2.extract 0 K) := hpb
        clear hpb
        go_wp2_with fail
        refine (put_yes' _ _ _ K _ HR.out (maxLen_of (by omega)) HK.out).mono ?_
        rintro e w3 ⟨rfl, hw3⟩
        rw [← HPB.out]
        have hB3 : Below w.heap.size w w3 := hB2.trans (hw3.mono hB2.size)
        have hF3 := hF2.below hQ2.2.2 hw3
        have hQ3 := hQ2.below hw3
        have hA3 := hA2.below hw3
        clear hw3 hB2 hF2 hQ2 hA2 q0 q1 qz
        go_upto_region 12 with fail
        have hB4 : Below w.heap.size w (w3.alloc (.cells #[.string pb, .int .i64 c] 23)) := hB3.alloc hB3.size _
        have hF4 : F2 (w3.alloc (.cells #[.string pb, .int .i64 c] 23)) N := hF3.below hQ3.2.2 ((Below.refl _ _).alloc (Nat.le_refl _) _)
        have hQ4 := hQ3.alloc (.cells #[.string pb, .int .i64 c] 23)
        have hA4 := hA3.alloc (.cells #[.string pb, .int .i64 c] 23)
        have hP4 := Q2.new w3 pb c
        clear hB3 hF3 hQ3 hA3
        generalize w3.alloc (.cells #[.string pb, .int .i64 c] 23) = W4 at *
        generalize w3.heap.size = L at *
        go_cut [12, 76] (fun _ x wd => x = .bool false ∧ wd = W4)
        case first =>
          by_cases hc : (s2.size : Int) < c - qb.size
          · have hKe : K = s2.size := by have := HK.out; omega
            subst hKe
            have h1 : ¬ ((s2.size : Int) < 0) := by omega
            go_wp2_with fail
            go_meet
            exact ⟨rfl, rfl⟩
          · have hKe : c - (qb.size : Int) = (K : Int) := by have := HK.out; omega
            have h1 : ¬ ((K : Int) < 0) := by omega
            have h2 : ¬ ((s2.size : Int) < K) := by omega
            go_wp2_with fail
            go_meet
            exact ⟨rfl, rfl⟩
        case rest =>
        obtain ⟨rfl, rfl⟩ := hcut
        obtain ⟨p0, p1, pz⟩ := id hP4
        obtain ⟨a0, a1, az⟩ := id hA4
        have hes : (s2.extract 0 K).size = K := by simp; omega
        go_upto_region 15 with fail
        have HRP : Hid (rightB pb.size c = true) := by show rightB pb.size c = true; simp [rightB]; omega
        go_cut [16, 17, 18] (fun x y z wd => ∃ (m R : Nat), m ≤ pb.size ∧ x = .pointer (some ⟨R, 0, none⟩) ∧ y = .string (pb.extract 0 m) ∧ z = .int .i64 0 ∧ Below w.heap.size w wd ∧ F2 wd N ∧ Q2 wd N qb c ∧ Q2 wd R (pb.extract m pb.size) c ∧ N < R)
        case first =>
          go_wp2_with fail
          all_goals
            refine (take_yes _ _ _ _ HRP.out (by omega)).mono ?_
            rintro e w5 ⟨rfl, hw5⟩
            generalize hm0 : min (Int.toNat _) pb.size = m
            have hm : m ≤ pb.size := by rw [← hm0]; exact Nat.min_le_right _ _
            clear hm0
            go_wp2_with fail
            go_meet
            have hB5 := hB4.trans (hw5.mono hB4.size)
            have hQ5 := hQ4.below hw5
            have hF5 := hF4.below hQ4.2.2 hw5
            exact ⟨m, _, hm, rfl, rfl, rfl, hB5.alloc hB5.size _, hF5.below hQ5.2.2 ((Below.refl _ _).alloc (Nat.le_refl _) _), hQ5.alloc _, Q2.new _ _ _, hQ5.2.2⟩
        case rest =>
        obtain ⟨m, R, hm, rfl, rfl, rfl, hB6, hF6, hQ6, hR6, hNR⟩ := hcut
        clear hB4 hF4 hQ4 hA4 hP4 p0 p1 pz a0 a1 az
        obtain ⟨q0, q1, qz⟩ := id hQ6
        obtain ⟨r0, r1, rz⟩ := id hR6
        have qf : ∀ o, wc.frozen? ⟨N, o, none⟩ = false := hF6
        have hes2 : (pb.extract 0 m).size = m := by simp; omega
        go_wp2_with fail
        go_roundg (gk - 1)
        case measure => omega
        case rel =>
          have hst : inn ++ s2.extract 0 K = (out ++ pb.extract 0 m) ++ pb.extract m pb.size := by
            rw [HIO.out, ByteArray.append_assoc, ← HPB.out, ByteArray.append_assoc, ByteArray.extract_append_extract]
            rw [show min 0 m = 0 from by omega, show max m pb.size = pb.size from by omega, ByteArray.extract_zero_size]
          obtain ⟨k1, k2, k3⟩ := put_back0 (X := pb.extract m pb.size) (d := c) hNw hB6 hQ6 hF6
          exact ⟨i + 1, _, _, _, rfl, rfl, congrArg (Value.int .i64) (by omega), by omega, by omega, by omega, by rw [ByteArray.size_append, hes]; omega, hst, by simp; omega, k1, k2, k3⟩
      · have h40' : (40 : Int) ≤ i := by omega
        have hcc := HIO.out.symm
        go_wp2_with fail
        refine (right_any _ _ _).mono ?_
        rintro e w9 ⟨rfl, hw9⟩
        rw [HR.out]
        go_wp2_with fail
        go_ret
        exact ⟨rfl, (hBr.alloc hBr.size _).trans (hw9.mono (by have := hBr.size; simp; omega))⟩
    · have hcc := HIO.out.symm
      go_wp2_with fail
      refine (right_any _ _ _).mono ?_
      rintro e w9 ⟨rfl, hw9⟩
      rw [HR.out]
      go_wp2_with fail
      go_ret
      exact ⟨rfl, hBr.trans (hw9.mono hBr.size)⟩

end Go.Proofs.Ytcmbibdpopoaaaa
