/- The walk of QueueCalls. -/
import Derived.Test.YtcmbibdpopoaaaaWe
import Derived.Test.YtcmbibdpopoaaaaWh
namespace Go.Proofs.Ytcmbibdpopoaaaa
set_option linter.unusedVariables false
set_option linter.unusedSimpArgs false
open Go.RowKit

/-- What Take answers of a queue that may be. -/
structure TakeOut (b : ByteArray) (c n : Int) (tb : ByteArray) (tc : Int) (tt : ByteArray) (tf : Int) : Prop where
  call : ∀ w, Calls Try.prog 15 #[.agg #[.string b, .int .i64 c], .int .i64 n] w fun e w' => e = .returned (.tuple #[.agg #[.string tb, .int .i64 tc], .string tt, .int .i64 tf]) ∧ Below w.heap.size w w'
  neg : n < 0 → tb = ⟨#[]⟩ ∧ tc = 0 ∧ tt = ⟨#[]⟩ ∧ tf = 1
  pos : 0 ≤ n → tf = 0 ∧ ∀ w, Calls Try.prog 19 #[.agg #[.string b, .int .i64 c], .int .i64 n] w fun e w' => e = .returned (.tuple #[.agg #[.string tb, .int .i64 tc], .string tt]) ∧ Below w.heap.size w w'

theorem takeOut (b : ByteArray) (c n : Int) (h : rightB b.size c = true) : ∃ tb tc tt tf, TakeOut b c n tb tc tt tf := by
  obtain ⟨r1, r2, r3⟩ := rightB_true h
  by_cases hn : n < 0
  · exact ⟨_, _, _, _, ⟨fun w => take_neg b c n w h hn, fun _ => ⟨rfl, rfl, rfl, rfl⟩, fun h0 => absurd h0 (by omega)⟩⟩
  · exact ⟨_, _, _, _, ⟨fun w => take_yes b c n w h (by omega), fun h0 => absurd h0 hn, fun _ => ⟨rfl, fun w => reftake b c n w (by omega) (by omega)⟩⟩⟩

/-- What Line answers of a queue that may be. -/
structure LineOut (b : ByteArray) (c : Int) (lb ll : ByteArray) (lg : Int) (is : Bool) : Prop where
  call : ∀ w, Calls Try.prog 16 #[.agg #[.string b, .int .i64 c]] w fun e w' => e = .returned (.tuple #[.agg #[.string lb, .int .i64 c], .string ll, .int .i64 lg]) ∧ Below w.heap.size w w'
  ref : ∀ w, Calls Try.prog 18 #[.agg #[.string b, .int .i64 c]] w fun e w' => e = .returned (.tuple #[.agg #[.string lb, .int .i64 c], .string ll, .bool is]) ∧ Below w.heap.size w w'
  why : lg = if is then 0 else 3

theorem lineOut (b : ByteArray) (c : Int) (h : rightB b.size c = true) : ∃ lb ll lg is, LineOut b c lb ll lg is := by
  obtain ⟨r1, r2, r3⟩ := rightB_true h
  by_cases hn : nl b < 0
  · exact ⟨_, _, _, _, ⟨fun w => line_short b c w h hn, fun w => refline_short b c w (by omega) hn, rfl⟩⟩
  · obtain ⟨i, hi⟩ : ∃ i : Nat, nl b = i := ⟨(nl b).toNat, by omega⟩
    exact ⟨_, _, _, _, ⟨fun w => line_yes b c i w h hi, fun w => refline_yes b c i w (by omega) hi, rfl⟩⟩

set_option maxRecDepth 100000 in
set_option maxHeartbeats 1000000 in
theorem queueCalls_walk (b s : ByteArray) (c n : Int) (w : World) (hb : b.size ≤ maxLen) (hs : s.size ≤ maxLen) :
    Calls Try.prog 4 #[.agg #[.string b, .int .i64 c], .string s, .int .i64 n] w fun e w' => e = .returned (.bool true) ∧ Below w.heap.size w w' := by
  go_enter Try.func4, Try.ntmps4
  go_wp2_with fail
  go_cut [1] (fun s1 wc => ∃ s' b' : ByteArray, s1 = .string s' ∧ s'.size ≤ 1000 ∧ Below w.heap.size w wc ∧ Q2 wc w.heap.size b' c)
  case first =>
    unfold maxLen at hs
    obtain ⟨k, hk⟩ : ∃ k : Nat, k = min s.size 1000 := ⟨_, rfl⟩
    have hk1 : (k : Int) ≤ (s.size : Int) := by omega
    have hk2 : k ≤ 1000 := by omega
    have HK : Hid (k = min s.size 1000) := hk
    clear hk
    refine wp_region_held_drew (S := (fun _ => True)) (by kernel_rfl) (trivial) (fun hHeld => ?_)
    refine wpAnyH_take (i := 2) (oi := _) (v := .string s) rfl (by kernel_rfl) (by kernel_rfl) (by kernel_rfl) (fun _ _ _ h => h) (Or.inl ⟨by rfl, fun wS hSw => by go_simp⟩) (by first | trivial | assumption) ?_
    simp only [Act.put, List.setIfInBounds_toArray, List.set_cons_zero, List.set_cons_succ]
    refine wpAnyH_take (i := 3) (oi := _) (v := .string s) rfl (by kernel_rfl) (by kernel_rfl) (by kernel_rfl) (fun _ _ _ h => h) (Or.inl ⟨by rfl, fun wS hSw => by go_simp⟩) (by first | trivial | assumption) ?_
    simp only [Act.put, List.setIfInBounds_toArray, List.set_cons_zero, List.set_cons_succ]
    refine wpAnyH_take (i := 4) (oi := _) (v := .int .i64 s.size) rfl (by kernel_rfl) (by kernel_rfl) (by kernel_rfl) (fun _ _ _ h => h) (Or.inl ⟨by rfl, fun wS hSw => by go_simp⟩) (by first | trivial | assumption) ?_
    simp only [Act.put, List.setIfInBounds_toArray, List.set_cons_zero, List.set_cons_succ]
    refine wpAnyH_take (i := 5) (oi := _) (v := .int .i64 k) rfl (by kernel_rfl) (by kernel_rfl) (by kernel_rfl) (fun _ _ _ h => h) (Or.inl ⟨by rfl, fun wS hSw => by go_simp; have := HK.out; split <;> omega⟩) (by first | trivial | assumption) ?_
    simp only [Act.put, List.setIfInBounds_toArray, List.set_cons_zero, List.set_cons_succ]
    refine wpAnyH_take (i := 6) (oi := _) (v := .string (s.extract 0 k)) rfl (by kernel_rfl) (by kernel_rfl) (by kernel_rfl) (fun _ _ _ h => h) (Or.inl ⟨by rfl, fun wS hSw => by go_simp⟩) (by first | trivial | assumption) ?_
    simp only [Act.put, List.setIfInBounds_toArray, List.set_cons_zero, List.set_cons_succ]
    refine wpAnyH_ready (rs := [0]) (by kernel_rfl) (by simp) ?_
    refine AllReadyH.cons (o := _) rfl (fun K hK => ?_) AllReadyH.nil
    go_simp
    refine hK.out _ _ (trivial) (fun hHeld => ?_)
    clear hK K
    refine wpAnyH_ready (rs := [1]) (by kernel_rfl) (by simp) ?_
    refine AllReadyH.cons (o := _) rfl (fun K hK => ?_) AllReadyH.nil
    go_simp
    refine (few_any _ _ _ hb).mono ?_
    rintro e w1 ⟨b', hb', rfl, hw1⟩
    refine hK.out _ _ (trivial) (fun hHeld => ?_)
    clear hK K
    have c0 : w1.cell? ⟨w.heap.size, 0, none⟩ = some (.string b) := (hw1.cell (p := ⟨w.heap.size, 0, none⟩) (by simp)).trans (by go_simp)
    have c1 : w1.cell? ⟨w.heap.size, 1, none⟩ = some (.int .i64 c) := (hw1.cell (p := ⟨w.heap.size, 1, none⟩) (by simp)).trans (by go_simp)
    have f0 : ∀ o, w1.frozen? ⟨w.heap.size, o, none⟩ = false := fun o => (hw1.frozen (p := ⟨w.heap.size, o, none⟩) (by simp)).trans (by go_simp)
    refine wpAnyH_ready (rs := [7]) (by kernel_rfl) (by simp) ?_
    refine AllReadyH.cons (o := _) rfl (fun K hK => ?_) AllReadyH.nil
    go_simp
    refine hK.out _ _ (trivial) (fun hHeld => ?_)
    clear hK K
    refine wpAnyH_ready (rs := [8]) (by kernel_rfl) (by simp) ?_
    refine AllReadyH.cons (o := _) rfl (fun K hK => ?_) AllReadyH.nil
    go_simp
    refine hK.out _ _ (trivial) (fun hHeld => ?_)
    clear hK K
    refine wpAnyH_done (by kernel_rfl) ?_ _
    go_wp2_with fail
    go_meet
    have hz1 : w.heap.size < w1.heap.size := by have := hw1.size; simp at this; omega
    have hB1 : Below w.heap.size w w1 := ((Below.refl _ _).alloc (Nat.le_refl _) _).drew.trans (hw1.mono (by simp))
    exact ⟨_, b', rfl, by simp; omega, (hB1.setCell (Nat.le_refl _) _).setCell (Nat.le_refl _) _, (setq c0 c1).1, (setq c0 c1).2, by simpa using hz1⟩
  case rest =>
  obtain ⟨s', b', rfl, hs', hBw, hQ⟩ := hcut
  clear hs hb
  obtain ⟨c0, c1, cz⟩ := id hQ
  cases hr : rightB b'.size c
  · have HR : Hid (rightB b'.size c = false) := hr
    clear hr
    go_wp2_with fail
    refine (put_no _ _ _ _ HR.out).mono ?_
    rintro e w4 ⟨rfl, hw4⟩
    have hB4 : Below w.heap.size w w4 := hBw.trans (hw4.mono hBw.size)
    have hQ4 := hQ.below hw4
    clear hw4 hQ hBw c0 c1 cz
    obtain ⟨c0, c1, cz⟩ := id hQ4
    go_wp2_with fail
    refine (take_no _ _ _ _ HR.out).mono ?_
    rintro e w5 ⟨rfl, hw5⟩
    have hB5 : Below w.heap.size w w5 := (hB4.alloc hB4.size _).trans (hw5.mono (by have := hB4.size; simp; omega))
    have hQ5 := (hQ4.alloc _).below hw5
    have hX5 := (Q2.new w4 ⟨#[]⟩ 0).below hw5
    clear hw5 hB4 hQ4 c0 c1 cz
    obtain ⟨c0, c1, cz⟩ := id hQ5
    go_wp2_with fail
    refine (line_no _ _ _ HR.out).mono ?_
    rintro e w6 ⟨rfl, hw6⟩
    have hB6 : Below w.heap.size w w6 := (hB5.alloc hB5.size _).trans (hw6.mono (by have := hB5.size; simp; omega))
    have hQ6 := (hQ5.alloc _).below hw6
    have hX6 := (hX5.alloc _).below hw6
    have hY6 := (Q2.new w5 ⟨#[]⟩ 0).below hw6
    clear hw6 hB5 hQ5 hX5 c0 c1 cz
    obtain ⟨c0, c1, cz⟩ := id hQ6
    go_wp2_with fail
    refine (refright_any _ _ _).mono ?_
    rintro e w7 ⟨rfl, hw7⟩
    rw [HR.out]
    have hB7 : Below w.heap.size w w7 := (hB6.alloc hB6.size _).trans (hw7.mono (by have := hB6.size; simp; omega))
    have hX7 := (hX6.alloc _).below hw7
    have hY7 := (hY6.alloc _).below hw7
    have hZ7 := (Q2.new w6 ⟨#[]⟩ 0).below hw7
    clear hw7 hB6 hQ6 hX6 hY6 c0 c1 cz
    go_wp2_with fail
    refine (alive_any _).mono ?_
    rintro e w8 ⟨rfl, hw8⟩
    have hB8 : Below w.heap.size w w8 := hB7.trans (hw8.mono hB7.size)
    obtain ⟨x0, x1, xz⟩ := hX7.below hw8
    obtain ⟨y0, y1, yz⟩ := hY7.below hw8
    obtain ⟨z0, z1, zz⟩ := hZ7.below hw8
    go_wp2_with fail
    go_ret
    exact ⟨rfl, hB8⟩
  · obtain ⟨r1, r2, r3⟩ := rightB_true hr
    obtain ⟨tb, tc, tt, tf, HTk0⟩ := takeOut b' c n hr
    obtain ⟨lb, ll, lg, is, HLn0⟩ := lineOut b' c hr
    have HTk : Hid (TakeOut b' c n tb tc tt tf) := HTk0
    have HLn : Hid (LineOut b' c lb ll lg is) := HLn0
    clear HTk0 HLn0
    have HR : Hid (rightB b'.size c = true) := hr
    clear hr
    obtain ⟨K, hK0⟩ : ∃ K : Nat, (K : Int) = min (s'.size : Int) (c - b'.size) := ⟨(min (s'.size : Int) (c - b'.size)).toNat, by omega⟩
    have HK : Hid ((K : Int) = min (s'.size : Int) (c - b'.size)) := hK0
    clear hK0
    obtain ⟨A, hA0⟩ : ∃ A, A = b' ++ s'.extract 0 K := ⟨_, rfl⟩
    have HA : Hid (A = b' ++ s'.extract 0 K) := hA0
    clear hA0
    go_wp2_with fail
    refine (put_yes' _ _ _ K _ HR.out (maxLen_of (by omega)) HK.out).mono ?_
    rintro e w4 ⟨rfl, hw4⟩
    rw [← HA.out]
    have hB4 : Below w.heap.size w w4 := hBw.trans (hw4.mono hBw.size)
    have hQ4 := hQ.below hw4
    clear hw4 hQ hBw c0 c1 cz
    obtain ⟨c0, c1, cz⟩ := id hQ4
    go_wp2_with fail
    refine (HTk.out.call _).mono ?_
    rintro e w5 ⟨rfl, hw5⟩
    have hB5 : Below w.heap.size w w5 := (hB4.alloc hB4.size _).trans (hw5.mono (by have := hB4.size; simp; omega))
    have hQ5 := (hQ4.alloc _).below hw5
    have hX5 := (Q2.new w4 A c).below hw5
    clear hw5 hB4 hQ4 c0 c1 cz
    obtain ⟨c0, c1, cz⟩ := id hQ5
    go_wp2_with fail
    refine (HLn.out.call _).mono ?_
    rintro e w6 ⟨rfl, hw6⟩
    have hB6 : Below w.heap.size w w6 := (hB5.alloc hB5.size _).trans (hw6.mono (by have := hB5.size; simp; omega))
    have hQ6 := (hQ5.alloc _).below hw6
    have hX6 := (hX5.alloc _).below hw6
    have hY6 := (Q2.new w5 tb tc).below hw6
    clear hw6 hB5 hQ5 hX5 c0 c1 cz
    obtain ⟨c0, c1, cz⟩ := id hQ6
    go_wp2_with fail
    refine (refright_any _ _ _).mono ?_
    rintro e w7 ⟨rfl, hw7⟩
    rw [HR.out]
    have hB7 : Below w.heap.size w w7 := (hB6.alloc hB6.size _).trans (hw7.mono (by have := hB6.size; simp; omega))
    have hQ7 := (hQ6.alloc _).below hw7
    have hX7 := (hX6.alloc _).below hw7
    have hY7 := (hY6.alloc _).below hw7
    have hZ7 := (Q2.new w6 lb c).below hw7
    clear hw7 hB6 hQ6 hX6 hY6 c0 c1 cz
    obtain ⟨c0, c1, cz⟩ := id hQ7
    go_wp2_with fail
    refine (refput _ _ _ K _ (by omega) (by omega) (by omega) (by omega) HK.out).mono ?_
    rintro e w8 ⟨rfl, hw8⟩
    rw [← HA.out]
    have hB8 : Below w.heap.size w w8 := hB7.trans (hw8.mono hB7.size)
    have hQ8 := hQ7.below hw8
    have hX8 := hX7.below hw8
    have hY8 := hY7.below hw8
    have hZ8 := hZ7.below hw8
    clear hw8 hB7 hQ7 hX7 hY7 hZ7 c0 c1 cz
    obtain ⟨c0, c1, cz⟩ := id hQ8
    go_wp2_with fail
    refine (HLn.out.ref _).mono ?_
    rintro e w9 ⟨rfl, hw9⟩
    have hB9 : Below w.heap.size w w9 := (hB8.alloc hB8.size _).trans (hw9.mono (by have := hB8.size; simp; omega))
    have hQ9 := (hQ8.alloc _).below hw9
    have hX9 := (hX8.alloc _).below hw9
    have hY9 := (hY8.alloc _).below hw9
    have hZ9 := (hZ8.alloc _).below hw9
    have hU9 := (Q2.new w8 A c).below hw9
    clear hw9 hB8 hQ8 hX8 hY8 hZ8 c0 c1 cz
    go_upto_region 9 with fail
    have hB10 : Below w.heap.size w (w9.alloc (Obj.cells #[Value.string lb, Value.int IntKind.i64 c] 23)) := hB9.alloc hB9.size _
    have hQ10 := hQ9.alloc (Obj.cells #[Value.string lb, Value.int IntKind.i64 c] 23)
    have hX10 := hX9.alloc (Obj.cells #[Value.string lb, Value.int IntKind.i64 c] 23)
    have hY10 := hY9.alloc (Obj.cells #[Value.string lb, Value.int IntKind.i64 c] 23)
    have hZ10 := hZ9.alloc (Obj.cells #[Value.string lb, Value.int IntKind.i64 c] 23)
    have hU10 := hU9.alloc (Obj.cells #[Value.string lb, Value.int IntKind.i64 c] 23)
    have hV10 := Q2.new w9 lb c
    clear hB9 hQ9 hX9 hY9 hZ9 hU9
    generalize w9.alloc (Obj.cells #[Value.string lb, Value.int IntKind.i64 c] 23) = W at *
    generalize w9.heap.size = nv at *
    generalize w8.heap.size = nu at *
    generalize w6.heap.size = nz at *
    generalize w5.heap.size = ny at *
    generalize w4.heap.size = nx at *
    clear w9 w8 w6 w5 w4
    obtain ⟨x0, x1, xz⟩ := id hX10
    obtain ⟨y0, y1, yz⟩ := id hY10
    obtain ⟨z0, z1, zz⟩ := id hZ10
    obtain ⟨u0, u1, uz⟩ := id hU10
    obtain ⟨v0, v1, vz⟩ := id hV10
    have hwhy := HLn.out.why
    cases is
    all_goals
      simp at hwhy
      subst hwhy
      go_wp2_with fail
      refine (alive_any _).mono ?_
      rintro e w11 ⟨rfl, hw11⟩
      have hB11 : Below w.heap.size w w11 := hB10.trans (hw11.mono hB10.size)
      have hQ11 := hQ10.below hw11
      have hY11 := hY10.below hw11
      clear hw11 hB10 hQ10 hX10 hY10 hZ10 hU10 hV10 x0 x1 xz y0 y1 yz z0 z1 zz u0 u1 uz v0 v1 vz
      obtain ⟨c0, c1, cz⟩ := id hQ11
      obtain ⟨y0, y1, yz⟩ := id hY11
      by_cases hn : n < 0
      · obtain ⟨rfl, rfl, rfl, rfl⟩ := HTk.out.neg hn
        go_wp2_with fail
        go_ret
        exact ⟨rfl, hB11⟩
      · obtain ⟨rfl, hrt⟩ := HTk.out.pos (by omega)
        have HRT : Hid (∀ w, Calls Try.prog 19 #[.agg #[.string b', .int .i64 c], .int .i64 n] w fun e w' => e = .returned (.tuple #[.agg #[.string tb, .int .i64 tc], .string tt]) ∧ Below w.heap.size w w') := hrt
        clear hrt
        go_wp2_with fail
        refine (HRT.out _).mono ?_
        rintro e w12 ⟨rfl, hw12⟩
        have hB12 : Below w.heap.size w w12 := hB11.trans (hw12.mono hB11.size)
        obtain ⟨y0, y1, yz⟩ := id (hY11.below hw12)
        clear hw12
        go_wp2_with fail
        go_ret
        exact ⟨rfl, hB12.alloc hB12.size _⟩

end Go.Proofs.Ytcmbibdpopoaaaa
