/- What is written is read again, as contracts; the walk of StartTold. -/
import Derived.Test.YthpankelfhhjgaaDoorFa
namespace Go.Proofs.YthpankelfhhjgaaDoor
set_option linter.unusedVariables false
set_option linter.unusedSimpArgs false
open Go.RowKit

theorem wr_size {s : St} (h : rtB s = true) : (wrS s).size ≤ 5000 := by
  rw [← size_list, wrS_list]
  have hv := ver_len (rt_minor h)
  by_cases hc : s.c = 0
  · have q := rt_req h hc
    have h1 := q.l
    have h2 := tgt_len q.t
    rw [wr_req hc]
    simp only [List.length_append, List.length_cons, hv, size_list] at h2 ⊢
    omega
  · have q := rt_sta h hc
    have h1 : s.r.data.toList.length ≤ 100 := by
      have := q.r
      unfold rsnL at this
      simp only [Bool.and_eq_true, decide_eq_true_eq] at this
      exact this.1.1
    have h2 := dgs_three (n := s.c.toNat) (by have := q.c0; omega) (by have := q.c1; omega)
    rw [wr_sta hc]
    simp only [List.length_append, List.length_cons, hv, h2] at h1 ⊢
    omega
theorem parse_yes {s : ByteArray} {u : St} (h : rtB u = true) (e : psU s = u) (w : World) (hs : s.size ≤ 5000) :
    Calls Tryd.prog 8 #[.string s] w fun e w' => e = .returned (.tuple #[u.v, .int .i64 0]) ∧ Below w.heap.size w w' := by
  have hP := parse_any s w hs
  rw [e, (gv_yes h).1, (gv_yes h).2] at hP
  exact hP
theorem parse_not {s : ByteArray} (h : rtB (psU s) = false) (w : World) (hs : s.size ≤ 5000) :
    Calls Tryd.prog 8 #[.string s] w fun e w' => e = .returned (.tuple #[St.no.v, .int .i64 30]) ∧ Below w.heap.size w w' := by
  have hP := parse_any s w hs
  rw [(gv_no h).1, (gv_no h).2] at hP
  exact hP
theorem status_yes {s : ByteArray} {u : St} (h : rtB u = true) (e : stU s = u) (w : World) (hs : s.size ≤ 5000) :
    Calls Tryd.prog 10 #[.string s] w fun e w' => e = .returned (.tuple #[u.v, .int .i64 0]) ∧ Below w.heap.size w w' := by
  have hP := status_any s w hs
  rw [e, (gv_yes h).1, (gv_yes h).2] at hP
  exact hP
theorem status_not {s : ByteArray} (h : rtB (stU s) = false) (w : World) (hs : s.size ≤ 5000) :
    Calls Tryd.prog 10 #[.string s] w fun e w' => e = .returned (.tuple #[St.no.v, .int .i64 30]) ∧ Below w.heap.size w w' := by
  have hP := status_any s w hs
  rw [(gv_no h).1, (gv_no h).2] at hP
  exact hP
theorem print_yes {s : St} (h : rtB s = true) (w : World) (hs : Short s) (ht : Tabs w) :
    Calls Tryd.prog 7 #[s.v] w fun e w' => e = .returned (.tuple #[.string (wrS s), .int .i64 0]) ∧ Below w.heap.size w w' := by
  have hP := print_any s w hs ht
  rw [(pr_yes h).1, (pr_yes h).2] at hP
  exact hP

/-- A line is read by one of both alone. -/
theorem one_alone {s : ByteArray} (h : rtB (psU s) = true) : rtB (stU s) = false := by
  have := not_sta h rfl
  rwa [ps_written h] at this

/- What is said of any code may be a reason. -/
theorem say_ok_fin : ((List.range 500).all fun k => rsnL ((lookL saidL ((100 + k : Nat) : Int)).getD unkL)) = true := by decide +kernel
theorem say_ok {c : Int} (h0 : 100 ≤ c) (h1 : c ≤ 599) : rsnL (saidS c).data.toList = true := by
  have := List.all_eq_true.1 say_ok_fin (c.toNat - 100) (by simp; omega)
  have e : ((100 + (c.toNat - 100) : Nat) : Int) = c := by omega
  rw [e] at this
  unfold saidS
  simpa using this
def told (c : Int) : St := ⟨noS, noS, c, saidS c, 1⟩
theorem told_right {c : Int} (h0 : 100 ≤ c) (h1 : c ≤ 599) : rtB (told c) = true := by
  have hs : staB (told c) = true := by
    unfold staB
    show (decide (100 ≤ c) && decide (c ≤ 599) && true && true && rsnL (saidS c).data.toList) = true
    rw [decide_eq_true h0, decide_eq_true h1, say_ok h0 h1]; rfl
  unfold rtB
  rw [hs]
  show (_ && (reqB (told c) || true)) = true
  rw [Bool.or_true]
  rfl
theorem told_short {c : Int} (h0 : 100 ≤ c) (h1 : c ≤ 599) : Short (told c) := by
  have := say_ok h0 h1
  unfold rsnL at this
  simp only [Bool.and_eq_true, decide_eq_true_eq] at this
  have h := this.1.1
  rw [size_list] at h
  exact ⟨by show 0 ≤ 10000; omega, by show 0 ≤ 10000; omega, by show (saidS c).size ≤ 10000; omega⟩

theorem tm (c : Int) : -500 < c.tmod 500 ∧ c.tmod 500 < 500 := by
  constructor
  · have := Int.lt_tmod_of_pos c (b := 500) (by omega); omega
  · exact Int.tmod_lt_of_pos c (by omega)
theorem w64 (x : Int) (h1 : -1000000000000 ≤ x) (h2 : x ≤ 1000000000000) : wrap64 x = x := by
  unfold wrap64; omega
def toldC (c : Int) : Int := wrap64 (100 + (wrap64 (c.tmod 500 + 500)).tmod 500)
theorem toldC_in (c : Int) : 100 ≤ toldC c ∧ toldC c ≤ 599 := by
  have h := tm c
  unfold toldC
  rw [w64 (c.tmod 500 + 500) (by omega) (by omega)]
  have h2 := tm (c.tmod 500 + 500)
  have h3 : 0 ≤ (c.tmod 500 + 500).tmod 500 := Int.tmod_nonneg _ (by omega)
  rw [w64 _ (by omega) (by omega)]
  omega
theorem told_print {c : Int} (h0 : 100 ≤ c) (h1 : c ≤ 599) (w : World) (ht : Tabs w) :
    Calls Tryd.prog 7 #[.agg #[.string ⟨#[]⟩, .string ⟨#[]⟩, .int .i64 c, .string (saidS c), .int .i64 1]] w fun e w' => e = .returned (.tuple #[.string (wrS (told c)), .int .i64 0]) ∧ Below w.heap.size w w' :=
  print_yes (told_right h0 h1) w (told_short h0 h1) ht
theorem told_status {c : Int} (h0 : 100 ≤ c) (h1 : c ≤ 599) (w : World) :
    Calls Tryd.prog 10 #[.string (wrS (told c))] w fun e w' => e = .returned (.tuple #[.agg #[.string ⟨#[]⟩, .string ⟨#[]⟩, .int .i64 c, .string (saidS c), .int .i64 1], .int .i64 0]) ∧ Below w.heap.size w w' :=
  status_yes (told_right h0 h1) (back_sta (told_right h0 h1) (show c ≠ 0 by omega)) w (wr_size (told_right h0 h1))

theorem told_ps (L : ByteArray) : (gvE (psU L) = 0 ∧ gvE (stU L) = 30 ∧ (gvU (psU L)).c = 0 ∧ (gvU (psU L)).m.size + (gvU (psU L)).t.size + 10 = L.size ∧ (gvU (psU L)).m.size ≤ 20 ∧ (gvU (psU L)).t.size ≤ 500) ∨ gvE (psU L) = 30 := by
  cases h : rtB (psU L)
  · exact Or.inr (gv_no h).2
  · have q := rt_req h rfl
    have ht := tgt_len q.t
    rw [size_list] at ht
    refine Or.inl ⟨(gv_yes h).2, (gv_no (one_alone h)).2, ?_⟩
    rw [(gv_yes h).1]
    exact ⟨rfl, ps_len h, q.l, ht⟩
theorem told_st (L : ByteArray) : (gvE (stU L) = 0 ∧ ((L.extract 0 7).toList == [72, 84, 84, 80, 47, 49, 46]) = true ∧ 100 ≤ (gvU (stU L)).c ∧ (gvU (stU L)).c ≤ 599 ∧ (gvU (stU L)).m.data.toList = [] ∧ (gvU (stU L)).t.data.toList = [] ∧ 7 ≤ L.size) ∨ gvE (stU L) = 30 := by
  cases h : rtB (stU L)
  · exact Or.inr (gv_no h).2
  · have q := rt_sta h (st_code h)
    have hb := st_begins h
    refine Or.inl ⟨(gv_yes h).2, beq_of_eq (by rw [ext_take]; exact hb.1), ?_⟩
    rw [(gv_yes h).1]
    exact ⟨q.c0, q.c1, q.m, q.t, hb.2⟩

set_option maxRecDepth 100000 in
set_option maxHeartbeats 4000000 in
theorem told_walk (s : ByteArray) (c : Int) (w : World) (hs : s.size ≤ maxLen) (hc : (Lit.int .i64 c).wf = true) (ht : Tabs w) :
    Calls Tryd.prog 5 #[.string s, .int .i64 c] w fun e w' => e = .returned (.bool true) ∧ Below w.heap.size w w' := by
  have m1 : (0 : Int) ≤ min (s.size : Int) 600 := by omega
  have k1 : min (s.size : Int) 600 ≤ (s.size : Int) := by omega
  have hL := few_cut s 600
  unfold maxLen at hs
  go_enter Tryd.func5, Tryd.ntmps5
  go_wp2_with fail
  generalize s.extract 0 (min (s.size : Int) 600).toNat = L at hL ⊢
  clear m1 k1 hs
  have hP := fun W => parse_any L W (by omega)
  have hS := fun W => status_any L W (by omega)
  have HA := hide (told_ps L)
  have HB := hide (told_st L)
  generalize gvU (psU L) = A at hP HA
  generalize gvE (psU L) = eP at hP HA
  generalize gvU (stU L) = B at hS HB
  generalize gvE (stU L) = eS at hS HA HB
  refine (hP _).mono ?_
  rintro e w1 ⟨rfl, hb1⟩
  have hA1 := Five.new w1 A
  have hB1 : Below w.heap.size w (w1.alloc (.cells A.cs.toArray 23)) := hb1.alloc hb1.size _
  unfold St.v
  unfold St.cs at hA1 hB1
  go_wp2_with fail
  generalize w1.alloc _ = W1 at hA1 hB1 ⊢
  generalize w1.heap.size = NA at hA1 ⊢
  clear hb1
  refine (hS _).mono ?_
  rintro e w2 ⟨rfl, hb2⟩
  have hA2 := (hA1.below hb2).alloc (.cells B.cs.toArray 23)
  have hB2 := hB1.trans (hb2.mono hB1.size)
  have hB3 : Below w.heap.size w (w2.alloc (.cells B.cs.toArray 23)) := hB2.alloc hB2.size _
  have hC3 := Five.new w2 B
  clear hA1 hB1 hb2 hB2
  unfold St.v
  unfold St.cs at hA2 hB3 hC3
  go_upto_region 4 with fail
  generalize w2.alloc _ = W3 at hA2 hB3 hC3 ⊢
  generalize w2.heap.size = NB at hC3 ⊢
  go_cut [52] (fun x wd => x = .bool false ∧ wd = W3)
  case first =>
    rcases HA.out with ⟨h1, h2, h3, h4, h5, h6⟩ | h1
    · have d1 : (eP == 0) = true := by rw [h1]; rfl
      have d2 : (eS == 0) = false := by rw [h2]; rfl
      have d3 : (A.c != 0) = false := by rw [h3]; rfl
      have d4 : ((A.m.size : Int) + A.t.size + 10 != (L.size : Int)) = false := by simp; omega
      have d5 : IntKind.i64.wrap ((A.m.size : Int) + A.t.size) = (A.m.size : Int) + A.t.size := i64_wrap_id _ (by omega) (by omega)
      have d6 : IntKind.i64.wrap ((A.m.size : Int) + A.t.size + 10) = (A.m.size : Int) + A.t.size + 10 := i64_wrap_id _ (by omega) (by omega)
      clear h1 h2 h3 h4
      obtain ⟨a0, a1, a2, a3, a4, -, -⟩ := hA2
      go_wp2_with fail
      go_meet
      exact ⟨rfl, rfl⟩
    · have d1 : (eP == 0) = false := by rw [h1]; rfl
      clear h1
      go_wp2_with fail
      go_meet
      exact ⟨rfl, rfl⟩
  case rest =>
  obtain ⟨rfl, rfl⟩ := hcut
  clear hA2 HA
  go_upto_region 6 with fail
  go_cut [79] (fun x wd => x = .bool false ∧ wd = wc)
  case first =>
    rcases HB.out with ⟨h1, h2, h3, h4, h5, h6, h7⟩ | h1
    · have d1 : (eS == 0) = true := by rw [h1]; rfl
      have d2 : ((L.extract 0 7).toList == [72, 84, 84, 80, 47, 49, 46]) = true := h2
      have d3 : decide (B.c < 100) = false := decide_eq_false (by omega)
      have d4 : decide (599 < B.c) = false := decide_eq_false (by omega)
      have d5 := empty_of h5
      have d6 := empty_of h6
      have d7 : (7 : Int) ≤ (L.size : Int) := by omega
      clear h1 h2 h3 h4 h5 h6 h7
      obtain ⟨a0, a1, a2, a3, a4, -, -⟩ := hC3
      go_wp2_with fail
      go_meet
      exact ⟨rfl, rfl⟩
    · have d1 : (eS == 0) = false := by rw [h1]; rfl
      clear h1
      go_wp2_with fail
      go_meet
      exact ⟨rfl, rfl⟩
  case rest =>
  obtain ⟨rfl, rfl⟩ := hcut
  clear hC3 HB
  have hK := toldC_in c
  have HR := hide (reason_any (toldC c) (wrap64_wf _))
  have HP := hide (told_print hK.1 hK.2)
  have HS := hide (told_status hK.1 hK.2)
  unfold toldC at HR HP HS
  clear hK
  go_wp2_with fail
  generalize wrap64 (100 + (wrap64 (c.tmod 500 + 500)).tmod 500) = K at HR HP HS ⊢
  generalize saidS K = R at HR HP HS
  generalize wrS (told K) = T at HP HS
  refine (HR.out _).mono ?_
  rintro e w4 ⟨rfl, hb4⟩
  have hB4 := hB3.trans (hb4.mono hB3.size)
  have hB5 : Below w.heap.size w (w4.alloc (.cells (St.cs ⟨⟨#[]⟩, ⟨#[]⟩, K, R, 1⟩).toArray 23)) := hB4.alloc hB4.size _
  have hD5 := Five.new w4 ⟨⟨#[]⟩, ⟨#[]⟩, K, R, 1⟩
  unfold St.cs at hB5 hD5
  dsimp only at hB5 hD5
  clear hb4 hB3 hB4
  go_wp2_with fail
  generalize w4.alloc _ = W5 at hB5 hD5 ⊢
  generalize w4.heap.size = ND at hD5 ⊢
  refine (HP.out _ (ht.below hB5)).mono ?_
  rintro e w6 ⟨rfl, hb6⟩
  have hB6 := hB5.trans (hb6.mono hB5.size)
  have hD6 := hD5.below hb6
  clear hb6 hB5 hD5
  go_wp2_with fail
  refine (HS.out _).mono ?_
  rintro e w7 ⟨rfl, hb7⟩
  have hB7 := hB6.trans (hb7.mono hB6.size)
  have hB8 : Below w.heap.size w (w7.alloc (.cells (St.cs ⟨⟨#[]⟩, ⟨#[]⟩, K, R, 1⟩).toArray 23)) := hB7.alloc hB7.size _
  have hE8 := Five.new w7 ⟨⟨#[]⟩, ⟨#[]⟩, K, R, 1⟩
  have hD8 := (hD6.below hb7).alloc (.cells (St.cs ⟨⟨#[]⟩, ⟨#[]⟩, K, R, 1⟩).toArray 23)
  unfold St.cs at hB8 hE8 hD8
  dsimp only at hB8 hE8 hD8
  clear hb7 hB6 hB7 hD6
  go_wp2_with fail
  generalize w7.alloc _ = W8 at hB8 hE8 hD8 ⊢
  generalize w7.heap.size = NE at hE8 ⊢
  refine (alive_any _).mono ?_
  rintro e w9 ⟨rfl, hb9⟩
  have hB9 := hB8.trans (hb9.mono hB8.size)
  obtain ⟨p0, p1, p2, p3, p4, -, -⟩ := hE8.below hb9
  obtain ⟨q0, q1, q2, q3, q4, -, -⟩ := hD8.below hb9
  dsimp only at p0 p1 p2 p3 p4 q0 q1 q2 q3 q4
  go_wp2_with fail
  go_ret
  exact ⟨rfl, hB9⟩

end Go.Proofs.YthpankelfhhjgaaDoor
