/- The walk of PairsBack. -/
import Derived.Test.YtgnpeggffeoenaaDoorLa
namespace Go.Proofs.YtgnpeggffeoenaaDoor
set_option linter.unusedVariables false
set_option linter.unusedSimpArgs false
open Go.RowKit

theorem aln_int (c : UInt8) : alnB c = ((decide ((97 : Int) ≤ c.toNat) && decide ((c.toNat : Int) ≤ 122)) || (decide ((65 : Int) ≤ c.toNat) && decide ((c.toNat : Int) ≤ 90)) || (decide ((48 : Int) ≤ c.toNat) && decide ((c.toNat : Int) ≤ 57))) := by
  have := u8_all (fun c => alnB c == ((decide ((97 : Int) ≤ c.toNat) && decide ((c.toNat : Int) ≤ 122)) || (decide ((65 : Int) ≤ c.toNat) && decide ((c.toNat : Int) ≤ 90)) || (decide ((48 : Int) ≤ c.toNat) && decide ((c.toNat : Int) ≤ 57)))) (by decide +kernel) c
  simpa using this

set_option maxHeartbeats 2000000 in
set_option maxRecDepth 100000 in
theorem clean_any (s : ByteArray) (w : World) (hs : s.size ≤ maxLen) :
    Calls Tryd.prog 22 #[.string s] w fun e w' => e = .returned (.string (bs (clnL s.data.toList))) ∧ w' = w := by
  unfold maxLen at hs
  obtain ⟨m, hm, hm1, hm2⟩ : ∃ m : Nat, min (s.size : Int) 30 = (m : Int) ∧ m ≤ 30 ∧ m ≤ s.size := ⟨(min (s.size : Int) 30).toNat, by omega, by omega, by omega⟩
  have HC : Hid (clnL s.data.toList = (s.data.toList.take m).filter alnB) := by
    unfold Hid clnL
    by_cases h : s.size ≤ 30
    · rw [List.take_of_length_le (by rw [size_list]; omega), List.take_of_length_le (by rw [size_list]; omega)]
    · rw [show m = 30 by omega]
  go_enter Tryd.func22, Tryd.ntmps22
  go_wp2_with fail
  go_loop [3, 4, 5, 9] (fun vo _ _ i => ∃ (k : Nat) (F : List UInt8), k ≤ m ∧ i = .int .i64 k ∧ vo = .string ⟨F.toArray⟩ ∧ F.length ≤ k ∧ Hid ((s.data.toList.take k).filter alnB = F)) (fun _ _ _ i => m - (intOf i).toNat)
  case atStart => exact ⟨0, [], Nat.zero_le _, rfl, rfl, Nat.le_refl _, by simp [Hid]⟩
  case round =>
    obtain ⟨k, F, hk, rfl, rfl, hF, hall⟩ := hrel
    by_cases hlt : k < m
    · have hltz : (k : Int) < m := by omega
      have hks : k < s.size := by omega
      have hksz : (k : Int) < s.size := by omega
      have hk1 : (k : Int) + 1 ≤ s.size := by omega
      have HT : Hid (s.data.toList.take (k + 1) = s.data.toList.take k ++ [s[k]'hks]) := by
        unfold Hid; rw [take_snoc _ k (by rw [size_list]; exact hks), get_at s k hks]
      obtain ⟨x, hx⟩ : ∃ x, s.extract k (k + 1) = x := ⟨_, rfl⟩
      have hxl : x.data.toList = [s[k]'hks] := by rw [← hx]; exact ext_one hks
      have hxs : x.size ≤ 1 := by rw [← hx, ByteArray.size_extract]; omega
      obtain ⟨c, hc⟩ : ∃ c, s[k]'hks = c := ⟨_, rfl⟩
      rw [hc] at HT hxl
      have hcl := c.toNat_lt
      have HB := hide (aln_int c)
      have HS := hide (byte_snoc (F := F) hxl)
      have YES : Hid (alnB c = true → (s.data.toList.take (k + 1)).filter alnB = F ++ [c]) := by
        intro h; rw [HT.out, List.filter_append, hall.out]; simp [h]
      have NO : Hid (alnB c = false → (s.data.toList.take (k + 1)).filter alnB = F) := by
        intro h; rw [HT.out, List.filter_append, hall.out]; simp [h]
      clear HT hall hxl
      go_wp2_with fail
      all_goals first
        | (refine ⟨⟨k + 1, F ++ [c], by omega, by go_num, by rw [HS.out], by simp; omega, YES.out (by rw [HB.out]; simp_all <;> omega)⟩, by simp [intOf]; omega⟩)
        | (refine ⟨⟨k + 1, F, by omega, by go_num, rfl, by omega, NO.out (by rw [HB.out]; simp_all <;> omega)⟩, by simp [intOf]; omega⟩)
    · have hd : decide ((k : Int) < m) = false := decide_eq_false (by omega)
      have hkm : k = m := by omega
      subst hkm
      have HR : Hid (bs (clnL s.data.toList) = ⟨F.toArray⟩) := by unfold Hid; rw [HC.out, hall.out]; rfl
      go_wp2_with fail
      go_ret
      exact ⟨by rw [HR.out]; rfl, rfl⟩

def toP (f : Fd) : PB := (f.1.data.toList, f.2.data.toList)
theorem q_pairs (ps : List PB) : qF (bs (ps.flatMap quP)) = (ps.map wtP).map toF := by unfold qF; rw [bs_list, q_all]
theorem c_pairs (ps : List PB) : cF (bs (ps.flatMap cuP)) = (ps.map wtP).map toF := by unfold cF; rw [bs_list, c_all]
theorem nm_len (p : PB) : (nmP p).length ≤ 31 := by unfold nmP; have := cln_len p.1; simp; omega
theorem vl_len (p : PB) : (vlP p).length ≤ 30 := cln_len p.2
theorem qu_len : ∀ ps : List PB, (ps.flatMap quP).length ≤ 63 * ps.length
  | [] => by simp
  | p :: ps => by
    have h1 := qu_len ps
    have h2 := nm_len p
    have h3 := vl_len p
    rw [List.flatMap_cons, List.length_append]
    simp only [quP, qeP, List.length_cons, List.length_append]
    omega
theorem cu_len : ∀ ps : List PB, (ps.flatMap cuP).length ≤ 66 * ps.length
  | [] => by simp
  | p :: ps => by
    have h1 := cu_len ps
    have h2 := nm_len p
    have h3 := vl_len p
    rw [List.flatMap_cons, List.length_append]
    simp only [cuP, ceP, List.length_cons, List.length_append, List.length_nil]
    omega

set_option maxHeartbeats 4000000 in
set_option maxRecDepth 100000 in
theorem back_walk (L : List Fd) (ad : Option Addr) (cap : Nat) (w : World) (hrow : Row w (.slice ad L.length cap) L) (hcap : cap ≤ maxLen) (hsz : ∀ f ∈ L, f.1.size ≤ maxLen ∧ f.2.size ≤ maxLen) (hT : Tabs w) :
    Calls Tryd.prog 5 #[.slice ad L.length cap] w fun e w' => e = .returned (.bool true) ∧ Below w.heap.size w w' := by
  have HT := hide hT
  have HSZ := hide hsz
  have hmax : maxLen ≤ 9223372036854775807 := by unfold maxLen; omega
  obtain ⟨ad', cap', he, hlc, hR⟩ := hrow
  cases he
  have HR := hide hR
  have hlm : L.length ≤ 9223372036854775807 := by omega
  clear hR hT hsz
  go_enter Tryd.func5, Tryd.ntmps5
  go_wp2_with fail
  go_loopw [3, 4, 5, 6, 7, 8, 9, 12] (fun vv vq vc _ _ _ _ i wr => ∃ (vw : Value) (k : Nat) (PS : List PB), vv = vw ∧ k ≤ L.length ∧ k ≤ 12 ∧ i = .int .i64 k ∧ Hid ((L.take k).map toP = PS) ∧ PS.length = k ∧ Own wr w.heap.size vw ((PS.map wtP).map toF) ∧ vq = .string (bs (PS.flatMap quP)) ∧ vc = .string (bs (PS.flatMap cuP)) ∧ Below w.heap.size w wr) (fun _ _ _ _ _ _ _ i _ => L.length - (intOf i).toNat)
  case atStart => exact ⟨_, 0, [], rfl, Nat.zero_le _, by omega, rfl, by simp [Hid], rfl, World.ownsRow_nil _ _ _ _, rfl, rfl, Below.refl _ _⟩
  case round =>
    obtain ⟨vw, k, PS, rfl, hk, hk12, rfl, hps, hpl, hown, rfl, rfl, hbr⟩ := hrel
    have hql := qu_len PS
    have hcl := cu_len PS
    rw [hpl] at hql hcl
    have hpl1 : PS.length ≤ 12 := by omega
    have HPL := hide hpl
    clear hpl
    have hbsz := hbr.size
    by_cases hlt : k < L.length
    · have hltz : (k : Int) < L.length := by omega
      by_cases h12 : k = 12
      · subst h12
        have h12z : (12 : Int) ≤ ((12 : Nat) : Int) := by omega
        obtain ⟨g, off, rfl, hg, x0, x1⟩ := HR.out 12 hlt
        rw [← (stays hbr).1 _ _ hg] at x0 x1
        have hown := Own.below hown (one_alloc wr #[.string (L[12]'hlt).1, .string (L[12]'hlt).2] 37)
        have hbr := hbr.alloc hbsz (.cells #[.string (L[12]'hlt).1, .string (L[12]'hlt).2] 37)
        generalize L[12]'hlt = x at x0 x1 hown hbr
        clear HR
        go_wp2_with fail
        generalize wr.alloc (.cells #[.string x.1, .string x.2] 37) = wq at *
        have hDl : ((PS.map wtP).map toF).length ≤ 12 := by rw [List.length_map, List.length_map]; exact hpl1
        have hq0 := q_pairs PS
        have hc0 := c_pairs PS
        have hqz := bs_size (PS.flatMap quP)
        have hcz := bs_size (PS.flatMap cuP)
        generalize (PS.map wtP).map toF = D at hown hDl hq0 hc0
        generalize bs (PS.flatMap quP) = Q at *
        generalize bs (PS.flatMap cuP) = CK at *
        have hQz : Q.size ≤ 10000 := by omega
        have hCz : CK.size ≤ 10000 := by omega
        have HQ0 := hide hq0
        have HC0 := hide hc0
        clear hq0 hc0 hqz hcz hql hcl hps HPL
        refine (alive_any _ (HT.out.below hbr)).mono ?_
        rintro e w6 ⟨rfl, hb6⟩
        have C6 := hide (hbr.trans (hb6.mono hbr.size))
        have R1 := hide ((Own.row hown).below hb6)
        clear hb6 hown hbr
        go_wp2_with fail
        refine (query_any Q _ hQz (HT.out.below C6.out)).mono ?_
        rintro e w7 ⟨v7, rfl, ho7, hb7⟩
        rw [HQ0.out] at ho7
        have C7 := hide (C6.out.trans (hb7.mono C6.out.size))
        have R1 := hide (R1.out.below hb7)
        have R7 := hide (Own.row ho7)
        clear hb7 ho7
        go_wp2_with fail
        refine (refsame2_any D v7 _ w7 R7.out R1.out (by omega)).mono ?_
        rintro e w8 ⟨rfl, hb8⟩
        have C8 := hide (C7.out.trans (hb8.mono C7.out.size))
        have R1 := hide (R1.out.below hb8)
        clear hb8 R7
        go_wp2_with fail
        refine (cookies_any CK _ hCz (HT.out.below C8.out)).mono ?_
        rintro e w9 ⟨v9, rfl, ho9, hb9⟩
        rw [HC0.out] at ho9
        have C9 := hide (C8.out.trans (hb9.mono C8.out.size))
        have R1 := hide (R1.out.below hb9)
        have R9 := hide (Own.row ho9)
        clear hb9 ho9
        go_wp2_with fail
        refine (refsame2_any D v9 _ w9 R9.out R1.out (by omega)).mono ?_
        rintro e w10 ⟨rfl, hb10⟩
        have c10 := C9.out.trans (hb10.mono C9.out.size)
        clear hb10 R9 R1
        go_wp2_with fail
        go_ret
        exact ⟨rfl, c10⟩
      · have h12z : ¬ (12 : Int) ≤ (k : Int) := by omega
        have hk11 : k + 1 ≤ 12 := by omega
        obtain ⟨g, off, rfl, hg, x0, x1⟩ := HR.out k hlt
        have hxs := HSZ.out _ (List.getElem_mem hlt)
        have HPS : Hid ((L.take (k + 1)).map toP = PS ++ [toP (L[k]'hlt)]) := by
          unfold Hid; rw [List.take_succ_eq_append_getElem hlt, List.map_append, hps.out]; rfl
        rw [← (stays hbr).1 _ _ hg] at x0 x1
        generalize L[k]'hlt = x at x0 x1 hxs HPS
        have hown := Own.below hown (one_alloc wr #[.string x.1, .string x.2] 37)
        have hbr := hbr.alloc hbsz (.cells #[.string x.1, .string x.2] 37)
        have y0 : (wr.alloc (.cells #[.string x.1, .string x.2] 37)).cell? ⟨wr.heap.size, 0, none⟩ = some (.string x.1) := by go_simp
        have y1 : (wr.alloc (.cells #[.string x.1, .string x.2] 37)).cell? ⟨wr.heap.size, 1, none⟩ = some (.string x.2) := by go_simp
        have hN : bs (clnL x.1.data.toList) ++ ⟨#[110]⟩ = bs (nmP (toP x)) := byte_snoc (F := clnL x.1.data.toList) (x := ⟨#[110]⟩) rfl
        have hls := bs_size (clnL x.1.data.toList)
        have hl1 := cln_len x.1.data.toList
        have hvs := bs_size (vlP (toP x))
        have hv1 := vl_len (toP x)
        have hns := bs_size (nmP (toP x))
        have hn1 := nm_len (toP x)
        have HW : Hid ((((PS ++ [toP x]).map wtP).map toF) = (PS.map wtP).map toF ++ [(bs (nmP (toP x)), bs (vlP (toP x)))]) := by unfold Hid; simp; rfl
        have HQ : Hid (bs (PS.flatMap quP) ++ (⟨#[38]⟩ ++ bs (nmP (toP x)) ++ ⟨#[61]⟩ ++ bs (vlP (toP x))) = bs ((PS ++ [toP x]).flatMap quP)) := by
          apply bytes_ext
          simp only [app_list, bs_list, List.flatMap_append, List.flatMap_cons, List.flatMap_nil, List.append_nil, quP, qeP]
          simp
        have HK : Hid (bs (PS.flatMap cuP) ++ (bs (nmP (toP x)) ++ ⟨#[32, 61, 32]⟩ ++ bs (vlP (toP x)) ++ ⟨#[59, 32]⟩) = bs ((PS ++ [toP x]).flatMap cuP)) := by
          apply bytes_ext
          simp only [app_list, bs_list, List.flatMap_append, List.flatMap_cons, List.flatMap_nil, List.append_nil, cuP, ceP]
          simp
        have hqz := bs_size (PS.flatMap quP)
        have hcz := bs_size (PS.flatMap cuP)
        have hDl : ((PS.map wtP).map toF).length ≤ 12 := by rw [List.length_map, List.length_map]; exact hpl1
        have hvz : bs (clnL x.2.data.toList) = bs (vlP (toP x)) := rfl
        have HVZ := hide hvz
        generalize bs (nmP (toP x)) = NN at *
        generalize bs (vlP (toP x)) = VV at *
        generalize bs (PS.flatMap quP) = Q at *
        generalize bs (PS.flatMap cuP) = CK at *
        generalize (PS.map wtP).map toF = D at *
        have hC1 : (bs (clnL x.1.data.toList)).size ≤ 30 := by omega
        have hVV : VV.size ≤ 30 := by omega
        have hNN : NN.size ≤ 31 := by omega
        have hQz : Q.size ≤ 1000 := by omega
        have hCz : CK.size ≤ 1000 := by omega
        have HN := hide hN
        clear HR hls hl1 hvs hv1 hns hn1 hqz hcz hvz hN hql hcl hps
        go_wp2_with fail
        generalize wr.alloc (.cells #[.string x.1, .string x.2] 37) = wq at *
        go_quiet (first | (go_at_call 22; refine Calls.quiet_of_same (clean_any _ _ (by first | exact hxs.1 | exact hxs.2))))
        have hbq := below_drewN hbr nq
        have hoq : Own (wq.drewN nq) w.heap.size _ D := hown
        rw [HN.out, HVZ.out]
        generalize wq.drewN nq = wz at hbq hoq ⊢
        have HX := hide (And.intro (Own.below hoq (one_alloc wz #[.string NN, .string VV] 37)) (And.intro (row_new (w := wz) (NN, VV)) (hbq.alloc hbq.size (.cells #[.string NN, .string VV] 37))))
        clear hown hbr hoq hbq y0 y1
        go_wp2_with (at_builtin; refine wpList_append_Row rfl (.tmp 26) (.tmp 30) rfl w.heap.size _ (.slice (some ⟨wz.heap.size, 0, none⟩) 1 1) D [(NN, VV)] rfl rfl HX.out.1 HX.out.2.1 (by simp; omega) HX.out.2.2.size ?_; intro v' w5 ho5 hg5)
        have hl5 := HX.out.2.2.grown hg5 HX.out.2.2.size (fun j hj => own_block HX.out.1 j hj)
        refine ⟨⟨_, k + 1, PS ++ [toP x], rfl, by omega, by omega, by go_num, HPS.out, by rw [List.length_append, HPL.out]; rfl, by rw [HW.out]; exact ho5, by rw [HQ.out], by rw [HK.out], hl5⟩, by simp [intOf]; omega⟩
    · have hd : decide ((k : Int) < L.length) = false := decide_eq_false (by omega)
      go_wp2_with fail
      have hDl : ((PS.map wtP).map toF).length ≤ 12 := by rw [List.length_map, List.length_map]; exact hpl1
      have hq0 := q_pairs PS
      have hc0 := c_pairs PS
      have hqz := bs_size (PS.flatMap quP)
      have hcz := bs_size (PS.flatMap cuP)
      generalize (PS.map wtP).map toF = D at hown hDl hq0 hc0
      generalize bs (PS.flatMap quP) = Q at *
      generalize bs (PS.flatMap cuP) = CK at *
      have hQz : Q.size ≤ 10000 := by omega
      have hCz : CK.size ≤ 10000 := by omega
      have HQ0 := hide hq0
      have HC0 := hide hc0
      clear hq0 hc0 hqz hcz hql hcl hps HPL
      refine (alive_any _ (HT.out.below hbr)).mono ?_
      rintro e w6 ⟨rfl, hb6⟩
      have C6 := hide (hbr.trans (hb6.mono hbr.size))
      have R1 := hide ((Own.row hown).below hb6)
      clear hb6 hown hbr
      go_wp2_with fail
      refine (query_any Q _ hQz (HT.out.below C6.out)).mono ?_
      rintro e w7 ⟨v7, rfl, ho7, hb7⟩
      rw [HQ0.out] at ho7
      have C7 := hide (C6.out.trans (hb7.mono C6.out.size))
      have R1 := hide (R1.out.below hb7)
      have R7 := hide (Own.row ho7)
      clear hb7 ho7
      go_wp2_with fail
      refine (refsame2_any D v7 _ w7 R7.out R1.out (by omega)).mono ?_
      rintro e w8 ⟨rfl, hb8⟩
      have C8 := hide (C7.out.trans (hb8.mono C7.out.size))
      have R1 := hide (R1.out.below hb8)
      clear hb8 R7
      go_wp2_with fail
      refine (cookies_any CK _ hCz (HT.out.below C8.out)).mono ?_
      rintro e w9 ⟨v9, rfl, ho9, hb9⟩
      rw [HC0.out] at ho9
      have C9 := hide (C8.out.trans (hb9.mono C8.out.size))
      have R1 := hide (R1.out.below hb9)
      have R9 := hide (Own.row ho9)
      clear hb9 ho9
      go_wp2_with fail
      refine (refsame2_any D v9 _ w9 R9.out R1.out (by omega)).mono ?_
      rintro e w10 ⟨rfl, hb10⟩
      have c10 := C9.out.trans (hb10.mono C9.out.size)
      clear hb10 R9 R1
      go_wp2_with fail
      go_ret
      exact ⟨rfl, c10⟩

end Go.Proofs.YtgnpeggffeoenaaDoor
