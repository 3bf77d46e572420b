/- The walks of what a connection does, and of what goes up and down. -/
import Derived.Test.YtojoidhjlbcijaaDoorRd
import Derived.Test.YtojoidhjlbcijaaDoorMx
namespace Go.Proofs.YtojoidhjlbcijaaDoor
set_option linter.unusedVariables false
set_option linter.unusedSimpArgs false
set_option maxRecDepth 100000
open Go.RowKit Go.Maps

theorem one_is (d : ByteArray) : d ++ (⟨#[61, 34]⟩ : ByteArray) ++ (⟨#[69, 83, 73, 47, 49, 46, 48]⟩ : ByteArray) ++ (⟨#[34]⟩ : ByteArray) = oneS d := by
  apply bytes_ext
  unfold oneS
  simp only [app_list, List.append_assoc]
  rfl

set_option maxHeartbeats 1000000 in
theorem can_any (s d : ByteArray) (w : World) (hs : s.size ≤ 100000) (hd : d.size ≤ 1000) :
    Calls Tryd.prog 28 #[.string s, .string d] w fun e w' => e = .returned (.tuple #[.string (if tokB d then canS s d else ⟨#[]⟩), .int .i64 ((if tokB d then 0 else 11 : Nat) : Int)]) ∧ Below w.heap.size w w' := by
  have HO : Hid (d ++ (⟨#[61, 34]⟩ : ByteArray) ++ (⟨#[69, 83, 73, 47, 49, 46, 48]⟩ : ByteArray) ++ (⟨#[34]⟩ : ByteArray) = oneS d) := one_is d
  have hts := trimS_size s
  have HC : Hid (canS s d = if (trimS s).toList.isEmpty then oneS d else trimS s ++ ⟨#[44, 32]⟩ ++ oneS d) := rfl
  cases ht : tokB d
  · go_enter Tryd.func28, Tryd.ntmps28
    go_wp2_with fail
    refine (token_any d w (by omega)).mono ?_
    rintro e w1 ⟨rfl, hb1⟩
    rw [ht]
    go_wp2_with fail
    go_ret2
    exact ⟨rfl, hb1⟩
  · go_enter Tryd.func28, Tryd.ntmps28
    go_wp2_with fail
    refine (token_any d w (by omega)).mono ?_
    rintro e w1 ⟨rfl, hb1⟩
    rw [ht]
    go_wp2_with fail
    refine (trim_any s w1 (by omega)).mono ?_
    rintro e w2 ⟨rfl, hb2⟩
    have hB2 := hb1.trans (hb2.mono hb1.size)
    generalize trimS s = t at *
    cases he : t.toList.isEmpty
    · rw [he, if_neg (by decide)] at HC
      go_wp2_with fail
      go_ret2
      exact ⟨by rw [HC.out, ← HO.out]; rfl, hB2⟩
    · rw [he, if_pos rfl] at HC
      go_wp2_with fail
      go_ret2
      exact ⟨by rw [HC.out, ← HO.out]; rfl, hB2⟩

/-- A first line as it is handed in. -/
structure St where
  m : ByteArray
  t : ByteArray
  c : Int
  r : ByteArray
  n : Int
def St.v (s : St) : Value := .agg #[.string s.m, .string s.t, .int .i64 s.c, .string s.r, .int .i64 s.n]

theorem has_word (ws : List (List UInt8)) (l : List UInt8) (h : lowL l = l) : decide (lowL l ∈ ws) = decide (l ∈ ws) := by rw [h]
theorem low_words : lowL closeL = closeL ∧ lowL aliveL = aliveL := by decide +kernel

set_option maxHeartbeats 4000000 in
theorem keeps_any (s : St) (L : List Fd) (v : Value) (w : World) (hr : Row w v L) (hl : L.length ≤ 50) (hs : Sm L) :
    Calls Tryd.prog 12 #[s.v, v] w fun e w' => e = .returned (.bool (keepF s.n L)) ∧ Below w.heap.size w w' := by
  have hb0 : Below w.heap.size w (w.alloc (.cells #[.string s.m, .string s.t, .int .i64 s.c, .string s.r, .int .i64 s.n] 23)) := (Below.refl _ _).alloc (Nat.le_refl _) _
  have c4 : (w.alloc (.cells #[.string s.m, .string s.t, .int .i64 s.c, .string s.r, .int .i64 s.n] 23)).cell? ⟨w.heap.size, 4, none⟩ = some (.int .i64 s.n) := by go_simp
  have hz : w.heap.size < (w.alloc (.cells #[.string s.m, .string s.t, .int .i64 s.c, .string s.r, .int .i64 s.n] 23)).heap.size := by simp
  have HW := hide (words_any L v _ (hr.below hb0) hl hs)
  have HK : Hid (keepF s.n L = (!decide (lowL (⟨#[99, 108, 111, 115, 101]⟩ : ByteArray).data.toList ∈ wds L) && (decide (lowL (⟨#[107, 101, 101, 112, 45, 97, 108, 105, 118, 101]⟩ : ByteArray).data.toList ∈ wds L) || decide (s.n = 1)))) := by
    unfold Hid keepF
    rw [show (⟨#[99, 108, 111, 115, 101]⟩ : ByteArray).data.toList = closeL from rfl, show (⟨#[107, 101, 101, 112, 45, 97, 108, 105, 118, 101]⟩ : ByteArray).data.toList = aliveL from rfl, low_words.1, low_words.2]
  generalize keepF s.n L = K at *
  generalize wds L = D at *
  unfold St.v
  clear hr hs
  go_enter Tryd.func12, Tryd.ntmps12
  go_wp2_with fail
  refine HW.out.mono ?_
  rintro e w1 ⟨n, rfl, hn, hm, hb1⟩
  have hB1 := hb0.trans (hb1.mono hb0.size)
  have d4 := ((stays hb1).1 _ _ hz).trans c4
  have hz1 := Nat.lt_of_lt_of_le hz hb1.size
  clear HW hb1 c4
  generalize (w.alloc (.cells #[.string s.m, .string s.t, .int .i64 s.c, .string s.r, .int .i64 s.n] 23)).heap.size = M at *
  go_wp2_with fail
  refine (names_has _ M n D w1 (by decide) hm).mono ?_
  rintro e w2 ⟨rfl, hb2⟩
  have hB2 := hB1.trans (hb2.mono hB1.size)
  have e4 := ((stays hb2).1 _ _ hz1).trans d4
  have hm2 : OwnM w2 M n D := World.ownsMap.kept hm (below_grown hb2 none) (by simp)
  cases hp : decide (lowL (⟨#[99, 108, 111, 115, 101]⟩ : ByteArray).data.toList ∈ D)
  · go_wp2_with fail
    refine (names_has _ M n D w2 (by decide) hm2).mono ?_
    rintro e w3 ⟨rfl, hb3⟩
    have hB3 := hB2.trans (hb3.mono hB2.size)
    have f4 := ((stays hb3).1 _ _ (Nat.lt_of_lt_of_le hz1 hb2.size)).trans e4
    rw [hp] at HK
    cases hq : decide (lowL (⟨#[107, 101, 101, 112, 45, 97, 108, 105, 118, 101]⟩ : ByteArray).data.toList ∈ D)
    · rw [hq] at HK
      go_wp2_with fail
      go_ret
      exact ⟨by rw [HK.out]; simp; rfl, hB3⟩
    · rw [hq] at HK
      go_wp2_with fail
      go_ret
      exact ⟨by rw [HK.out]; simp, hB3⟩
  · rw [hp] at HK
    go_wp2_with fail
    go_ret
    exact ⟨by rw [HK.out]; rfl, hB2⟩

theorem str_sm {L : List Fd} (h : Sm L) : Sm (strF L) := fun f hf => h f (oth_mem hf)
theorem strR_sm {L : List Fd} (h : Sm L) : Sm (strR L) := by
  unfold strR; split
  · exact str_sm h
  · exact fun f hf => absurd hf (by simp)
theorem str_le (L : List Fd) : (strF L).length ≤ L.length := oth_le _ L
theorem upM_sm {L : List Fd} {h : ByteArray} (hs : Sm L) (hh : h.size ≤ 1010) (hz : setE (strF L) (hostS, h) = 0) : Sm (upM L h) ∧ (upM L h).length ≤ 40 := by
  obtain ⟨a1, a2, a3, a4⟩ := set_zero hz
  have e : upM L h = setL (hostS, h) (strF L) := a4
  rw [e]
  refine ⟨fun x hx => ?_, right_le (set_right a1 a2 a3)⟩
  rcases set_mem hx with rfl | hx
  · exact ⟨(by decide : hostS.size ≤ 1010), hh⟩
  · exact str_sm hs x (del_mem hx).1
theorem up_sm {L : List Fd} {h d : ByteArray} (hs : Sm L) (hh : h.size ≤ 1010) (hz : upE L h d = 0) : Sm (upR L h d) ∧ (upR L h d).length ≤ 40 := by
  have hR := (up_facts hz).2.2.1
  obtain ⟨h1, h2, h3, h4, h5, h6, h7, h8, h9⟩ := up_zero hz
  refine ⟨fun x hx => ⟨?_, by have := (right_tok hR hx).2; omega⟩, right_le hR⟩
  rw [h9] at hx
  rcases set_mem hx with rfl | hx
  · exact (by decide : capS.size ≤ 1010)
  · have hx := (del_mem hx).1
    rw [h5] at hx
    rcases set_mem hx with rfl | hx
    · exact (by decide : hostS.size ≤ 1010)
    · exact (str_sm hs x (del_mem hx).1).1

/-- Where it goes on behind the host. -/
theorem up_host {L : List Fd} {h : ByteArray} (d : ByteArray) (hR : rightF L = true) (hz : setE (strF L) (hostS, h) = 0) :
    upE L h d = (if tokB d then setE (upM L h) (capS, canV (upM L h) d) else 11) ∧ upR L h d = (if tokB d then setR (upM L h) (capS, canV (upM L h) d) else []) := by
  unfold upE upR; rw [hR, if_pos rfl, if_pos rfl, if_pos hz, if_pos hz]; exact ⟨rfl, rfl⟩
theorem up_nohost {L : List Fd} {h : ByteArray} (d : ByteArray) (hR : rightF L = true) (hz : setE (strF L) (hostS, h) ≠ 0) :
    upE L h d = setE (strF L) (hostS, h) ∧ upR L h d = [] := by
  unfold upE upR; rw [hR, if_pos rfl, if_pos rfl, if_neg hz, if_neg hz]; exact ⟨rfl, rfl⟩
theorem canV_size {L : List Fd} {d : ByteArray} (hs : Sm L) (hl : L.length ≤ 50) (hd : d.size ≤ 100) : (canV L d).size ≤ 100000 := by
  have h1 := hs.join capS hl
  have h2 := (can_size (joinS (allF capS L)) d).1
  unfold canV; omega

set_option maxHeartbeats 4000000 in
theorem up_any (L : List Fd) (v : Value) (h d : ByteArray) (w : World) (hr : Row w v L) (hl : L.length ≤ 50) (hs : Sm L) (hh : h.size ≤ 1010) (hd : d.size ≤ 100) :
    Calls Tryd.prog 10 #[v, .string h, .string d] w fun e w' => ∃ r, e = .returned (.tuple #[r, .int .i64 (upE L h d : Nat)]) ∧ Own w' w.heap.size r (upR L h d) ∧ Below w.heap.size w w' := by
  have HST := strip_any L v w hr hl hs
  cases hR : rightF L
  · rw [(str_no hR).1, (str_no hR).2] at HST
    rw [(up_no h d hR).1, (up_no h d hR).2]
    go_enter Tryd.func10, Tryd.ntmps10
    go_wp2_with fail
    refine HST.mono ?_
    rintro e w1 ⟨r, rfl, ho, hb1⟩
    go_wp2_with fail
    go_ret2
    exact ⟨_, rfl, Own.nil _ _, hb1⟩
  · rw [(str_yes hR).1, (str_yes hR).2] at HST
    have hle := str_le L
    have hsm := str_sm hs
    by_cases hz : setE (strF L) (hostS, h) = 0
    · have HU := hide (up_host d hR hz)
      obtain ⟨hms, hml⟩ := upM_sm hs hh hz
      have hcs := canV_size (d := d) hms (by omega) hd
      have hjs := hms.join capS (by omega)
      have HSR : Hid (setR (strF L) (hostS, h) = upM L h) := rfl
      have HCV : Hid (canV (upM L h) d = canS (joinS (allF capS (upM L h))) d) := rfl
      have HZ := hide hz
      clear hz hs
      generalize upM L h = M at *
      generalize upE L h d = E at *
      generalize upR L h d = R at *
      go_enter Tryd.func10, Tryd.ntmps10
      go_wp2_with fail
      refine HST.mono ?_
      rintro e w1 ⟨r, rfl, ho, hb1⟩
      clear HST
      go_wp2_with fail
      refine (set_any (strF L) r (hostS, h) w1 ho.row (by omega) hsm.sh (by show hostS.size ≤ 100000; decide) (by show h.size ≤ 100000; omega)).mono ?_
      rintro e w2 ⟨r2, rfl, ho2, hb2⟩
      rw [HZ.out]
      rw [HSR.out] at ho2
      have hB2 := hb1.trans (hb2.mono hb1.size)
      go_wp2_with fail
      refine (joined_any M r2 capS w2 ho2.row (by omega) hms.sh (by decide)).mono ?_
      rintro e w3 ⟨rfl, hb3⟩
      have hB3 := hB2.trans (hb3.mono hB2.size)
      have ho3 := ho2.below hb3
      go_wp2_with fail
      refine (can_any (joinS (allF capS M)) d w3 (by omega) (by omega)).mono ?_
      rintro e w4 ⟨rfl, hb4⟩
      rw [← HCV.out]
      have hB4 := hB3.trans (hb4.mono hB3.size)
      have ho4 := ho3.below hb4
      clear ho ho2 ho3 hb1 hb2 hb3 hb4 hB2 hB3
      generalize canV M d = cv at *
      cases ht : tokB d
      · rw [ht] at HU
        go_wp2_with fail
        go_ret2
        exact ⟨_, by rw [HU.out.1]; rfl, by rw [HU.out.2]; exact Own.nil _ _, hB4⟩
      · rw [ht] at HU
        go_wp2_with fail
        refine (set_any M r2 (capS, cv) w4 ho4.row (by omega) hms.sh (by show capS.size ≤ 100000; decide) hcs).mono ?_
        rintro e w5 ⟨r5, rfl, ho5, hb5⟩
        go_wp2_with fail
        go_ret2
        exact ⟨_, by rw [HU.out.1]; rfl, by rw [HU.out.2]; exact ho5.mono hB4.size, hB4.trans (hb5.mono hB4.size)⟩
    · have HU := hide (up_nohost d hR hz)
      have h14 : setE (strF L) (hostS, h) = 1 ∨ setE (strF L) (hostS, h) = 4 := by
        rcases set_three (strF L) (hostS, h) with g | g | g
        · exact absurd g hz
        · exact Or.inl g.1
        · exact Or.inr g.1
      clear hz hs
      generalize upE L h d = E at *
      generalize upR L h d = R at *
      go_enter Tryd.func10, Tryd.ntmps10
      go_wp2_with fail
      refine HST.mono ?_
      rintro e w1 ⟨r, rfl, ho, hb1⟩
      clear HST
      go_wp2_with fail
      refine (set_any (strF L) r (hostS, h) w1 ho.row (by omega) hsm.sh (by show hostS.size ≤ 100000; decide) (by show h.size ≤ 100000; omega)).mono ?_
      rintro e w2 ⟨r2, rfl, ho2, hb2⟩
      have hB2 := hb1.trans (hb2.mono hb1.size)
      clear ho2
      generalize setE (strF L) (hostS, h) = z at *
      rcases h14 with rfl | rfl
      · go_wp2_with fail
        go_ret2
        exact ⟨_, by rw [HU.out.1]; rfl, by rw [HU.out.2]; exact Own.nil _ _, hB2⟩
      · go_wp2_with fail
        go_ret2
        exact ⟨_, by rw [HU.out.1]; rfl, by rw [HU.out.2]; exact Own.nil _ _, hB2⟩

set_option maxHeartbeats 4000000 in
theorem down_any (L : List Fd) (v : Value) (w : World) (hr : Row w v L) (hl : L.length ≤ 50) (hs : Sm L) :
    Calls Tryd.prog 11 #[v] w fun e w' => ∃ r, e = .returned (.tuple #[r, .int .i64 (strE L : Nat)]) ∧ Own w' w.heap.size r (delF ctrS (strR L)) ∧ Below w.heap.size w w' := by
  have HST := strip_any L v w hr hl hs
  cases hR : rightF L
  · rw [(str_no hR).1, (str_no hR).2] at HST ⊢
    go_enter Tryd.func11, Tryd.ntmps11
    go_wp2_with fail
    refine HST.mono ?_
    rintro e w1 ⟨r, rfl, ho, hb1⟩
    go_wp2_with fail
    go_ret2
    exact ⟨_, rfl, Own.nil _ _, hb1⟩
  · rw [(str_yes hR).1, (str_yes hR).2] at HST ⊢
    have hle := str_le L
    have hsm := str_sm hs
    clear hs
    go_enter Tryd.func11, Tryd.ntmps11
    go_wp2_with fail
    refine HST.mono ?_
    rintro e w1 ⟨r, rfl, ho, hb1⟩
    clear HST
    go_wp2_with fail
    refine (remove_any (strF L) r ctrS w1 ho.row (by omega) hsm.sh (by decide)).mono ?_
    rintro e w2 ⟨r2, rfl, ho2, hb2⟩
    go_wp2_with fail
    go_ret2
    exact ⟨_, rfl, ho2.mono hb1.size, hb1.trans (hb2.mono hb1.size)⟩

end Go.Proofs.YtojoidhjlbcijaaDoor
