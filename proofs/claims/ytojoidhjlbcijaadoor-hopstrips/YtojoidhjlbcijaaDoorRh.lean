/- The walks of the document's own Strip, Keeps and Up, and of the known row. -/
import Derived.Test.YtojoidhjlbcijaaDoorRf
import Derived.Test.YtojoidhjlbcijaaDoorRg
namespace Go.Proofs.YtojoidhjlbcijaaDoor
set_option linter.unusedVariables false
set_option linter.unusedSimpArgs false
set_option maxRecDepth 100000
open Go.RowKit Go.Maps

theorem wds_len {L : List Fd} (hs : Sm L) (hl : L.length ≤ 50) : (wds L).length ≤ 60000 := by
  have h1 := hs.join connS hl
  unfold wds wsV
  rw [List.length_map]
  have h2 := splB_len 44 (joinS (allF connS L)).data.toList
  rw [size_list] at h2
  omega

set_option maxHeartbeats 4000000 in
theorem refstrip_any (L : List Fd) (v : Value) (w : World) (hr : Row w v L) (hl : L.length ≤ 50) (hs : Sm L) :
    Calls Tryd.prog 18 #[v] w fun e w' => ∃ r, e = .returned r ∧ Own w' w.heap.size r (strF L) ∧ Below w.heap.size w w' := by
  have HO : Hid (strF L = othF (wds L) L) := rfl
  have hj := hs.join connS hl
  have hwl := wds_len hs hl
  have hb0 : Below w.heap.size w (w.alloc (.cells #[] 39)) := one_alloc w #[] 39
  have ho0 : Own (w.alloc (.cells #[] 39)) w.heap.size (.slice (some ⟨w.heap.size, 0, none⟩) 0 0) [] := World.ownsRow_lit w #[] 0 (Nat.le_refl _) (by decide) rfl
  have HRW : Hid (Row w v L) := hr
  have HS := hide hs
  obtain ⟨a, cap, rfl, hcap, hRc⟩ := hr
  have HRC := hide hRc
  clear hRc hs
  obtain ⟨ws, hws⟩ : ∃ ws, wds L = ws := ⟨_, rfl⟩
  have HWS := hide hws
  rw [hws] at HO hwl
  clear hws
  obtain ⟨i0, hi0, hz0, hz1, hz2⟩ := info_parts Tryd.info25
  go_enter Tryd.func18, Tryd.ntmps18
  go_wp2_with fail
  generalize (w.alloc (.cells #[] 39)) = w0 at hb0 ho0 ⊢
  go_loopw [3, 5, 9] (fun v _ i wr => ∃ k : Nat, k ≤ L.length ∧ i = .int .i64 k ∧ Below w.heap.size w wr ∧ Own wr w.heap.size v (othF ws (L.take k))) (fun _ _ i _ => L.length - (intOf i).toNat)
  case atStart => exact ⟨0, Nat.zero_le _, rfl, hb0, by rw [List.take_zero]; exact ho0⟩
  case round =>
    clear hb0 ho0
    obtain ⟨k, hk, rfl, hbr, hown⟩ := hrel
    by_cases hlt : k < L.length
    · have hltz : (k : Int) < L.length := by omega
      obtain ⟨g, off, rfl, hg, c0, c1⟩ := HRC.out k hlt
      rw [← (stays hbr).1 _ _ hg] at c0 c1
      have hsh := HS.out _ (List.getElem_mem hlt)
      have HT := hide (List.take_succ_eq_append_getElem hlt)
      have HLE : Hid ((othF ws (L.take k)).length ≤ k) := by
        unfold Hid; refine Nat.le_trans (oth_le ws (L.take k)) ?_; rw [List.length_take]; omega
      obtain ⟨x, hx⟩ : ∃ x, L[k]'hlt = x := ⟨_, rfl⟩
      rw [hx] at c0 c1 hsh HT
      have HX : Hid (othF ws (L.take (k + 1)) = othF ws (L.take k) ++ (if aloneB ws x.1.data.toList then [] else [x])) := by unfold Hid; rw [HT.out, oth_snoc]
      obtain ⟨E, hE⟩ : ∃ E, othF ws (L.take k) = E := ⟨_, rfl⟩
      rw [hE] at hown HLE HX
      clear hx hE HRC HT
      have hbs := hbr.size
      have hbx := hbr.alloc (by omega) (.cells #[.string x.1, .string x.2] 39)
      have hox := hown.alloc (.cells #[.string x.1, .string x.2] 39)
      have d0 : (wr.alloc (.cells #[.string x.1, .string x.2] 39)).cell? ⟨wr.heap.size, 0, none⟩ = some (.string x.1) := by go_simp
      have d1 : (wr.alloc (.cells #[.string x.1, .string x.2] 39)).cell? ⟨wr.heap.size, 1, none⟩ = some (.string x.2) := by go_simp
      have hxl : wr.heap.size < (wr.alloc (.cells #[.string x.1, .string x.2] 39)).heap.size := by simp
      go_wp2_with fail
      generalize (wr.alloc (.cells #[.string x.1, .string x.2] 39)) = wx at hbx hox d0 d1 hxl ⊢
      generalize wr.heap.size = X at d0 d1 hxl ⊢
      have hrx := HRW.out.below hbx
      have HRX := hide hrx
      clear hown hbr c0 c1 hrx
      have HC := hide (refwords_any L _ wx.drew HRX.out (by omega) HS.out.sh (by omega))
      rw [HWS.out] at HC
      go_region_held3 (fun w' => Below wx.heap.size wx w' ∧ w'.cell? ⟨X, 0, none⟩ = some (.string x.1))
        (first | exact ⟨(Below.refl _ _).drew, d0⟩ | exact hS2 | exact hS3 | assumption)
        (first
          | (go_at_call 20; refine HC.out.mono ?_; rintro e w2 ⟨r, rfl, ho2, hb2⟩; have hB2 : Below wx.heap.size wx w2 := (Below.refl _ _).drew.trans hb2; have hS2 : Below wx.heap.size wx w2 ∧ w2.cell? ⟨X, 0, none⟩ = some (.string x.1) := ⟨hB2, ((stays hB2).1 _ _ hxl).trans d0⟩; have hw2 := ho2.rowW)
          | (go_at_call 21; refine (refalone_any ws r x.1 w2 hw2 (by omega) (by omega)).mono ?_; rintro e w3 ⟨rfl, hb3⟩; have hB3 : Below wx.heap.size wx w3 := hB2.trans (hb3.mono hB2.size); have hS3 : Below wx.heap.size wx w3 ∧ w3.cell? ⟨X, 0, none⟩ = some (.string x.1) := ⟨hB3, ((stays hB3).1 _ _ hxl).trans d0⟩))
      have e0 := ((stays hB3).1 _ _ hxl).trans d0
      have e1 := ((stays hB3).1 _ _ hxl).trans d1
      have hB4 := hbx.trans (hB3.mono hbx.size)
      have ho4 := hox.below hB3
      clear hbx hox d0 d1 hS2 hS3 hB2 hb2 hb3 ho2 hw2 HC HRX hB3
      cases hp : aloneB ws x.1.data.toList
      · rw [hp] at HX
        have hce := two_new_at w3 (.string x.1) (.string x.2) 39 (N := w3.heap.size) rfl
        have hla := hB4.alloc hB4.size (.cells #[.string x.1, .string x.2] 39)
        have hoa := ho4.alloc (.cells #[.string x.1, .string x.2] 39)
        have h63 : E.length + 1 ≤ maxLen := maxLen_of (by have := HLE.out; omega)
        have hby : (E.length + 1) * 32 ≤ 140737488355328 := by have := HLE.out; omega
        have hba : w.heap.size ≤ (w3.alloc (.cells #[.string x.1, .string x.2] 39)).heap.size := hla.size
        have HXX := hide (And.intro h63 (And.intro hby (And.intro hba (And.intro hce (And.intro hla hoa)))))
        clear h63 hby hba hce hla hoa ho4 hB4
        go_wp2_with (at_builtin; refine wpList_append_own _ rfl (.tmp 19) (.tmp 21) 24 rfl w.heap.size 39 i0 (.agg #[.string ⟨#[]⟩, .string ⟨#[]⟩]) 2 32 Tryd.underlying24 hi0 hz0 hz1 hz2 rfl (by decide) _ _ _ rfl HXX.out.2.2.2.2.2 _ 1 1 [.string x.1, .string x.2] rfl rfl HXX.out.2.2.2.1 (fst_one x) HXX.out.1 HXX.out.2.1 HXX.out.2.2.1 ?_; intro v' w5 ho5 hg5 _)
        have hl2 := HXX.out.2.2.2.2.1.grown hg5 HXX.out.2.2.2.2.1.size (fun j hj => (HXX.out.2.2.2.2.2.lt j hj).1)
        refine ⟨⟨k + 1, by omega, by go_num, hl2, ?_⟩, by simp [intOf]; omega⟩
        rw [HX.out, if_neg (by simp)]
        unfold Own
        rw [List.length_append, fcells_append]
        exact ho5
      · rw [hp] at HX
        go_wp2_with fail
        refine ⟨⟨k + 1, by omega, by go_num, hB4, ?_⟩, by simp [intOf]; omega⟩
        rw [HX.out, if_pos (by simp), List.append_nil]
        exact ho4
    · have hd : decide ((k : Int) < L.length) = false := decide_eq_false (by omega)
      rw [List.take_of_length_le (by omega)] at hown
      go_wp2_with fail
      go_ret
      rw [HO.out]
      exact ⟨_, rfl, hown, hbr⟩

set_option maxHeartbeats 4000000 in
theorem refkeeps_any (s : St) (L : List Fd) (v : Value) (w : World) (hr : Row w v L) (hl : L.length ≤ 50) (hs : Sm L) :
    Calls Tryd.prog 13 #[s.v, v] w fun e w' => e = .returned (.bool (keepF s.n L)) ∧ Below w.heap.size w w' := by
  have hb0 : Below w.heap.size w (w.alloc (.cells #[.string s.m, .string s.t, .int .i64 s.c, .string s.r, .int .i64 s.n] 23)) := (Below.refl _ _).alloc (Nat.le_refl _) _
  have c4 : (w.alloc (.cells #[.string s.m, .string s.t, .int .i64 s.c, .string s.r, .int .i64 s.n] 23)).cell? ⟨w.heap.size, 4, none⟩ = some (.int .i64 s.n) := by go_simp
  have hz : w.heap.size < (w.alloc (.cells #[.string s.m, .string s.t, .int .i64 s.c, .string s.r, .int .i64 s.n] 23)).heap.size := by simp
  have hj := hs.join connS hl
  have hwl := wds_len hs hl
  have HW := hide (refwords_any L v _ (hr.below hb0) hl hs.sh (by omega))
  have HK : Hid (keepF s.n L = (!decide ((⟨#[99, 108, 111, 115, 101]⟩ : ByteArray).data.toList ∈ wds L) && (decide ((⟨#[107, 101, 101, 112, 45, 97, 108, 105, 118, 101]⟩ : ByteArray).data.toList ∈ wds L) || decide (s.n = 1)))) := by
    unfold Hid keepF
    rw [show (⟨#[99, 108, 111, 115, 101]⟩ : ByteArray).data.toList = closeL from rfl, show (⟨#[107, 101, 101, 112, 45, 97, 108, 105, 118, 101]⟩ : ByteArray).data.toList = aliveL from rfl]
  clear hj
  generalize keepF s.n L = K at *
  generalize wds L = D at *
  unfold St.v
  clear hr hs
  go_enter Tryd.func13, Tryd.ntmps13
  go_wp2_with fail
  refine HW.out.mono ?_
  rintro e w1 ⟨r, rfl, ho, hb1⟩
  have hB1 := hb0.trans (hb1.mono hb0.size)
  have d4 := ((stays hb1).1 _ _ hz).trans c4
  have HRW := hide ho.rowW
  clear HW hb1 c4 ho
  go_wp2_with fail
  refine (hasW_any D r _ w1 HRW.out (by omega)).mono ?_
  rintro e w2 ⟨rfl, rfl⟩
  cases hp : decide ((⟨#[99, 108, 111, 115, 101]⟩ : ByteArray).data.toList ∈ D)
  · rw [hp] at HK
    go_wp2_with fail
    refine (hasW_any D r _ w2 HRW.out (by omega)).mono ?_
    rintro e w3 ⟨rfl, rfl⟩
    cases hq : decide ((⟨#[107, 101, 101, 112, 45, 97, 108, 105, 118, 101]⟩ : ByteArray).data.toList ∈ D)
    · rw [hq] at HK
      go_wp2_with fail
      go_ret
      exact ⟨by rw [HK.out]; simp; rfl, hB1⟩
    · rw [hq] at HK
      go_wp2_with fail
      go_ret
      exact ⟨by rw [HK.out]; simp, hB1⟩
  · rw [hp] at HK
    go_wp2_with fail
    go_ret
    exact ⟨by rw [HK.out]; rfl, hB1⟩

theorem can_app (t d : ByteArray) : t ++ ⟨#[44, 32]⟩ ++ d ++ ⟨#[61, 34, 69, 83, 73, 47, 49, 46, 48, 34]⟩ = t ++ ⟨#[44, 32]⟩ ++ oneS d := by
  apply bytes_ext; unfold oneS; simp only [app_list, List.append_assoc]
theorem can_nil {t : ByteArray} (d : ByteArray) (h : t.toList.isEmpty = true) : t ++ d ++ ⟨#[61, 34, 69, 83, 73, 47, 49, 46, 48, 34]⟩ = oneS d := by
  rw [ByteArray.toList_eq] at h
  apply bytes_ext; unfold oneS; simp only [app_list, List.isEmpty_iff.1 h, List.nil_append]

set_option maxHeartbeats 4000000 in
theorem refup_any (L : List Fd) (v : Value) (h d : ByteArray) (w : World) (hr : Row w v L) (hl : L.length ≤ 50) (hs : Sm L) (hh : h.size ≤ 1010) (hd : d.size ≤ 100) (hR : rightF L = true) :
    Calls Tryd.prog 16 #[v, .string h, .string d] w fun e w' => ∃ r, e = .returned (.tuple #[r, .int .i64 (upE L h d : Nat)]) ∧ Own w' w.heap.size r (upR L h d) ∧ Below w.heap.size w w' := by
  have HST := hide (refstrip_any L v w hr hl hs)
  have hle := str_le L
  have hsm := str_sm hs
  by_cases hz : setE (strF L) (hostS, h) = 0
  · have HU := hide (up_host d hR hz)
    obtain ⟨hms, hml⟩ := upM_sm hs hh hz
    have hcs := canV_size (d := d) hms (by omega) hd
    have hjs := hms.join capS (by omega)
    have HSR : Hid (setR (strF L) (hostS, h) = upM L h) := rfl
    have HCV : Hid (canV (upM L h) d = if (trimS (joinS (allF capS (upM L h)))).toList.isEmpty then oneS d else trimS (joinS (allF capS (upM L h))) ++ ⟨#[44, 32]⟩ ++ oneS d) := rfl
    have hts := trimS_size (joinS (allF capS (upM L h)))
    have HZ := hide hz
    have hal := all_low low_cap (upM L h)
    have halen := all_le capS (upM L h)
    have hash := all_short (n := capS) hms.sh
    clear hz hs hr hR
    generalize upM L h = M at *
    generalize upE L h d = E at *
    generalize upR L h d = R at *
    go_enter Tryd.func16, Tryd.ntmps16
    go_wp2_with fail
    refine HST.out.mono ?_
    rintro e w1 ⟨r, rfl, ho, hb1⟩
    clear HST
    go_wp2_with fail
    refine (refset_any (strF L) r (hostS, h) w1 ho.row (by omega) hsm.sh (by show hostS.size ≤ 100000; decide) (by show h.size ≤ 100000; omega)).mono ?_
    rintro e w2 ⟨r2, rfl, ho2, hb2⟩
    rw [HZ.out]
    rw [HSR.out] at ho2
    have hB2 := hb1.trans (hb2.mono hb1.size)
    go_wp2_with fail
    refine (reftoken_any d w2 (by omega)).mono ?_
    rintro e w3 ⟨rfl, rfl⟩
    cases ht : tokB d
    · rw [ht] at HU
      go_wp2_with fail
      go_ret2
      exact ⟨_, by rw [HU.out.1]; rfl, by rw [HU.out.2]; exact Own.nil _ _, hB2⟩
    · rw [ht] at HU
      go_wp2_with fail
      refine (refall_any M r2 capW w3 ho2.row (by omega) hms.sh (by decide)).mono ?_
      rintro e w4 ⟨r4, rfl, ho4, hb4⟩
      rw [hal] at ho4
      have hB4 := hB2.trans (hb4.mono hB2.size)
      have ho2' := ho2.below hb4
      obtain ⟨aa, ac, rfl, hac, hAR⟩ := ho4.row
      clear ho ho4 ho2 hb1 hb2 hb4 hB2
      go_wp2_with fail
      refine (refjoined_any (allF capS M) aa ac w4 hac (by omega) hash hAR).mono ?_
      rintro e w5 ⟨rfl, rfl⟩
      clear hAR hac
      generalize joinS (allF capS M) = j at *
      generalize canV M d = cv at *
      go_wp2_with fail
      refine (reftrim_any j w5 (by omega)).mono ?_
      rintro e w6 ⟨rfl, rfl⟩
      generalize trimS j = t at *
      cases he : t.toList.isEmpty
      · rw [he, if_neg (by decide), ← can_app] at HCV
        rw [HCV.out] at HU hcs
        have hSS := hide (refset_any M r2 (capS, t ++ ⟨#[44, 32]⟩ ++ d ++ ⟨#[61, 34, 69, 83, 73, 47, 49, 46, 48, 34]⟩) w6 ho2'.row (by omega) hms.sh (by show capS.size ≤ 100000; decide) hcs)
        clear hcs HCV
        go_wp2_with fail
        refine hSS.out.mono ?_
        rintro e w7 ⟨r5, rfl, ho5, hb5⟩
        clear hSS
        go_wp2_with fail
        go_ret2
        exact ⟨_, by rw [HU.out.1]; rfl, by rw [HU.out.2]; exact ho5.mono hB4.size, hB4.trans (hb5.mono hB4.size)⟩
      · rw [he, if_pos rfl, ← can_nil d he] at HCV
        rw [HCV.out] at HU hcs
        have hSS := hide (refset_any M r2 (capS, t ++ d ++ ⟨#[61, 34, 69, 83, 73, 47, 49, 46, 48, 34]⟩) w6 ho2'.row (by omega) hms.sh (by show capS.size ≤ 100000; decide) hcs)
        clear hcs HCV
        go_wp2_with fail
        refine hSS.out.mono ?_
        rintro e w7 ⟨r5, rfl, ho5, hb5⟩
        clear hSS
        go_wp2_with fail
        go_ret2
        exact ⟨_, by rw [HU.out.1]; rfl, by rw [HU.out.2]; exact ho5.mono hB4.size, hB4.trans (hb5.mono hB4.size)⟩
  · have HU := hide (up_nohost d hR hz)
    have h14 : setE (strF L) (hostS, h) = 1 ∨ setE (strF L) (hostS, h) = 4 := by
      rcases set_three (strF L) (hostS, h) with g | g | g
      · exact absurd g hz
      · exact Or.inl g.1
      · exact Or.inr g.1
    clear hz hs hR hr
    generalize upE L h d = E at *
    generalize upR L h d = R at *
    go_enter Tryd.func16, Tryd.ntmps16
    go_wp2_with fail
    refine HST.out.mono ?_
    rintro e w1 ⟨r, rfl, ho, hb1⟩
    clear HST
    go_wp2_with fail
    refine (refset_any (strF L) r (hostS, h) w1 ho.row (by omega) hsm.sh (by show hostS.size ≤ 100000; decide) (by show h.size ≤ 100000; omega)).mono ?_
    rintro e w2 ⟨r2, rfl, ho2, hb2⟩
    have hB2 := hb1.trans (hb2.mono hb1.size)
    clear ho2
    generalize setE (strF L) (hostS, h) = z at *
    rcases h14 with rfl | rfl
    · go_wp2_with fail
      go_ret2
      exact ⟨_, by rw [HU.out.1]; rfl, by rw [HU.out.2]; exact Own.nil _ _, hB2⟩
    · go_wp2_with fail
      go_ret2
      exact ⟨_, by rw [HU.out.1]; rfl, by rw [HU.out.2]; exact Own.nil _ _, hB2⟩

/- The known row. -/
def knownL : List Fd := [(connS, ⟨#[120]⟩), (⟨#[88]⟩, ⟨#[49]⟩), (⟨#[89]⟩, ⟨#[50]⟩)]
theorem row_three (w : World) (f g h : Fd) : Row (w.alloc (.cells #[.string f.1, .string f.2, .string g.1, .string g.2, .string h.1, .string h.2] 39)) (.slice (some ⟨w.heap.size, 0, none⟩) 3 3) [f, g, h] := by
  refine ⟨some ⟨w.heap.size, 0, none⟩, 3, rfl, Nat.le_refl _, fun k hk => ⟨w.heap.size, 0, rfl, by simp, ?_, ?_⟩⟩
  · match k, hk with
    | 0, _ => go_simp
    | 1, _ => go_simp
    | 2, _ => go_simp
    | k + 3, hk => exact absurd hk (by simp)
  · match k, hk with
    | 0, _ => go_simp
    | 1, _ => go_simp
    | 2, _ => go_simp
    | k + 3, hk => exact absurd hk (by simp)
theorem known_facts : strE knownL = 0 ∧ strR knownL = [(⟨#[89]⟩, ⟨#[50]⟩)] := by
  refine ⟨by decide +kernel, by decide +kernel⟩
theorem known_sm : Sm knownL := by
  intro f hf
  unfold knownL at hf
  simp only [List.mem_cons, List.not_mem_nil, or_false] at hf
  rcases hf with rfl | rfl | rfl <;> exact ⟨by decide +kernel, by decide +kernel⟩

set_option maxHeartbeats 4000000 in
theorem alive_any (w : World) : Calls Tryd.prog 14 #[] w fun e w' => e = .returned (.bool true) ∧ Below w.heap.size w w' := by
  have hb0 : Below w.heap.size w (w.alloc (.cells #[.string connS, .string ⟨#[120]⟩, .string ⟨#[88]⟩, .string ⟨#[49]⟩, .string ⟨#[89]⟩, .string ⟨#[50]⟩] 39)) := one_alloc w _ 39
  have hst := strip_any knownL _ _ (row_three w (connS, ⟨#[120]⟩) (⟨#[88]⟩, ⟨#[49]⟩) (⟨#[89]⟩, ⟨#[50]⟩)) (by decide) known_sm
  rw [known_facts.1, known_facts.2] at hst
  unfold connS at hb0 hst
  have HST := hide hst
  clear hst
  go_enter Tryd.func14, Tryd.ntmps14
  go_wp2_with fail
  refine HST.out.mono ?_
  rintro e w1 ⟨r, rfl, ho, hb1⟩
  obtain ⟨a, cap, rfl, hcap, hR⟩ := ho.row
  obtain ⟨g, off, rfl, hg, c0, -⟩ := hR 0 (by decide)
  have hB := hb0.trans (hb1.mono hb0.size)
  have c1 : w1.cell? ⟨g, off, none⟩ = some (.string ⟨#[89]⟩) := c0
  clear HST ho hR hb1 hb0 c0
  go_wp2_with fail
  go_ret
  exact ⟨rfl, hB⟩

end Go.Proofs.YtojoidhjlbcijaaDoor
