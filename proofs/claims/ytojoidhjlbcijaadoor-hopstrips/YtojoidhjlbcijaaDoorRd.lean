/- The walks of what is for the next one alone, and of Strip. -/
import Derived.Test.YtojoidhjlbcijaaDoorRc
namespace Go.Proofs.YtojoidhjlbcijaaDoor
set_option linter.unusedVariables false
set_option linter.unusedSimpArgs false
set_option maxRecDepth 100000
open Go.RowKit Go.Maps

/-- The eight names as the program writes them. -/
def bigN : List ByteArray := [connectionwS, keepalivewS, proxyconnectionwS, tewS, trailerwS, transferencodingwS, upgradewS, contentlengthwS]
theorem fix_at : ∀ k, k < 8 → fixW.take (k + 1) = fixW.take k ++ [lowL (bigN.getD k ⟨#[]⟩).data.toList] := by decide +kernel
theorem big_short : ∀ k, k < 8 → (bigN.getD k ⟨#[]⟩).size ≤ 1000000 := by decide +kernel

set_option maxHeartbeats 4000000 in
theorem alone_any (L : List Fd) (v : Value) (w : World) (hr : Row w v L) (hl : L.length ≤ 50) (hs : Sm L) :
    Calls Tryd.prog 24 #[v] w fun e w' => ∃ n, e = .returned (.map (some w.heap.size)) ∧ OwnM w' w.heap.size n (wds L ++ fixW) ∧ Below w.heap.size w w' := by
  go_enter Tryd.func24, Tryd.ntmps24
  go_wp2_with fail
  refine (words_any L v w hr hl hs).mono ?_
  rintro e w1 ⟨n, rfl, hn, hm, hb1⟩
  clear hs
  generalize hws : wds L = ws at *
  have hms := World.ownsMap.lt hm
  go_wp2_with fail
  have hcell : ∀ k, k < 8 → (w1.alloc (.cells #[.string connectionwS, .string keepalivewS, .string proxyconnectionwS, .string tewS, .string trailerwS, .string transferencodingwS, .string upgradewS, .string contentlengthwS] 9)).cell? ⟨w1.heap.size, k, none⟩ = some (.string (bigN.getD k ⟨#[]⟩)) := by
    intro k hk
    rw [World.cell?_alloc_new]
    match k, hk with
    | 0, _ => rfl
    | 1, _ => rfl
    | 2, _ => rfl
    | 3, _ => rfl
    | 4, _ => rfl
    | 5, _ => rfl
    | 6, _ => rfl
    | 7, _ => rfl
    | k + 8, hk => omega
  have hb2 := hb1.alloc hb1.size (.cells #[.string connectionwS, .string keepalivewS, .string proxyconnectionwS, .string tewS, .string trailerwS, .string transferencodingwS, .string upgradewS, .string contentlengthwS] 9)
  have hm2 : OwnM (w1.alloc (.cells #[.string connectionwS, .string keepalivewS, .string proxyconnectionwS, .string tewS, .string trailerwS, .string transferencodingwS, .string upgradewS, .string contentlengthwS] 9)) w.heap.size n ws := World.ownsMap.alloc hm _
  have hN : w1.heap.size < (w1.alloc (.cells #[.string connectionwS, .string keepalivewS, .string proxyconnectionwS, .string tewS, .string trailerwS, .string transferencodingwS, .string upgradewS, .string contentlengthwS] 9)).heap.size := by simp
  change Code.wp _ _ _ _ (w1.alloc (.cells #[.string connectionwS, .string keepalivewS, .string proxyconnectionwS, .string tewS, .string trailerwS, .string transferencodingwS, .string upgradewS, .string contentlengthwS] 9))
  generalize (w1.alloc (.cells #[.string connectionwS, .string keepalivewS, .string proxyconnectionwS, .string tewS, .string trailerwS, .string transferencodingwS, .string upgradewS, .string contentlengthwS] 9)) = w2 at hcell hb2 hm2 hN ⊢
  generalize w1.heap.size = N at hcell hN hms ⊢
  have HC := hide hcell
  clear hcell hm hb1
  go_loopw [5, 10] (fun _ i wr => ∃ k : Nat, k ≤ 8 ∧ i = .int .i64 k ∧ Below w.heap.size w wr ∧ OwnM wr w.heap.size (n + k) (ws ++ fixW.take k) ∧ Hid (∀ j, j < 8 → wr.cell? ⟨N, j, none⟩ = some (.string (bigN.getD j ⟨#[]⟩))) ∧ N < wr.heap.size) (fun _ i _ => 8 - (intOf i).toNat)
  case atStart => exact ⟨0, Nat.zero_le _, rfl, hb2, by rw [List.take_zero, List.append_nil]; exact hm2, HC, hN⟩
  case round =>
    clear HC hN hb2 hm2
    obtain ⟨k, hk, rfl, hbr, hm, HC, hN⟩ := hrel
    by_cases hlt : k < 8
    · have hltz : (k : Int) < 8 := by omega
      have hd : decide ((k : Int) < 8) = true := decide_eq_true hltz
      have c0 := HC.out k hlt
      have HF := hide (fix_at k hlt)
      have HS := hide (big_short k hlt)
      obtain ⟨x, hx⟩ : ∃ x, bigN.getD k ⟨#[]⟩ = x := ⟨_, rfl⟩
      rw [hx] at c0 HF HS
      clear hx
      go_wp2_with fail
      refine (names_add x w.heap.size (n + k) (ws ++ fixW.take k) wr HS.out (by omega) hm).mono ?_
      rintro e w4 ⟨rfl, m4, g4⟩
      rw [List.append_assoc, ← HF.out] at m4
      go_wp2_with fail
      exact ⟨⟨k + 1, by omega, by go_num, hbr.grown g4 hbr.size (fun j e => by have := Option.some.inj e; omega), m4,
        fun j hj => (World.cell?_of_block (w := wr) (a := ⟨N, j, none⟩) (g4.block N hN (fun e => by have := Option.some.inj e; omega))).trans (HC.out j hj), Nat.lt_of_lt_of_le hN g4.size⟩, by simp [intOf]; omega⟩
    · have hd : decide ((k : Int) < 8) = false := decide_eq_false (by omega)
      have hf8 : fixW.take k = fixW := List.take_of_length_le (by show 8 ≤ k; omega)
      rw [hf8] at hm
      go_wp2_with fail
      go_ret
      exact ⟨_, rfl, by rw [hws]; exact hm, hbr⟩

/-- Whether a name is for the next one alone, as the program asks. -/
theorem alone_is (ws : List (List UInt8)) (x : List UInt8) : decide (lowL x ∈ ws ++ fixW) = aloneB ws x := by
  unfold aloneB
  rw [Bool.eq_iff_iff, Bool.or_eq_true, decide_eq_true_eq, decide_eq_true_eq, decide_eq_true_eq, List.mem_append]
  exact Or.comm

def strE (L : List Fd) : Nat := if rightF L then 0 else 1
def strR (L : List Fd) : List Fd := if rightF L then strF L else []

theorem str_no {L : List Fd} (h : rightF L = false) : strE L = 1 ∧ strR L = [] := by unfold strE strR; rw [h]; exact ⟨rfl, rfl⟩
theorem str_yes {L : List Fd} (h : rightF L = true) : strE L = 0 ∧ strR L = strF L := by unfold strE strR; rw [h]; exact ⟨rfl, rfl⟩

set_option maxHeartbeats 4000000 in
theorem strip_any (L : List Fd) (v : Value) (w : World) (hr : Row w v L) (hl : L.length ≤ 50) (hs : Sm L) :
    Calls Tryd.prog 9 #[v] w fun e w' => ∃ r, e = .returned (.tuple #[r, .int .i64 (strE L : Nat)]) ∧ Own w' w.heap.size r (strR L) ∧ Below w.heap.size w w' := by
  have HR := hide hr
  have HS := hide hs
  clear hr hs
  cases hR : rightF L
  · have HF := hide (str_no hR)
    go_enter Tryd.func9, Tryd.ntmps9
    go_wp2_with fail
    refine (right_any L v w HR.out (by omega) HS.out.sh).mono ?_
    rintro e w1 ⟨rfl, hb1⟩
    rw [hR]
    go_wp2_with fail
    go_ret2
    rw [HF.out.1, HF.out.2]
    exact ⟨_, rfl, Own.nil _ _, hb1⟩
  · have HF := hide (str_yes hR)
    have HO : Hid (strF L = othF (wds L) L) := rfl
    go_enter Tryd.func9, Tryd.ntmps9
    go_wp2_with fail
    refine (right_any L v w HR.out (by omega) HS.out.sh).mono ?_
    rintro e w1 ⟨rfl, hb1⟩
    rw [hR]
    go_wp2_with fail
    refine (alone_any L v w1 (HR.out.below hb1) hl HS.out).mono ?_
    rintro e w2 ⟨n, rfl, hm, hb2⟩
    have hB2 := hb1.trans (hb2.mono hb1.size)
    have hMlt := World.ownsMap.lt hm
    have hr2 := HR.out.below hB2
    have hMge := hb1.size
    generalize w1.heap.size = M at hm hMlt hMge ⊢
    generalize hws : wds L = ws at *
    obtain ⟨a, cap, rfl, hcap, hRc⟩ := hr2
    have HRC := hide hRc
    have HM := hide hm
    clear hRc hb1 hb2 hm HR
    obtain ⟨i0, hi0, hz0, hz1, hz2⟩ := info_parts Tryd.info25
    go_wp2_with fail
    go_loopw [5, 7, 15] (fun v _ i wr => ∃ k : Nat, k ≤ L.length ∧ i = .int .i64 k ∧ Below w.heap.size w wr ∧ Below w2.heap.size w2 wr ∧ Own wr w2.heap.size v (othF ws (L.take k))) (fun _ _ i _ => L.length - (intOf i).toNat)
    case atStart => exact ⟨0, Nat.zero_le _, rfl, hB2, Below.refl _ _, by rw [List.take_zero]; exact Own.nil _ _⟩
    case round =>
      obtain ⟨k, hk, rfl, hbr, hbr2, hown⟩ := hrel
      by_cases hlt : k < L.length
      · have hltz : (k : Int) < L.length := by omega
        obtain ⟨g, off, rfl, hg, c0, c1⟩ := HRC.out k hlt
        rw [← (stays hbr2).1 _ _ hg] at c0 c1
        have hsh := HS.out _ (List.getElem_mem hlt)
        have HT := hide (List.take_succ_eq_append_getElem hlt)
        have HLE : Hid ((othF ws (L.take k)).length ≤ k) := by
          unfold Hid; refine Nat.le_trans (oth_le ws (L.take k)) ?_; rw [List.length_take]; omega
        obtain ⟨x, hx⟩ : ∃ x, L[k]'hlt = x := ⟨_, rfl⟩
        rw [hx] at c0 c1 hsh HT
        have HX : Hid (othF ws (L.take (k + 1)) = othF ws (L.take k) ++ (if aloneB ws x.1.data.toList then [] else [x])) := by unfold Hid; rw [HT.out, oth_snoc]
        have HA := hide (alone_is ws x.1.data.toList)
        obtain ⟨E, hE⟩ : ∃ E, othF ws (L.take k) = E := ⟨_, rfl⟩
        rw [hE] at hown HLE HX
        clear hx hE HRC HT
        have hsz2 := hbr2.size
        have hm4 : OwnM (wr.alloc (.cells #[.string x.1, .string x.2] 39)) M n (ws ++ fixW) := World.ownsMap.alloc (World.ownsMap.kept HM.out (below_grown hbr2 none) (by simp)) _
        have hbx := hbr.alloc hbr.size (.cells #[.string x.1, .string x.2] 39)
        have hbx2 := hbr2.alloc hbr2.size (.cells #[.string x.1, .string x.2] 39)
        have hox := hown.alloc (.cells #[.string x.1, .string x.2] 39)
        have d0 : (wr.alloc (.cells #[.string x.1, .string x.2] 39)).cell? ⟨wr.heap.size, 0, none⟩ = some (.string x.1) := by go_simp
        have d1 : (wr.alloc (.cells #[.string x.1, .string x.2] 39)).cell? ⟨wr.heap.size, 1, none⟩ = some (.string x.2) := by go_simp
        have hxl : wr.heap.size < (wr.alloc (.cells #[.string x.1, .string x.2] 39)).heap.size := by simp
        go_wp2_with fail
        generalize (wr.alloc (.cells #[.string x.1, .string x.2] 39)) = wx at hm4 hbx hbx2 hox d0 d1 hxl ⊢
        generalize wr.heap.size = X at d0 d1 hxl ⊢
        refine (names_has x.1 M n (ws ++ fixW) _ (by omega) hm4).mono ?_
        rintro e w4 ⟨rfl, hb4⟩
        rw [HA.out]
        have hB4 := hbx.trans (hb4.mono hbx.size)
        have hB42 := hbx2.trans (hb4.mono hbx2.size)
        have ho4 := hox.below hb4
        have e0 := ((stays hb4).1 _ _ hxl).trans d0
        have e1 := ((stays hb4).1 _ _ hxl).trans d1
        clear hbx hbx2 hox hm4 c0 c1 hown hbr hbr2 hb4
        cases hp : aloneB ws x.1.data.toList
        · rw [hp] at HX
          have hce := two_new_at w4 (.string x.1) (.string x.2) 39 (N := w4.heap.size) rfl
          have hla := hB4.alloc hB4.size (.cells #[.string x.1, .string x.2] 39)
          have hla2 := hB42.alloc hB42.size (.cells #[.string x.1, .string x.2] 39)
          have hoa := ho4.alloc (.cells #[.string x.1, .string x.2] 39)
          have h63 : E.length + 1 ≤ maxLen := maxLen_of (by have := HLE.out; omega)
          have hby : (E.length + 1) * 32 ≤ 140737488355328 := by have := HLE.out; omega
          have hba : w2.heap.size ≤ (w4.alloc (.cells #[.string x.1, .string x.2] 39)).heap.size := hla2.size
          have HXX := hide (And.intro h63 (And.intro hby (And.intro hba (And.intro hce (And.intro hla (And.intro hla2 hoa))))))
          clear h63 hby hba hce hla hla2 hoa ho4 hB4 hB42
          go_wp2_with (at_builtin; refine wpList_append_own _ rfl (.tmp 24) (.tmp 26) 24 rfl w2.heap.size 39 i0 (.agg #[.string ⟨#[]⟩, .string ⟨#[]⟩]) 2 32 Tryd.underlying24 hi0 hz0 hz1 hz2 rfl (by decide) _ _ _ rfl HXX.out.2.2.2.2.2.2 _ 1 1 [.string x.1, .string x.2] rfl rfl HXX.out.2.2.2.1 (fst_one x) HXX.out.1 HXX.out.2.1 HXX.out.2.2.1 ?_; intro v' w5 ho5 hg5 _)
          have hl2 := HXX.out.2.2.2.2.1.grown hg5 HXX.out.2.2.2.2.1.size (fun j hj => Nat.le_trans (by have := hB2.size; omega) (HXX.out.2.2.2.2.2.2.lt j hj).1)
          have hl3 := HXX.out.2.2.2.2.2.1.grown hg5 HXX.out.2.2.2.2.2.1.size (fun j hj => (HXX.out.2.2.2.2.2.2.lt j hj).1)
          refine ⟨⟨k + 1, by omega, by go_num, hl2, hl3, ?_⟩, by simp [intOf]; omega⟩
          rw [HX.out, if_neg (by simp)]
          unfold Own
          rw [List.length_append, fcells_append]
          exact ho5
        · rw [hp] at HX
          go_wp2_with fail
          refine ⟨⟨k + 1, by omega, by go_num, hB4, hB42, ?_⟩, by simp [intOf]; omega⟩
          rw [HX.out, if_pos (by simp), List.append_nil]
          exact ho4
      · have hd : decide ((k : Int) < L.length) = false := decide_eq_false (by omega)
        rw [List.take_of_length_le (by omega)] at hown
        go_wp2_with fail
        go_ret2
        rw [HF.out.1, HF.out.2, HO.out]
        exact ⟨_, rfl, hown.mono hB2.size, hbr⟩

end Go.Proofs.YtojoidhjlbcijaaDoor
