/- The walk of what reads a field: its words, in order. -/
import Derived.Test.YtkakinakjnpbjaaDoorPb
namespace Go.Proofs.YtkakinakjnpbjaaDoor
set_option linter.unusedVariables false
set_option linter.unusedSimpArgs false
open Go.RowKit

theorem own_base {w : World} {base base' : Nat} {v : Value} {L : List Fd} (hb : base' ≤ base) (h : Own w base v L) : Own w base' v L :=
  ⟨h.1, h.2.imp id (fun ⟨g, cap, cur, a, b, c⟩ => ⟨g, cap, cur, a, Nat.le_trans hb b, c⟩)⟩
/-- A field's words, and whether it is refused. -/
def rdF (s : ByteArray) : List Fd := ((rdL s.data.toList).getD []).map toF
def rdE (s : ByteArray) : Nat := if (rdL s.data.toList).isSome then 0 else 11
theorem rd_none {s : ByteArray} (h : rdL s.data.toList = none) : rdF s = [] ∧ rdE s = 11 := by unfold rdF rdE; rw [h]; exact ⟨rfl, rfl⟩
theorem rd_some {s : ByteArray} {L : List W3} (h : rdL s.data.toList = some L) : rdF s = L.map toF ∧ rdE s = 0 := by unfold rdF rdE; rw [h]; exact ⟨rfl, rfl⟩
theorem rd_split {s : ByteArray} {P : List (List UInt8)} (h : splitL 44 s.data.toList = some P) : rdL s.data.toList = allP P := by unfold rdL; rw [h]; rfl
theorem bs_empty (x : List UInt8) : (bs x).toList.isEmpty = x.isEmpty := by rw [bs_toList]
theorem own_nil (w : World) (base : Nat) : Own w base (.slice none 0 0) [] := World.ownsRow_nil _ _ _ _
theorem parts_len {b : UInt8} {l : List UInt8} {P : List (List UInt8)} (h : splitL b l = some P) : P.length ≤ l.length + 1 := by
  unfold splitL at h; split at h
  · cases h
  · exact parts_le b l 0 [] P h

set_option maxHeartbeats 4000000 in
theorem read_any (s : ByteArray) (w : World) (hs : s.size ≤ 100000) :
    Calls Tryd.prog 8 #[.string s] w fun e w' => ∃ v, e = .returned (.tuple #[v, .int .i64 (rdE s : Nat)]) ∧ Own w' w.heap.size v (rdF s) ∧ Below w.heap.size w w' := by
  have hsp : Calls Tryd.prog 19 #[.string s, .int .u8 44] w _ := split_any s 44 w (by omega)
  rcases hS : splitL 44 s.data.toList with _ | P
  · have hN : rdL s.data.toList = none := by unfold rdL; rw [hS]; rfl
    have HE := hide (rd_none hN)
    rw [(sp_err hS).1, (sp_err hS).2] at hsp
    clear hN hS
    go_enter Tryd.func8, Tryd.ntmps8
    go_wp2_with fail
    refine hsp.mono ?_
    rintro e w1 ⟨v, rfl, ho, hb1⟩
    go_wp2_with fail
    go_ret2
    exact ⟨_, ret_row rfl (by rw [HE.out.2]; rfl), by rw [HE.out.1]; exact own_nil _ _, hb1⟩
  · rw [(sp_okay hS).1, (sp_okay hS).2] at hsp
    have HRD := hide (rd_split hS)
    have HPL : Hid (∀ p ∈ P, p.length ≤ 100000) := fun p hp => by have := split_part hS p hp; rw [size_list] at this; omega
    have HLN : Hid (P.length ≤ 100001) := by have := parts_len hS; rw [size_list] at this; unfold Hid; omega
    obtain ⟨i0, hi0, hz0, hz1, hz2⟩ := info_parts Tryd.info31
    clear hS
    go_enter Tryd.func8, Tryd.ntmps8
    go_wp2_with fail
    refine hsp.mono ?_
    rintro e w1 ⟨v, rfl, ho, hb1⟩
    obtain ⟨ad, cap, rfl, hR⟩ := row_cell ho
    have HR := hide hR
    have hs1 := hb1.size
    clear hsp ho hR
    go_wp2_with fail
    go_loopw [6, 21] (fun v i wr => ∃ (k : Nat) (L : List W3), k ≤ P.length ∧ i = .int .i64 k ∧ L.length ≤ k ∧ Own wr w1.heap.size v (L.map toF) ∧ Below w1.heap.size w1 wr ∧ Hid (allP (P.take k) = some L)) (fun _ i _ => P.length - (intOf i).toNat)
    case atStart => exact ⟨0, [], Nat.zero_le _, rfl, Nat.le_refl _, own_nil _ _, Below.refl _ _, rfl⟩
    case round =>
      obtain ⟨k, L, hk, rfl, hL, hown, hbr, hall⟩ := hrel
      have hsz := hbr.size
      by_cases hlt : k < P.length
      · have hltz : (k : Int) < P.length := by omega
        have hkz : (k : Int) ≤ 100001 := by have := HLN.out; omega
        obtain ⟨g, rfl, hg0, hg1, rk⟩ := HR.out k hlt
        rw [← (stays hbr).1 _ _ hg1] at rk
        have hkl := HPL.out P[k] (List.getElem_mem hlt)
        by_cases he : P[k] = []
        · have HA := hide (allP_skip hlt hall.out he)
          have hey : (bs P[k]).toList.isEmpty = true := by rw [bs_empty, he]; rfl
          obtain ⟨y, hy⟩ : ∃ y, bs (P[k]'hlt) = y := ⟨_, rfl⟩
          rw [hy] at rk hey
          clear hy
          clear hall he hkl
          go_wp2_with fail
          exact ⟨⟨k + 1, L, by omega, by go_num, by omega, hown, hbr, HA.out⟩, by simp [intOf]; omega⟩
        · have hey : (bs P[k]).toList.isEmpty = false := by rw [bs_empty]; simpa using he
          have hyz : (bs P[k]).size ≤ 100000 := by rw [bs_size]; exact hkl
          have HB : Hid (wordP (bs P[k]).data.toList = none → allP P = none) := by rw [bs_list]; exact fun h => allP_bad hlt hall.out he h
          have HM : Hid (∀ x, wordP (bs P[k]).data.toList = some x → allP (P.take (k + 1)) = some (L ++ [x])) := by rw [bs_list]; exact fun x h => allP_more hlt hall.out he h
          obtain ⟨y, hy⟩ : ∃ y, bs (P[k]'hlt) = y := ⟨_, rfl⟩
          rw [hy] at rk hey hyz HB HM
          clear hy
          clear hall he hkl
          go_wp2_with fail
          refine (wordOf_any y wr hyz).mono ?_
          rintro e w2 ⟨f, ok, rfl, hW, hb2⟩
          have hB2 := hbr.trans (hb2.mono hsz)
          have ho2 := hown.below hb2
          clear hown hbr hb2
          rcases hw : wordP y.data.toList with _ | x
          · rw [hw] at hW
            obtain rfl : ok = false := hW
            have HN := hide (rd_none (HRD.out.trans (HB.out hw)))
            obtain ⟨f0, f1, f2⟩ := f
            unfold fv
            clear hw
            have hs2 := hB2.size
            have hF := (hB2.mono hs1).alloc (by omega) (.cells #[.string f0, .string f1, .string f2] 31)
            go_wp2_with fail
            go_ret2
            exact ⟨_, ret_row rfl (by rw [HN.out.2]; rfl), by rw [HN.out.1]; exact own_nil _ _, hb1.trans hF⟩
          · rw [hw] at hW
            obtain ⟨rfl, rfl⟩ : ok = true ∧ f = toF x := hW
            have HMX := hide (HM.out x hw)
            obtain ⟨f0, f1, f2, hf⟩ : ∃ f0 f1 f2, toF x = (f0, f1, f2) := ⟨_, _, _, rfl⟩
            rw [hf]
            have HF := hide hf
            clear hf
            unfold fv
            clear hw
            have hs2 := hB2.size
            have h63 : (L.map toF).length + 1 ≤ maxLen := maxLen_of (by simp; omega)
            have hby : ((L.map toF).length + 1) * 48 ≤ 140737488355328 := by simp; omega
            have hba : w1.heap.size ≤ ((w2.alloc (.cells #[.string f0, .string f1, .string f2] 31)).alloc (.cells #[.string f0, .string f1, .string f2] 31)).heap.size := by simp; omega
            have hce : ∀ j u, [Value.string f0, .string f1, .string f2][j]? = some u → ((w2.alloc (.cells #[.string f0, .string f1, .string f2] 31)).alloc (.cells #[.string f0, .string f1, .string f2] 31)).cell? ((⟨w2.heap.size + 1, 0, none⟩ : Addr).add j) = some u := by
              have := three_new (w2.alloc (.cells #[.string f0, .string f1, .string f2] 31)) (.string f0) (.string f1) (.string f2) 31
              rw [World.size_alloc] at this
              exact this
            have hla : Below w1.heap.size w1 ((w2.alloc (.cells #[.string f0, .string f1, .string f2] 31)).alloc (.cells #[.string f0, .string f1, .string f2] 31)) := (hB2.alloc hs2 _).alloc (by simp; omega) _
            have hoa : Own ((w2.alloc (.cells #[.string f0, .string f1, .string f2] 31)).alloc (.cells #[.string f0, .string f1, .string f2] 31)) w1.heap.size _ (L.map toF) := (World.ownsRow.alloc (World.ownsRow.alloc ho2 _) _)
            have HX := hide (And.intro h63 (And.intro hby (And.intro hba (And.intro hce (And.intro hla hoa)))))
            clear h63 hby hba hce hla hoa ho2 hB2
            go_wp2_with (at_builtin; refine wpList_append_own _ rfl (.tmp 34) (.tmp 36) 23 rfl w1.heap.size 31 i0 (.agg #[.string ⟨#[]⟩, .string ⟨#[]⟩, .string ⟨#[]⟩]) 3 48 Tryd.underlying23 hi0 hz0 hz1 hz2 rfl (by decide) _ _ _ rfl HX.out.2.2.2.2.2 ⟨w2.heap.size + 1, 0, none⟩ 1 1 [.string f0, .string f1, .string f2] rfl rfl HX.out.2.2.2.1 (by intro u hu; simp at hu; rcases hu with rfl | rfl | rfl <;> rfl) HX.out.1 HX.out.2.1 HX.out.2.2.1 ?_; intro v' w3 ho3 hg3 _)
            have hl3 := HX.out.2.2.2.2.1.grown hg3 HX.out.2.2.1 (fun j hj => (HX.out.2.2.2.2.2.lt j hj).1)
            refine ⟨⟨k + 1, L ++ [x], by omega, by go_num, by simp; omega, ?_, hl3, HMX.out⟩, by simp [intOf]; omega⟩
            unfold Own
            rw [List.map_append, List.length_append, fcells_append, List.map_cons, List.map_nil, HF.out]
            exact ho3
      · have hd : decide ((k : Int) < P.length) = false := decide_eq_false (by omega)
        rw [List.take_of_length_le (by omega)] at hall
        have HG := hide (rd_some (HRD.out.trans hall.out))
        go_wp2_with fail
        go_ret2
        exact ⟨_, ret_row rfl (by rw [HG.out.2]; rfl), by rw [HG.out.1]; exact own_base hs1 hown, hb1.trans (hbr.mono hs1)⟩

end Go.Proofs.YtkakinakjnpbjaaDoor
