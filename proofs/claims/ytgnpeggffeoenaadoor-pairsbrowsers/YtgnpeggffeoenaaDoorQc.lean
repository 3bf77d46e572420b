/- The walks of the document's parts, of its Query and its Cookies. -/
import Derived.Test.YtgnpeggffeoenaaDoorQb
import Derived.Test.YtgnpeggffeoenaaDoorPd
namespace Go.Proofs.YtgnpeggffeoenaaDoor
set_option linter.unusedVariables false
set_option linter.unusedSimpArgs false
open Go.RowKit

/-- A row of texts that can be read, in a block of texts. -/
def RowS (w : World) (v : Value) (P : List (List UInt8)) : Prop := ∃ (a : Option Addr) (cap : Nat), v = .slice a P.length cap ∧ P.length ≤ cap ∧
  ∀ k (h : k < P.length), ∃ g, a = some ⟨g, 0, none⟩ ∧ (∃ cur, w.heap[g]? = some (.cells cur 9 (0, 0))) ∧ w.cell? ⟨g, k, none⟩ = some (.string (bs P[k]))
theorem RowS.of {w : World} {base : Nat} {v : Value} {P : List (List UInt8)} (h : w.ownsRow base 9 1 v P.length (strs P)) : RowS w v P := by
  have hs := h
  rcases h.2 with ⟨rfl, h0⟩ | ⟨g, cap, cur, rfl, h2, h3, h4, h5, h6, h7⟩
  · refine ⟨none, 0, by rw [h0], by omega, fun k hk => by omega⟩
  · refine ⟨some ⟨g, 0, none⟩, cap, rfl, h4, fun k hk => ⟨g, rfl, ⟨cur, h3⟩, ?_⟩⟩
    rw [cell_of_row w g k cur 9 (0, 0) h3]
    have : (strs P)[k]? = some (.string (bs P[k])) := by simp [strs, hk, bs]
    rw [← h7, List.getElem?_take, if_pos (by omega)] at this
    simpa using this
theorem RowS.below {w w' : World} {v : Value} {P : List (List UInt8)} (h : RowS w v P) (hb : Below w.heap.size w w') : RowS w' v P := by
  obtain ⟨a, cap, h1, h2, h3⟩ := h
  refine ⟨a, cap, h1, h2, fun k hk => ?_⟩
  obtain ⟨g, e, ⟨cur, hc⟩, c0⟩ := h3 k hk
  have hg := (Array.getElem?_eq_some_iff.1 hc).1
  exact ⟨g, e, ⟨cur, (hb.block g hg).trans hc⟩, ((stays hb).1 _ _ hg).trans c0⟩
theorem str_ne {w : World} {g base n : Nat} {cur : Array Value} {v : Value} {xs : List Value} (h : w.heap[g]? = some (.cells cur 9 (0, 0))) (hr : w.ownsRow base 37 2 v n xs) : some g ≠ v.ownBlock := by
  intro e
  rcases hr.2 with ⟨rfl, _⟩ | ⟨g', cap, cur', rfl, _, h3, _⟩
  · cases e
  · cases e; rw [h] at h3; cases h3
theorem RowS.grown {w w' : World} {v u : Value} {P : List (List UInt8)} {base n : Nat} {xs : List Value} (h : RowS w v P) (hr : w.ownsRow base 37 2 u n xs) (hg : w.grownBy w' u.ownBlock) : RowS w' v P := by
  obtain ⟨a, cap, h1, h2, h3⟩ := h
  refine ⟨a, cap, h1, h2, fun k hk => ?_⟩
  obtain ⟨g, e, ⟨cur, hc⟩, c0⟩ := h3 k hk
  have hlt := (Array.getElem?_eq_some_iff.1 hc).1
  have hb := hg.block g hlt (str_ne hc hr)
  exact ⟨g, e, ⟨cur, hb.trans hc⟩, (World.cell?_of_block (w := w) (a := ⟨g, k, none⟩) hb).trans c0⟩

set_option maxHeartbeats 4000000 in
theorem refsplit_any (s : ByteArray) (c : UInt8) (w : World) (hs : s.size ≤ 100000) :
    Calls Tryd.prog 34 #[.string s, .int .u8 (c.toNat : Int)] w fun e w' => ∃ v, e = .returned v ∧ w'.ownsRow w.heap.size 9 1 v (splB c s.data.toList).length (strs (splB c s.data.toList)) ∧ Below w.heap.size w w' := by
  obtain ⟨i0, hi0, hz0, hz1, hz2⟩ := info_parts Tryd.info9
  have HSL : Hid ((splB c s.data.toList).length ≤ s.size + 1) := by unfold Hid; have := splB_len c s.data.toList; rw [size_list] at this; exact this
  go_enter Tryd.func34, Tryd.ntmps34
  go_wp2_with fail
  go_loopw [0, 5, 6, 7, 8] (fun vs vo _ _ _ wr => ∃ (t : ByteArray) (P : List (List UInt8)), vs = .string t ∧ t.size ≤ 100000 ∧ P.length ≤ 100001 ∧ wr.ownsRow w.heap.size 9 1 vo P.length (strs P) ∧ Below w.heap.size w wr ∧ Hid (P ++ splB c t.data.toList = splB c s.data.toList))
    (fun vs _ _ _ _ _ => match vs with | .string t => t.size | _ => 0)
  case atStart => exact ⟨s, [], rfl, hs, by simp, World.ownsRow_lit w #[] 0 (Nat.le_refl _) (by decide) rfl, one_alloc _ _ _, by simp [Hid]⟩
  case round =>
    obtain ⟨t, P, rfl, ht, hP, hown, hbr, hpa⟩ := hrel
    have hsz := hbr.size
    have hc := refcut_any t c wr (by omega)
    have hlen : P.length + (splB c t.data.toList).length ≤ s.size + 1 := by
      have h := HSL.out
      rw [← hpa.out, List.length_append] at h; exact h
    have hpos : 0 < (splB c t.data.toList).length := List.length_pos_iff.2 (splB_ne _ _)
    by_cases hm : atN c t.data.toList < t.data.toList.length
    · have hH : hasB c t = true := by unfold hasB; simpa using hm
      have hpa2 := hpa.out
      rw [splB_yes hm, take_atN] at hpa2
      have hal : (aftS c t).data.toList = t.data.toList.drop (atN c t.data.toList + 1) := by rw [← aft_ext, ext_drop]
      have hbl := befS_list c t
      have has : (aftS c t).size < t.size := by
        have h1 := size_list t
        have h2 := size_list (aftS c t)
        rw [hal, List.length_drop] at h2
        omega
      rw [← hal, ← hbl] at hpa2
      rw [hH] at hc
      obtain ⟨o, ho⟩ : ∃ o, befS c t = o := ⟨_, rfl⟩
      obtain ⟨u, hu⟩ : ∃ u, aftS c t = u := ⟨_, rfl⟩
      rw [ho] at hc hpa2
      rw [hu] at hc hpa2 has
      have HPA : Hid ((P ++ [o.data.toList]) ++ splB c u.data.toList = splB c s.data.toList) := by unfold Hid; rw [← hpa2]; simp
      have hos : o = bs o.data.toList := bs_of rfl
      obtain ⟨ol, hol⟩ : ∃ ol, o.data.toList = ol := ⟨_, rfl⟩
      rw [hol] at HPA hos
      subst hos
      clear hpa2 hal hbl ho hu hm hH hol hpa
      go_wp2_with fail
      refine hc.mono ?_
      rintro e w1 ⟨rfl, n1, rfl⟩
      have hb1 := below_drewN hbr n1
      have hown1 : (wr.drewN n1).ownsRow w.heap.size 9 1 _ P.length (strs P) := hown
      have hsz1 : w.heap.size ≤ (wr.drewN n1).heap.size := hsz
      generalize wr.drewN n1 = wq at hb1 hown1 hsz1 ⊢
      clear hc hown hbr hsz
      have hla := hb1.alloc hsz1 (.cells #[.string (bs ol)] 9)
      have hoa := hown1.alloc (.cells #[.string (bs ol)] 9)
      have h63 : P.length + 1 ≤ maxLen := maxLen_of (by omega)
      have hby : (P.length + 1) * 16 ≤ 140737488355328 := by omega
      have hba : w.heap.size ≤ (wq.alloc (.cells #[.string (bs ol)] 9)).heap.size := by simp; omega
      have hce : ∀ j u, [Value.string (bs ol)][j]? = some u → (wq.alloc (.cells #[.string (bs ol)] 9)).cell? ((⟨wq.heap.size, 0, none⟩ : Addr).add j) = some u := by
        intro j u hj
        rw [add_none, Nat.zero_add, World.cell?_alloc_new]
        simpa using hj
      have HX := hide (And.intro h63 (And.intro hby (And.intro hba (And.intro hce (And.intro hla hoa)))))
      clear h63 hby hba hce hla hoa hown1 hb1
      go_wp2_with (at_builtin; refine wpList_append_own _ rfl (.tmp 17) (.tmp 19) 33 rfl w.heap.size 9 i0 _ 1 16 Tryd.underlying33 hi0 hz0 hz1 hz2 rfl (by decide) _ _ _ rfl HX.out.2.2.2.2.2 ⟨wq.heap.size, 0, none⟩ 1 1 [.string (bs ol)] rfl rfl HX.out.2.2.2.1 (by intro u hu; simp at hu; subst hu; rfl) HX.out.1 HX.out.2.1 HX.out.2.2.1 ?_; intro v' w2 ho2 hg2 _)
      have hl2 := HX.out.2.2.2.2.1.grown hg2 HX.out.2.2.1 (fun j hj => (HX.out.2.2.2.2.2.lt j hj).1)
      refine ⟨⟨u, P ++ [ol], rfl, by omega, by simp; omega, ?_, hl2, HPA⟩, by show u.size < t.size; omega⟩
      rw [List.length_append, strs_append]; exact ho2
    · have hH : hasB c t = false := by unfold hasB; simpa using hm
      have hpa2 := hpa.out
      rw [splB_no hm] at hpa2
      rw [hH, bef_none hm, aft_none hm] at hc
      have HPA : Hid (splB c s.data.toList = P ++ [t.data.toList]) := hpa2.symm
      have hos : t = bs t.data.toList := bs_of rfl
      obtain ⟨ol, hol⟩ : ∃ ol, t.data.toList = ol := ⟨_, rfl⟩
      rw [hol] at HPA hos
      clear hpa2 hm hH hol hpa hlen hpos
      subst hos
      go_wp2_with fail
      refine hc.mono ?_
      rintro e w1 ⟨rfl, n1, rfl⟩
      have hb1 := below_drewN hbr n1
      have hown1 : (wr.drewN n1).ownsRow w.heap.size 9 1 _ P.length (strs P) := hown
      have hsz1 : w.heap.size ≤ (wr.drewN n1).heap.size := hsz
      generalize wr.drewN n1 = wq at hb1 hown1 hsz1 ⊢
      clear hc hown hbr hsz
      have hla := hb1.alloc hsz1 (.cells #[.string (bs ol)] 9)
      have hoa := hown1.alloc (.cells #[.string (bs ol)] 9)
      have h63 : P.length + 1 ≤ maxLen := maxLen_of (by omega)
      have hby : (P.length + 1) * 16 ≤ 140737488355328 := by omega
      have hba : w.heap.size ≤ (wq.alloc (.cells #[.string (bs ol)] 9)).heap.size := by simp; omega
      have hce : ∀ j u, [Value.string (bs ol)][j]? = some u → (wq.alloc (.cells #[.string (bs ol)] 9)).cell? ((⟨wq.heap.size, 0, none⟩ : Addr).add j) = some u := by
        intro j u hj
        rw [add_none, Nat.zero_add, World.cell?_alloc_new]
        simpa using hj
      have HX := hide (And.intro h63 (And.intro hby (And.intro hba (And.intro hce (And.intro hla hoa)))))
      clear h63 hby hba hce hla hoa hown1 hb1
      go_wp2_with (at_builtin; refine wpList_append_own _ rfl (.tmp 17) (.tmp 19) 33 rfl w.heap.size 9 i0 _ 1 16 Tryd.underlying33 hi0 hz0 hz1 hz2 rfl (by decide) _ _ _ rfl HX.out.2.2.2.2.2 ⟨wq.heap.size, 0, none⟩ 1 1 [.string (bs ol)] rfl rfl HX.out.2.2.2.1 (by intro u hu; simp at hu; subst hu; rfl) HX.out.1 HX.out.2.1 HX.out.2.2.1 ?_; intro v' w2 ho2 hg2 _)
      have hl2 := HX.out.2.2.2.2.1.grown hg2 HX.out.2.2.1 (fun j hj => (HX.out.2.2.2.2.2.lt j hj).1)
      go_ret
      refine ⟨_, rfl, ?_, hl2⟩
      rw [HPA.out, List.length_append, strs_append]; exact ho2

end Go.Proofs.YtgnpeggffeoenaaDoor
