/- The walk of what tells whether a language is taken, and keeps it in the set. -/
import Derived.Test.YtgnpeggffeoenaaDoorPc
import Derived.Test.YtgnpeggffeoenaaDoorWh
import Derived.Maps.OwnSet
import Derived.Maps.OwnIn
import Derived.Maps.Views
import Derived.StringKeys
namespace Go.Proofs.YtgnpeggffeoenaaDoor
set_option linter.unusedVariables false
set_option linter.unusedSimpArgs false
open Go.RowKit Go.Maps

theorem law9 : Keyed Tryd.prog 9 := string_keyed Tryd.underlying9
theorem zero59 (w : World) : (zeroValue 59).run Tryd.prog w = .ok (.agg #[]) w := by kernel_rfl
theorem key9 {s : ByteArray} (h : s.size ≤ 10000) : keyOf Tryd.prog 9 (.string s) = some (.string s.data.toList) := Go.WideMaps.keyOf_string_mk Tryd.underlying9 (maxLen_of (by omega))
theorem below_grown {w w' : World} (h : Below w.heap.size w w') (r : Option Nat) : w.grownBy w' r := ⟨h.os, h.tape, h.output, h.size, fun k hk _ => h.block k hk⟩
theorem low_bs (x : List UInt8) : lowS (bs x) = bs (lowL x) := by unfold lowS; rw [bs_list]; rfl
theorem lP_le (x : List UInt8) : (lP x).length ≤ x.length := by
  unfold lP
  rw [lowL_length]
  have h1 := trimL_le (bfL 59 x)
  have h2 := bf_le 59 x
  omega

set_option maxRecDepth 100000 in
set_option maxHeartbeats 2000000 in
theorem lang1_any (x : List UInt8) (S B n : Nat) (D : DataW Unit) (w : World) (hx : x.length ≤ 10000) (hS : w.cell? ⟨S, 0, none⟩ = some (.map (some B))) (hn : n ≤ 100000) (hm : w.ownsMap Tryd.prog 9 unitElem B n D) (hne : S ≠ B) :
    Calls Tryd.prog 44 #[.string (bs x), .pointer (some ⟨S, 0, none⟩)] w fun e w' => e = .returned (.tuple #[.string (bs (lP x)), .bool (!(lP x).isEmpty && !has D (.string (lP x)))]) ∧ w'.ownsMap Tryd.prog 9 unitElem B (n + 1) (D.put (.string (lP x)) (.agg [])) ∧ w.grownBy w' (some B) := by
  have hSl := block_lt_of_cell (a := ⟨S, 0, none⟩) hS
  have hcu := cut_any (bs x) 59 w (by rw [bs_size]; omega)
  rw [bef_bs, aft_bs, has_bs] at hcu
  have h1 := bf_le 59 x
  have h2 := trimL_le (bfL 59 x)
  have hp1 := fun W => trim_any (bs (bfL 59 x)) W (by rw [bs_size]; omega)
  rw [trim_bs] at hp1
  have hp2 := fun W => lower_any (bs (trimL (bfL 59 x))) W (by rw [bs_size]; omega)
  rw [low_bs] at hp2
  have hP : bs (lowL (trimL (bfL 59 x))) = bs (lP x) := rfl
  rw [hP] at hp2
  have hlp := lP_le x
  have hky := key9 (s := bs (lP x)) (by rw [bs_size]; omega)
  rw [bs_list] at hky
  have hem := bs_empty (lP x)
  have HP1 := hide hp1
  have HP2 := hide hp2
  clear hp1 hp2 hP h1 h2
  generalize lP x = p at *
  generalize bs (bfL 59 x) = y1 at *
  generalize bs (afL 59 x) = y2 at *
  generalize bs (trimL (bfL 59 x)) = y3 at *
  generalize hvL 59 x = hv at *
  generalize bs p = z at *
  have hmx : n < maxLen := by unfold maxLen; omega
  go_enter Tryd.func44, Tryd.ntmps44
  go_wp2_with fail
  refine hcu.mono ?_
  rintro e w1 ⟨rfl, n1, rfl⟩
  go_wp2_with fail
  refine (HP1.out _).mono ?_
  rintro e w2 ⟨rfl, hb2⟩
  go_wp2_with fail
  refine (HP2.out _).mono ?_
  rintro e w3 ⟨rfl, hb3⟩
  have hb23 : Below w.heap.size w w3 := by
    have h := (below_drewN (Below.refl w.heap.size w) n1).trans (hb2.mono (Nat.le_refl _))
    exact h.trans (hb3.mono h.size)
  have hm3 := hm.kept (below_grown hb23 none) (by simp)
  have hS3 := ((stays hb23).1 S 0 hSl).trans hS
  have hg3 := below_grown hb23 (some B)
  have hSa : (w3.alloc (.cells #[] 59)).cell? ⟨S, 0, none⟩ = some (.map (some B)) := ((stays (one_alloc w3 #[] 59)).1 S 0 (Nat.lt_of_lt_of_le hSl hb23.size)).trans hS3
  have HE : Hid (z.toList.isEmpty = p.isEmpty) := hem
  clear hb2 hb3 hb23 hm hS hcu HP1 HP2 hem
  have HM3 := hide hm3
  have HG3 := hide hg3
  clear hm3 hg3
  cases hz : z.toList.isEmpty with
  | true =>
    have HE2 : Hid (p.isEmpty = true) := by unfold Hid; rw [← HE.out, hz]
    cases hh : has D (.string p) with
    | true =>
      have HH := hide hh
      clear hh
      go_wp2_with (first
        | (at_lookup; refine wpList_lookup_own_unit _ rfl _ _ 57 rfl 9 59 law9 Tryd.underlying57 (zero59 _) B n D rfl HM3.out _ _ rfl hky ?_; rw [HH.out])
        | (at_mapUpdate; refine wpList_mapUpdate_own _ rfl _ _ _ 57 rfl 9 59 law9 Tryd.underlying57 (unitElem (H := Unit)) B n D rfl (HM3.out.alloc _) hmx _ _ _ rfl rfl hky _ [] unitElem_mk ?_; intro w5 hown5 hgrow5))
      go_ret2
      exact ⟨by rw [HE2.out, HH.out]; rfl, hown5, (HG3.out.trans (World.grownBy_alloc w3 _ _)).trans hgrow5⟩
    | false =>
      have HH := hide hh
      clear hh
      go_wp2_with (first
        | (at_lookup; refine wpList_lookup_own_unit _ rfl _ _ 57 rfl 9 59 law9 Tryd.underlying57 (zero59 _) B n D rfl HM3.out _ _ rfl hky ?_; rw [HH.out])
        | (at_mapUpdate; refine wpList_mapUpdate_own _ rfl _ _ _ 57 rfl 9 59 law9 Tryd.underlying57 (unitElem (H := Unit)) B n D rfl (HM3.out.alloc _) hmx _ _ _ rfl rfl hky _ [] unitElem_mk ?_; intro w5 hown5 hgrow5))
      go_ret2
      exact ⟨by rw [HE2.out, HH.out]; rfl, hown5, (HG3.out.trans (World.grownBy_alloc w3 _ _)).trans hgrow5⟩
  | false =>
    have HE2 : Hid (p.isEmpty = false) := by unfold Hid; rw [← HE.out, hz]
    cases hh : has D (.string p) with
    | true =>
      have HH := hide hh
      clear hh
      go_wp2_with (first
        | (at_lookup; refine wpList_lookup_own_unit _ rfl _ _ 57 rfl 9 59 law9 Tryd.underlying57 (zero59 _) B n D rfl HM3.out _ _ rfl hky ?_; rw [HH.out])
        | (at_mapUpdate; refine wpList_mapUpdate_own _ rfl _ _ _ 57 rfl 9 59 law9 Tryd.underlying57 (unitElem (H := Unit)) B n D rfl (HM3.out.alloc _) hmx _ _ _ rfl rfl hky _ [] unitElem_mk ?_; intro w5 hown5 hgrow5))
      go_ret2
      exact ⟨by rw [HE2.out, HH.out]; rfl, hown5, (HG3.out.trans (World.grownBy_alloc w3 _ _)).trans hgrow5⟩
    | false =>
      have HH := hide hh
      clear hh
      go_wp2_with (first
        | (at_lookup; refine wpList_lookup_own_unit _ rfl _ _ 57 rfl 9 59 law9 Tryd.underlying57 (zero59 _) B n D rfl HM3.out _ _ rfl hky ?_; rw [HH.out])
        | (at_mapUpdate; refine wpList_mapUpdate_own _ rfl _ _ _ 57 rfl 9 59 law9 Tryd.underlying57 (unitElem (H := Unit)) B n D rfl (HM3.out.alloc _) hmx _ _ _ rfl rfl hky _ [] unitElem_mk ?_; intro w5 hown5 hgrow5))
      go_ret2
      exact ⟨by rw [HE2.out, HH.out]; rfl, hown5, (HG3.out.trans (World.grownBy_alloc w3 _ _)).trans hgrow5⟩

end Go.Proofs.YtgnpeggffeoenaaDoor
