/- The walks of what keeps names in a map, and asks whether one is there. -/
import Derived.Test.YtojoidhjlbcijaaDoorCa
import Derived.Maps.OwnSet
import Derived.Maps.OwnIn
import Derived.Maps.Views
import Derived.StringKeys
namespace Go.Proofs.YtojoidhjlbcijaaDoor
set_option linter.unusedVariables false
set_option linter.unusedSimpArgs false
set_option maxRecDepth 100000
open Go.RowKit Go.Maps

theorem law9 : Keyed Tryd.prog 9 := string_keyed Tryd.underlying9
theorem zero59 (w : World) : (zeroValue 59).run Tryd.prog w = .ok (.agg #[]) w := by kernel_rfl
theorem key9 {s : ByteArray} (h : s.size ≤ 1000000) : keyOf Tryd.prog 9 (.string s) = some (.string s.data.toList) := Go.WideMaps.keyOf_string_mk Tryd.underlying9 (maxLen_of (by omega))

/-- What a map of names holds. -/
def setW (ws : List (List UInt8)) : DataW Unit := setOf (.agg []) (ws.map fun p => .string p)
theorem setW_nil : setW [] = .map [] := rfl
theorem setW_snoc (ws : List (List UInt8)) (x : List UInt8) : setW (ws ++ [x]) = (setW ws).put (.string x) (.agg []) := by
  unfold setW setOf; rw [List.map_append, List.foldl_append]; rfl
theorem setW_has (ws : List (List UInt8)) (l : List UInt8) : has (setW ws) (.string l) = decide (l ∈ ws) := by
  unfold setW
  rw [has_setOf _ _ _ (fun x hx => by obtain ⟨p, _, rfl⟩ := List.mem_map.1 hx; trivial)]
  rw [Bool.eq_iff_iff, List.any_eq_true, decide_eq_true_eq]
  constructor
  · rintro ⟨x, hx, h⟩
    obtain ⟨p, hp, rfl⟩ := List.mem_map.1 hx
    have : p = l := by simpa [Lit.sameKey] using h
    exact this ▸ hp
  · intro h
    exact ⟨_, List.mem_map.2 ⟨l, h, rfl⟩, by simp [Lit.sameKey]⟩
/-- A map of names. -/
def OwnM (w : World) (B n : Nat) (ws : List (List UInt8)) : Prop := w.ownsMap Tryd.prog 9 (unitElem (H := Unit)) B n (setW ws)

set_option maxHeartbeats 1000000 in
theorem names_add (s : ByteArray) (B n : Nat) (ws : List (List UInt8)) (w : World) (hs : s.size ≤ 1000000) (hn : n ≤ 1000000) (hm : OwnM w B n ws) :
    Calls Tryd.prog 41 #[.map (some B), .string s] w fun e w' => e = .returned (.tuple #[]) ∧ OwnM w' B (n + 1) (ws ++ [lowL s.data.toList]) ∧ w.grownBy w' (some B) := by
  have hky := key9 (s := lowS s) (by rw [lowS_size]; exact hs)
  rw [lowS_list] at hky
  have HS := hide (setW_snoc ws (lowL s.data.toList))
  have hmx : n < maxLen := by unfold maxLen; omega
  unfold OwnM at *
  generalize lowL s.data.toList = p at *
  generalize setW ws = D at *
  have HM := hide hm
  clear hm
  go_enter Tryd.func41, Tryd.ntmps41
  go_wp2_with fail
  refine (lower_any s w hs).mono ?_
  rintro e w1 ⟨rfl, hb1⟩
  have hm1 := HM.out.kept (below_grown hb1 none) (by simp)
  have hg1 := below_grown hb1 (some B)
  generalize lowS s = z at *
  go_wp2_with (at_mapUpdate; refine wpList_mapUpdate_own _ rfl _ _ _ 45 rfl 9 59 law9 Tryd.underlying45 (unitElem (H := Unit)) B n D rfl hm1 hmx _ _ _ rfl rfl hky _ [] unitElem_mk ?_; intro w5 hown5 hgrow5)
  refine bodyPost_end (v := .tuple #[]) (results_none rfl _ _ _) rfl ?_
  exact ⟨rfl, by rw [HS.out]; exact hown5, hg1.trans hgrow5⟩

set_option maxHeartbeats 1000000 in
theorem names_has (s : ByteArray) (B n : Nat) (ws : List (List UInt8)) (w : World) (hs : s.size ≤ 1000000) (hm : OwnM w B n ws) :
    Calls Tryd.prog 25 #[.map (some B), .string s] w fun e w' => e = .returned (.bool (decide (lowL s.data.toList ∈ ws))) ∧ Below w.heap.size w w' := by
  have hky := key9 (s := lowS s) (by rw [lowS_size]; exact hs)
  rw [lowS_list] at hky
  have HH := hide (setW_has ws (lowL s.data.toList))
  unfold OwnM at hm
  generalize lowL s.data.toList = p at *
  generalize decide (p ∈ ws) = b at *
  generalize setW ws = D at *
  have HM := hide hm
  clear hm
  go_enter Tryd.func25, Tryd.ntmps25
  go_wp2_with fail
  refine (lower_any s w hs).mono ?_
  rintro e w1 ⟨rfl, hb1⟩
  have hm1 := HM.out.kept (below_grown hb1 none) (by simp)
  generalize lowS s = z at *
  cases b
  · go_wp2_with (at_lookup; refine wpList_lookup_own_unit _ rfl _ _ 45 rfl 9 59 law9 Tryd.underlying45 (zero59 _) B n D rfl hm1 _ _ rfl hky ?_; rw [HH.out])
    go_ret
    exact ⟨rfl, hb1.alloc hb1.size _⟩
  · go_wp2_with (at_lookup; refine wpList_lookup_own_unit _ rfl _ _ 45 rfl 9 59 law9 Tryd.underlying45 (zero59 _) B n D rfl hm1 _ _ rfl hky ?_; rw [HH.out])
    go_ret
    exact ⟨rfl, hb1.alloc hb1.size _⟩

end Go.Proofs.YtojoidhjlbcijaaDoor
