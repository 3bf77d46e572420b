/- The walks of the library's putting of a field in between: into a new row, and at the end. -/
import Derived.Test.YtojoidhjlbcijaaDoorWt
namespace Go.Proofs.YtojoidhjlbcijaaDoor
set_option linter.unusedVariables false
set_option linter.unusedSimpArgs false
set_option maxRecDepth 100000
open Go.RowKit

set_option maxHeartbeats 4000000 in
set_option maxRecDepth 100000 in
theorem insert_grow (D : List Fd) (i g vb base : Nat) (R : List Value) (x : Fd) (w : World) (hl : D.length ≤ 1000000) (hi : i < D.length) (hg : w.heap[g]? = some (.cells (fcells D ++ R).toArray 39 (0, 0)))
    (hbase : base ≤ w.heap.size) (hv : w.heap[vb]? = some (.cells #[.string x.1, .string x.2] 39 (0, 0))) :
    Calls Tryd.prog 46 #[.slice (some ⟨g, 0, none⟩) D.length D.length, .int .i64 i, .slice (some ⟨vb, 0, none⟩) 1 1] w fun e w' => ∃ r, e = .returned r ∧ Own w' base r (insF i x D) ∧ Below base w w' := by
  obtain ⟨i0, hi0, hz0, hz1, hz2⟩ := info_parts Tryd.info25
  have hA : (fcells (D.take i)).length = i * 2 := by rw [fcells_length, List.length_take, Nat.min_eq_left (by omega)]
  have hB : (fcells (D.drop i)).length = (D.length - i) * 2 := by rw [fcells_length, List.length_drop]
  have hCut : fcells D ++ R = fcells (D.take i) ++ (fcells (D.drop i) ++ R) := by rw [fcells_cut D i, List.append_assoc]
  have hmax : maxLen ≤ 9223372036854775807 := by unfold maxLen; omega
  have hgw : g < w.heap.size := (Array.getElem?_eq_some_iff.1 hg).1
  have hvw : vb < w.heap.size := (Array.getElem?_eq_some_iff.1 hv).1
  obtain ⟨n, hn⟩ : ∃ n, D.length = n := ⟨_, rfl⟩
  obtain ⟨N, hN⟩ : ∃ N, w.heap.size = N := ⟨_, rfl⟩
  rw [hn] at hi hl
  have hsrc0 : ∀ (W : World), W.heap[g]? = some (.cells (fcells D ++ R).toArray 39 (0, 0)) → ∀ j v, (fcells (D.take i))[j]? = some v → W.cell? ((⟨g, 0, none⟩ : Addr).add j) = some v := by
    intro W hW j v hj
    have hjl := (List.getElem?_eq_some_iff.1 hj).1
    rw [add_none, Nat.zero_add, cells_row hW, hCut, List.getElem?_append_left hjl, hj]
  have hsrc1 : ∀ (W : World), W.heap[g]? = some (.cells (fcells D ++ R).toArray 39 (0, 0)) → ∀ j v, (fcells (D.drop i))[j]? = some v → W.cell? ((⟨g, i * 2, none⟩ : Addr).add j) = some v := by
    intro W hW j v hj
    have hjl := (List.getElem?_eq_some_iff.1 hj).1
    rw [add_none, cells_row hW, hCut, List.getElem?_append_right (by omega), hA, show i * 2 + j - i * 2 = j by omega, List.getElem?_append_left hjl, hj]
  have hsrc2 : ∀ (W : World), W.heap[vb]? = some (.cells #[.string x.1, .string x.2] 39 (0, 0)) → ∀ j v, [Value.string x.1, .string x.2][j]? = some v → W.cell? ((⟨vb, 0, none⟩ : Addr).add j) = some v := by
    intro W hW j v hj
    rw [add_none, Nat.zero_add, cell_of_row W vb j _ 39 (0, 0) hW]
    simpa using hj
  have hold : (Builtin.firstCells i0.size i (.slice (some ⟨g, 0, none⟩) i n)).run Tryd.prog w.drew = .ok (fcells (D.take i)).toArray w.drew := by
    have h := run_loadCells_list (P := Tryd.prog) w.drew ⟨g, 0, none⟩ (fcells (D.take i)) (hsrc0 w.drew hg)
    rw [hA] at h
    rw [hz1]
    exact h
  have hkk : (n : Int) + 1 - (i : Int) = ((n + 1 - i : Nat) : Int) := by omega
  have hik : i + (n + 1 - i) = n + 1 := by omega
  obtain ⟨G, hG⟩ : ∃ G, grownCap w (n + 1) n 39 = G := ⟨_, rfl⟩
  have hge : n + 1 ≤ G := by rw [← hG]; exact grownCap_ge w _ _ _
  have hle : G ≤ maxLen := by rw [← hG]; exact grownCap_le_maxLen w (n + 1) n 39 (maxLen_of (by omega))
  obtain ⟨Z, hZ⟩ : ∃ Z : List Value, (Builtin.zeroCells (Value.agg #[.string ⟨#[]⟩, .string ⟨#[]⟩]).cells (n + 1 - i) ++ Builtin.zeroCells (Value.agg #[.string ⟨#[]⟩, .string ⟨#[]⟩]).cells (G - (n + 1))).toList = Z := ⟨_, rfl⟩
  have hZl : Z.length = (G - i) * 2 := by
    rw [← hZ]; simp [Builtin.zeroCells, Value.cells]; omega
  obtain ⟨W1, hW1⟩ : ∃ W1, W1 = w.drew.alloc (.cells (fcells (D.take i) ++ Z).toArray 39) := ⟨_, rfl⟩
  have hrz : ∀ ty, (Builtin.append_ #[24, 3] ty #[.slice (some ⟨g, 0, none⟩) i n, .int .i64 ((n : Int) + 1 - (i : Int))]).run Tryd.prog w = .ok (.slice (some ⟨N, 0, none⟩) (n + 1) G) W1 := fun ty => by
    have h := Lib.run_append_grow_zeros w 24 3 ty 39 i0 _ .i64 .i64 Tryd.underlying24 Tryd.underlying3 hi0 hz0 (some ⟨g, 0, none⟩) i n (fcells (D.take i)) hold (n + 1 - i) (by omega) (by omega) (by omega) (by omega) (by rw [hz2]; omega) (by rw [hz2, hik]; exact growslice_fits (by omega) (by omega))
    rw [hik, hG, hN] at h
    have e : (fcells (D.take i)).toArray ++ Builtin.zeroCells (Value.agg #[.string ⟨#[]⟩, .string ⟨#[]⟩]).cells (n + 1 - i) ++ Builtin.zeroCells (Value.agg #[.string ⟨#[]⟩, .string ⟨#[]⟩]).cells (G - (n + 1)) = (fcells (D.take i) ++ Z).toArray := by
      apply Array.ext'
      rw [← hZ]
      simp
    rw [hkk, h, hW1, e]
  have hg1 : W1.heap[N]? = some (.cells (fcells (D.take i) ++ Z).toArray 39 (0, 0)) := by rw [hW1, ← hN]; exact heap_alloc_new w.drew _
  have hl1 : (fcells (D.take i) ++ Z).length = G * 2 := by rw [List.length_append, hA, hZl]; omega
  have hb1 : Below base w W1 := by rw [hW1]; exact (Below.refl _ _).drew.alloc hbase _
  have hgo1 : W1.heap[g]? = some (.cells (fcells D ++ R).toArray 39 (0, 0)) := by rw [hW1, Below.heap_alloc w.drew _ g hgw]; exact hg
  have hvo1 : W1.heap[vb]? = some (.cells #[.string x.1, .string x.2] 39 (0, 0)) := by rw [hW1, Below.heap_alloc w.drew _ vb hvw]; exact hv
  obtain ⟨W2, hW2⟩ : ∃ W2, W2 = W1.setRow N (splice (fcells (D.take i) ++ Z) (i * 2) [.string x.1, .string x.2]).toArray := ⟨_, rfl⟩
  have hcA : (Builtin.copy_ #[24, 24] 3 #[.slice (some ⟨N, i * 2, none⟩) (n + 1 - i) (G - i), .slice (some ⟨vb, 0, none⟩) 1 1]).run Tryd.prog W1 = .ok (goInt (Nat.min 1 (n + 1 - i))) W2 := by
    rw [hW2]
    refine run_copy2 W1 3 N _ _ _ ⟨vb, 0, none⟩ _ 1 _ 39 [.string x.1, .string x.2] hg1 ?_ (hsrc2 W1 hvo1) ?_ (fst_one x)
    · simp only [Nat.min_def]; split
      · rfl
      · omega
    · rw [hl1]; simp; omega
  have hg2 : W2.heap[N]? = some (.cells (splice (fcells (D.take i) ++ Z) (i * 2) [.string x.1, .string x.2]).toArray 39 (0, 0)) := by rw [hW2]; exact setRow_heap W1 N _ _ 39 _ hg1
  have hl2 : (splice (fcells (D.take i) ++ Z) (i * 2) [Value.string x.1, .string x.2]).length = G * 2 := by rw [length_splice _ _ _ (by rw [hl1]; simp; omega), hl1]
  have hgo2 : W2.heap[g]? = some (.cells (fcells D ++ R).toArray 39 (0, 0)) := by rw [hW2, setRow_other _ _ _ _ (by omega)]; exact hgo1
  have hb2 : Below base w W2 := by rw [hW2]; exact below_setRow hb1 (by omega) _
  obtain ⟨W3, hW3⟩ : ∃ W3, W3 = W2.drew.setRow N (splice (splice (fcells (D.take i) ++ Z) (i * 2) [.string x.1, .string x.2]) ((i + 1) * 2) (fcells (D.drop i))).toArray := ⟨_, rfl⟩
  have hcB : (Builtin.copy_ #[24, 24] 3 #[.slice (some ⟨N, (i + 1) * 2, none⟩) (n - i) (G - (i + 1)), .slice (some ⟨g, i * 2, none⟩) (n - i) (n - i)]).run Tryd.prog W2.drew = .ok (goInt (Nat.min (n - i) (n - i))) W3 := by
    rw [hW3]
    refine run_copy2 W2.drew 3 N _ _ _ ⟨g, i * 2, none⟩ _ (n - i) _ 39 (fcells (D.drop i)) hg2 ?_ (hsrc1 W2.drew hgo2) ?_ (fcells_one _)
    · rw [hB, hn]; simp only [Nat.min_def]; split <;> omega
    · rw [hl2, hB, hn]; omega
  have hfin : Own W3 base (.slice (some ⟨N, 0, none⟩) (n + 1) G) (insF i x D) ∧ Below base w W3 := by
    rw [hW3]
    refine ⟨⟨fcells_length _, Or.inr ⟨N, G, _, ?_, by omega, setRow_heap W2.drew N _ _ 39 _ hg2, ?_, hle, ?_, ?_⟩⟩, below_setRow hb2.drew (by omega) _⟩
    · rw [insF_length (by omega), hn]
    · rw [insF_length (by omega)]; omega
    · rw [List.size_toArray, length_splice _ _ _ (by rw [hl2, hB, hn]; omega), hl2]
    · have hs := splice_new (fcells (D.take i)) (fcells (D.drop i)) Z [Value.string x.1, .string x.2] rfl (by rw [hB, hZl]; omega)
      rw [hA, hB, show i * 2 + 2 = (i + 1) * 2 by omega] at hs
      rw [insF_length (by omega), insF_cells, ← hs]
      simp only
      congr 1
      omega
  rw [hn]
  have HX := hide (And.intro hcB hfin)
  clear hA hB hCut hsrc0 hsrc1 hsrc2 hold hkk hik hG hZ hZl hW1 hg1 hl1 hb1 hgo1 hvo1 hW2 hg2 hl2 hgo2 hb2 hW3 hcB hfin hg hv hz0 hz1 hz2 hi0 hN
  have hz2 : ¬ ((i : Int) = (n : Int)) := by omega
  have hw1 : IntKind.i64.wrap ((i : Int) + 1) = (i : Int) + 1 := i64_wrap_id _ (by omega) (by omega)
  have hbb1 : (0 : Int) ≤ (i : Int) + 1 := by omega
  have hin : i ≤ n := by omega
  have htn : ((i : Int) + 1).toNat = i + 1 := by omega
  have hb2 : ¬ (G = i + 1) := by omega
  have hb3 : (i : Int) ≤ (n : Int) + 1 := by omega
  have hb4 : ¬ (n = i) := by omega
  have hb5 : ¬ (G = i) := by omega
  have mixed : Tryd.prog.follows Departure.mixedOrders = true := by kernel_rfl
  go_enter Tryd.func46, Tryd.ntmps46
  go_wp2_with (at_builtin; refine Lib.wpList_append_run _ rfl _ _ _ _ rfl _ _ rfl rfl _ _ (hrz _) ?_)
  go_region_law_o (refine step_copy_runI rfl (.tmp 50) (.tmp 53) 24 24 rfl (.slice (some ⟨N, (i + 1) * 2, none⟩) (n - i) (G - (i + 1))) (.slice (some ⟨g, i * 2, none⟩) (n - i) (n - i)) (by simp [Act.eval, Act.put]) (by simp [Act.eval, Act.put]) HX.out.1 ?_)
  go_wp2_with fail
  go_ret
  exact ⟨_, rfl, HX.out.2⟩

set_option maxHeartbeats 2000000 in
theorem insert_end (D : List Fd) (v : Value) (vb base : Nat) (x : Fd) (w : World) (hl : D.length ≤ 1000) (ho : Own w base v D) (hbase : base ≤ w.heap.size) (hv : w.heap[vb]? = some (.cells #[.string x.1, .string x.2] 39 (0, 0))) :
    Calls Tryd.prog 46 #[v, .int .i64 (D.length : Int), .slice (some ⟨vb, 0, none⟩) 1 1] w fun e w' => ∃ r, e = .returned r ∧ Own w' base r (D ++ [x]) ∧ Below base w w' := by
  have hrow : Row w (.slice (some ⟨vb, 0, none⟩) 1 1) [x] := by
    refine ⟨some ⟨vb, 0, none⟩, 1, rfl, Nat.le_refl _, fun k hk => ⟨vb, 0, rfl, (Array.getElem?_eq_some_iff.1 hv).1, ?_, ?_⟩⟩
    · obtain rfl : k = 0 := by simp at hk; omega
      rw [cell_of_row w vb _ _ 39 (0, 0) hv]; rfl
    · obtain rfl : k = 0 := by simp at hk; omega
      rw [cell_of_row w vb _ _ 39 (0, 0) hv]; rfl
  have HX := hide (And.intro ho (And.intro hrow (And.intro hbase hl)))
  have hmax : maxLen ≤ 9223372036854775807 := by unfold maxLen; omega
  rcases ho.2 with ⟨rfl, h0⟩ | ⟨g, cap, cur, rfl, h2, h3, h4, h5, h6, h7⟩
  · obtain rfl : D = [] := List.eq_nil_of_length_eq_zero h0
    clear ho hrow hv h0
    go_enter Tryd.func46, Tryd.ntmps46
    go_wp2_with (at_builtin; refine wpList_append_Row rfl (.tmp 23) (.tmp 24) rfl base (.slice none 0 0) _ [] [x] rfl rfl HX.out.1 HX.out.2.1 (by simp) HX.out.2.2.1 ?_; intro v' w2 ho2 hg2)
    go_ret
    exact ⟨_, rfl, ho2, (Below.refl _ _).grown hg2 HX.out.2.2.1 (own_block HX.out.1)⟩
  · clear ho hrow hv h3 h6 h7
    obtain ⟨n, hn⟩ : ∃ n, D.length = n := ⟨_, rfl⟩
    have HN := hide hn
    rw [hn] at h4 hl HX ⊢
    clear hn
    by_cases hcn : cap = n
    · subst hcn
      go_enter Tryd.func46, Tryd.ntmps46
      go_wp2_with (at_builtin; refine wpList_append_Row rfl (.tmp 23) (.tmp 24) rfl base (.slice (some ⟨g, 0, none⟩) cap cap) _ D [x] rfl rfl HX.out.1 HX.out.2.1 (by rw [HN.out]; simp; omega) HX.out.2.2.1 ?_; intro v' w2 ho2 hg2)
      go_ret
      exact ⟨_, rfl, ho2, (Below.refl _ _).grown hg2 HX.out.2.2.1 (own_block HX.out.1)⟩
    · go_enter Tryd.func46, Tryd.ntmps46
      go_wp2_with (at_builtin; refine wpList_append_Row rfl (.tmp 23) (.tmp 24) rfl base (.slice (some ⟨g, 0, none⟩) n cap) _ D [x] rfl rfl HX.out.1 HX.out.2.1 (by rw [HN.out]; simp; omega) HX.out.2.2.1 ?_; intro v' w2 ho2 hg2)
      go_ret
      exact ⟨_, rfl, ho2, (Below.refl _ _).grown hg2 HX.out.2.2.1 (own_block HX.out.1)⟩

theorem insert_any (D : List Fd) (v : Value) (i vb base : Nat) (x : Fd) (w : World) (hl : D.length ≤ 1000) (hi : i ≤ D.length) (ho : Own w base v D) (hbase : base ≤ w.heap.size) (hne : v.ownBlock ≠ some vb) (hv : w.heap[vb]? = some (.cells #[.string x.1, .string x.2] 39 (0, 0))) :
    Calls Tryd.prog 46 #[v, .int .i64 (i : Int), .slice (some ⟨vb, 0, none⟩) 1 1] w fun e w' => ∃ r, e = .returned r ∧ Own w' base r (insF i x D) ∧ Below base w w' := by
  by_cases he : i = D.length
  · subst he
    have := insert_end D v vb base x w hl ho hbase hv
    unfold insF
    rw [List.take_length, List.drop_length]
    exact this
  · obtain ⟨g, cap, R, rfl, h1, h2, h3, h4, h5⟩ := own_parts ho (by omega)
    by_cases hr : D.length + 1 ≤ cap
    · exact insert_shift D i g cap vb base R x w (by omega) (by omega) hr h4 h2 h5 h1 (fun e => hne (by rw [e]; rfl)) hv
    · obtain rfl : cap = D.length := by omega
      exact insert_grow D i g vb base R x w (by omega) (by omega) h2 hbase hv

end Go.Proofs.YtojoidhjlbcijaaDoor
