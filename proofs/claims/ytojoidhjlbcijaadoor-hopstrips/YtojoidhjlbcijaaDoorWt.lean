/- The walks of the library's putting of a field in between. -/
import Derived.Test.YtojoidhjlbcijaaDoorWs
import Derived.Laws.CopyRow
import Derived.Laws.CopyOwn
import Derived.Lib.Overlaps
import Derived.Shelf.RegionOpenPlain
import Derived.Lib.Walk
import Derived.Shelf.Spec.SlicesInsert
namespace Go.Proofs.YtojoidhjlbcijaaDoor
set_option linter.unusedVariables false
set_option linter.unusedSimpArgs false
set_option maxRecDepth 100000
open Go.RowKit

/-- Cells of fields are copied into a row. -/
theorem run_copy2 (w : World) (ty : TypeId) (g o dLen dCap : Nat) (a : Addr) (sLen sCap : Nat) (cur : List Value) (t : TypeId) (cs : List Value)
    (hg : w.heap[g]? = some (.cells cur.toArray t (0, 0))) (hn : cs.length = Nat.min sLen dLen * 2)
    (hsrc : ∀ j v, cs[j]? = some v → w.cell? (a.add j) = some v) (hfit : o + cs.length ≤ cur.length) (h1 : ∀ v ∈ cs, v.oneCell' = true) :
    (Builtin.copy_ #[24, 24] ty #[.slice (some ⟨g, o, none⟩) dLen dCap, .slice (some a) sLen sCap]).run Tryd.prog w =
      .ok (goInt (Nat.min sLen dLen)) (w.setRow g (splice cur o cs).toArray) := by
  obtain ⟨i0, hi0, hz0, hz1, hz2⟩ := info_parts Tryd.info25
  have hl := run_loadCells_list (P := Tryd.prog) w a cs hsrc
  have hst := run_storeCells_at Tryd.prog g o t cs 0 cur.toArray w hg (by simpa using hfit) h1
  simp [Builtin.copy_, run_underlying Tryd.underlying24, Builtin.lenOf, Builtin.firstCells, sizeOf, typeInfo, hi0, hz1, ← hn, hl, hst, splice]

/-- A field in between. -/
def insF (i : Nat) (x : Fd) (D : List Fd) : List Fd := D.take i ++ x :: D.drop i
theorem insF_length {i : Nat} {x : Fd} {D : List Fd} (h : i ≤ D.length) : (insF i x D).length = D.length + 1 := by
  simp [insF]; omega
theorem insF_cells (i : Nat) (x : Fd) (D : List Fd) : fcells (insF i x D) = fcells (D.take i) ++ ([.string x.1, .string x.2] ++ fcells (D.drop i)) := by
  unfold insF
  rw [fcells_append]; rfl
theorem fcells_cut (D : List Fd) (i : Nat) : fcells D = fcells (D.take i) ++ fcells (D.drop i) := by
  rw [← fcells_append, List.take_append_drop]

/-- The cells of a row that was shifted, and of a new one. -/
theorem splice_shift {α : Type} (A B R X : List α) (hX : X.length = 2) (hR : 2 ≤ R.length) :
    (splice (splice (A ++ (B ++ R)) (A.length + 2) B) A.length X).take (A.length + 2 + B.length) = A ++ (X ++ B) := by
  have hl : ((A ++ (B ++ R)).take (A.length + 2)).length = A.length + 2 := by simp; omega
  have h1 : (splice (A ++ (B ++ R)) (A.length + 2) B).take A.length = A := by
    unfold splice
    rw [List.take_append_of_le_length (by omega), List.take_take, Nat.min_eq_left (by omega)]
    simp
  have h2 : (splice (A ++ (B ++ R)) (A.length + 2) B).drop (A.length + 2) = B ++ (A ++ (B ++ R)).drop (A.length + 2 + B.length) := by
    unfold splice
    exact List.drop_left' hl
  rw [splice, hX, h1, h2, ← List.append_assoc, ← List.append_assoc]
  rw [List.take_left' (by simp; omega)]
  simp
theorem splice_new {α : Type} (A B Z X : List α) (hX : X.length = 2) (hZ : 2 + B.length ≤ Z.length) :
    (splice (splice (A ++ Z) A.length X) (A.length + 2) B).take (A.length + 2 + B.length) = A ++ (X ++ B) := by
  have h1 : (splice (A ++ Z) A.length X).take (A.length + 2) = A ++ X := by
    unfold splice
    rw [List.take_left' rfl, ← List.append_assoc]
    exact List.take_left' (by simp; omega)
  rw [splice, h1, ← List.append_assoc]
  rw [List.take_left' (by simp; omega)]
  simp

/-- What lies in a row's block. -/
theorem own_parts {w : World} {base : Nat} {v : Value} {D : List Fd} (h : Own w base v D) (h0 : 0 < D.length) :
    ∃ g cap R, v = .slice (some ⟨g, 0, none⟩) D.length cap ∧ base ≤ g ∧ w.heap[g]? = some (.cells (fcells D ++ R).toArray 39 (0, 0)) ∧ D.length ≤ cap ∧ cap ≤ maxLen ∧ (fcells D ++ R).length = cap * 2 := by
  rcases h.2 with ⟨rfl, h0'⟩ | ⟨g, cap, cur, rfl, h2, h3, h4, h5, h6, h7⟩
  · omega
  · refine ⟨g, cap, cur.toList.drop (D.length * 2), rfl, h2, ?_, h4, h5, ?_⟩
    · rw [← h7, List.take_append_drop]; exact h3
    · rw [← h7, List.take_append_drop, Array.length_toList, h6]

theorem cells_row {w : World} {g : Nat} {C : List Value} (hg : w.heap[g]? = some (.cells C.toArray 39 (0, 0))) (j : Nat) : w.cell? ⟨g, j, none⟩ = C[j]? := by
  rw [cell_of_row w g j _ 39 (0, 0) hg]; simp

set_option maxHeartbeats 4000000 in
set_option maxRecDepth 100000 in
theorem insert_shift (D : List Fd) (i g cap vb base : Nat) (R : List Value) (x : Fd) (w : World) (hl : D.length ≤ 1000000) (hi : i < D.length) (hroom : D.length + 1 ≤ cap) (hcap : cap ≤ maxLen) (hg : w.heap[g]? = some (.cells (fcells D ++ R).toArray 39 (0, 0)))
    (hlen : (fcells D ++ R).length = cap * 2) (hbg : base ≤ g) (hne : vb ≠ g) (hv : w.heap[vb]? = some (.cells #[.string x.1, .string x.2] 39 (0, 0))) :
    Calls Tryd.prog 46 #[.slice (some ⟨g, 0, none⟩) D.length cap, .int .i64 i, .slice (some ⟨vb, 0, none⟩) 1 1] w fun e w' => ∃ r, e = .returned r ∧ Own w' base r (insF i x D) ∧ Below base w w' := by
  have hA : (fcells (D.take i)).length = i * 2 := by rw [fcells_length, List.length_take, Nat.min_eq_left (by omega)]
  have hB : (fcells (D.drop i)).length = (D.length - i) * 2 := by rw [fcells_length, List.length_drop]
  have hCut : fcells D ++ R = fcells (D.take i) ++ (fcells (D.drop i) ++ R) := by rw [fcells_cut D i, List.append_assoc]
  have hRl : 2 ≤ R.length := by rw [List.length_append, fcells_length] at hlen; omega
  have hmax : maxLen ≤ 9223372036854775807 := by unfold maxLen; omega
  obtain ⟨n, hn⟩ : ∃ n, D.length = n := ⟨_, rfl⟩
  have hsrc1 : ∀ (W : World), W.heap[g]? = some (.cells (fcells D ++ R).toArray 39 (0, 0)) → ∀ j v, (fcells (D.drop i))[j]? = some v → W.cell? ((⟨g, i * 2, none⟩ : Addr).add j) = some v := by
    intro W hW j v hj
    have hjl := (List.getElem?_eq_some_iff.1 hj).1
    rw [add_none, cells_row hW, hCut, List.getElem?_append_right (by omega), hA, show i * 2 + j - i * 2 = j by omega, List.getElem?_append_left hjl, hj]
  have hsrc2 : ∀ (W : World), W.heap[vb]? = some (.cells #[.string x.1, .string x.2] 39 (0, 0)) → ∀ j v, [Value.string x.1, .string x.2][j]? = some v → W.cell? ((⟨vb, 0, none⟩ : Addr).add j) = some v := by
    intro W hW j v hj
    rw [add_none, Nat.zero_add, cell_of_row W vb j _ 39 (0, 0) hW]
    simpa using hj
  have hov : ∀ off lb cb, (callFunc 65 #[.slice (some ⟨vb, 0, none⟩) 1 1, .slice (some ⟨g, off, none⟩) lb cb]).run Tryd.prog w = .ok (.value (.bool false)) w := fun off lb cb => by
    rw [run_callFunc_extern Tryd.func65 (by kernel_rfl) (by kernel_rfl) (by kernel_rfl) (e := Extern.SlicesOverlaps.overlaps #[24, 24] #[4]) (by kernel_rfl),
      Lib.run_overlaps_apart w 24 4 39 Tryd.underlying24 2 Tryd.sizeOf39 ⟨vb, 0, none⟩ ⟨g, off, none⟩ 1 1 lb cb hne 39 39 2 (cap * 2) (by unfold World.shape?; rw [hv]; rfl) (by unfold World.shape?; rw [hg]; simp at hlen ⊢; exact hlen) (by omega) (by unfold World.frozen?; rw [hv]; rfl) (by unfold World.frozen?; rw [hv]; rfl)]
    rfl
  obtain ⟨W1, hW1⟩ : ∃ W1, W1 = w.drew.setRow g (splice (fcells D ++ R) ((i + 1) * 2) (fcells (D.drop i))).toArray := ⟨_, rfl⟩
  have hcp1 : ∀ ty dc sc, (Builtin.copy_ #[24, 24] ty #[.slice (some ⟨g, (i + 1) * 2, none⟩) (n - i) dc, .slice (some ⟨g, i * 2, none⟩) (n + 1 - i) sc]).run Tryd.prog w.drew = .ok (goInt (Nat.min (n + 1 - i) (n - i))) W1 := fun ty dc sc => by
    rw [hW1]
    refine run_copy2 w.drew ty g _ _ dc ⟨g, i * 2, none⟩ _ sc (fcells D ++ R) 39 (fcells (D.drop i)) hg ?_ (hsrc1 w.drew hg) ?_ (fcells_one _)
    · rw [hB, hn]; simp only [Nat.min_def]; split <;> omega
    · rw [hlen, hB, hn]; omega
  have hg1 : W1.heap[g]? = some (.cells (splice (fcells D ++ R) ((i + 1) * 2) (fcells (D.drop i))).toArray 39 (0, 0)) := by rw [hW1]; exact setRow_heap w.drew g _ _ 39 _ hg
  have hl1 : (splice (fcells D ++ R) ((i + 1) * 2) (fcells (D.drop i))).length = cap * 2 := by rw [length_splice _ _ _ (by rw [hlen, hB]; omega), hlen]
  have hv1 : W1.heap[vb]? = some (.cells #[.string x.1, .string x.2] 39 (0, 0)) := by rw [hW1, setRow_other _ _ _ _ hne]; exact hv
  have hb1 : Below base w W1 := by rw [hW1]; exact below_setRow (Below.refl _ _).drew hbg _
  have hcp2 : ∀ (W : World), W.heap = W1.heap → ∀ ty dc, (Builtin.copy_ #[24, 24] ty #[.slice (some ⟨g, i * 2, none⟩) (n + 1 - i) dc, .slice (some ⟨vb, 0, none⟩) 1 1]).run Tryd.prog W = .ok (goInt (Nat.min 1 (n + 1 - i))) (W.setRow g (splice (splice (fcells D ++ R) ((i + 1) * 2) (fcells (D.drop i))) (i * 2) [.string x.1, .string x.2]).toArray) := fun W hW ty dc => by
    refine run_copy2 W ty g _ _ dc ⟨vb, 0, none⟩ _ 1 _ 39 [.string x.1, .string x.2] (by rw [hW]; exact hg1) ?_ (hsrc2 W (by rw [hW]; exact hv1)) ?_ (fst_one x)
    · simp only [Nat.min_def]; split
      · rfl
      · omega
    · rw [hl1]; simp; omega
  have hfin : ∀ (W : World), W.heap = W1.heap → Below base w W → Own (W.setRow g (splice (splice (fcells D ++ R) ((i + 1) * 2) (fcells (D.drop i))) (i * 2) [.string x.1, .string x.2]).toArray) base (.slice (some ⟨g, 0, none⟩) (n + 1) cap) (insF i x D) ∧ Below base w (W.setRow g (splice (splice (fcells D ++ R) ((i + 1) * 2) (fcells (D.drop i))) (i * 2) [.string x.1, .string x.2]).toArray) := fun W hW hbW => by
    refine ⟨⟨fcells_length _, Or.inr ⟨g, cap, _, ?_, hbg, setRow_heap W g _ _ 39 _ (by rw [hW]; exact hg1), ?_, hcap, ?_, ?_⟩⟩, below_setRow hbW hbg _⟩
    · rw [insF_length (by omega), hn]
    · rw [insF_length (by omega)]; omega
    · rw [List.size_toArray, length_splice _ _ _ (by rw [hl1]; simp; omega), hl1]
    · have hs := splice_shift (fcells (D.take i)) (fcells (D.drop i)) R [Value.string x.1, .string x.2] rfl hRl
      rw [← hCut, hA, hB, show i * 2 + 2 = (i + 1) * 2 by omega] at hs
      rw [insF_length (by omega), insF_cells, ← hs]
      simp only
      congr 1
      omega
  rw [hn] at hi hroom ⊢
  have HX := hide (And.intro hcp1 (And.intro hcp2 (And.intro hfin hb1)))
  clear hA hB hCut hRl hsrc1 hsrc2 hcp1 hcp2 hfin hg1 hl1 hv1 hlen hg hv hW1
  have hz2 : ¬ ((i : Int) = (n : Int)) := by omega
  have hw1 : IntKind.i64.wrap ((i : Int) + 1) = (i : Int) + 1 := i64_wrap_id _ (by omega) (by omega)
  have hbb1 : (0 : Int) ≤ (i : Int) + 1 := by omega
  have hin : i ≤ n := by omega
  have htn : ((i : Int) + 1).toNat = i + 1 := by omega
  have hb2 : ¬ (cap = i + 1) := by omega
  have hb3 : (i : Int) ≤ (n : Int) + 1 := by omega
  have hb4 : ¬ (cap = i) := by omega
  have mixed : Tryd.prog.follows Departure.mixedOrders = true := by kernel_rfl
  go_enter Tryd.func46, Tryd.ntmps46
  go_wp2_with (simp only [hov])
  go_region_law_o (refine step_copy_runI rfl (.tmp 73) (.tmp 76) 24 24 rfl (.slice (some ⟨g, (i + 1) * 2, none⟩) (n - i) (cap - (i + 1))) (.slice (some ⟨g, i * 2, none⟩) (n + 1 - i) (cap - i)) (by simp [Act.eval, Act.put]) (by simp [Act.eval, Act.put]) (HX.out.1 3 (cap - (i + 1)) (cap - i)) ?_)
  have hc2 := HX.out.2.1 W1 rfl 3 (cap - i)
  have hf2 := HX.out.2.2.1 W1 rfl HX.out.2.2.2
  generalize W1.setRow g (splice (splice (fcells D ++ R) ((i + 1) * 2) (fcells (D.drop i))) (i * 2) [.string x.1, .string x.2]).toArray = W2 at hc2 hf2
  have HF2 := hide hf2
  clear hf2 HX
  go_wp2_with fail
  go_ret
  exact ⟨_, rfl, HF2.out⟩

end Go.Proofs.YtojoidhjlbcijaaDoor
