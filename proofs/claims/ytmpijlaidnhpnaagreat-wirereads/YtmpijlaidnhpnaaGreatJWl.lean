/- The walks of the functions that are handed in to choose fields and values. The walks of what chooses fields and values out of a row. The walks of what removes a name's fields, and of what gives a name's values: the program's and the document's own. -/
import Derived.Test.YtmpijlaidnhpnaaGreatJWi
import Derived.Maps.AppendAt
import Derived.Laws.EntriesVeiled
namespace Go.Proofs.YtmpijlaidnhpnaaGreat
set_option linter.unusedVariables false
set_option linter.unusedSimpArgs false
set_option maxRecDepth 100000
open Go.RowKit

theorem keepS {B : Nat} {W0 W w' : World} {M S N : Nat} {f : Fd} {fn n : Value} (hb : Below W.heap.size W w') (hB : B ≤ W0.heap.size) (hM : M < B) (hS : S < B) (hN : N < B)
    (h : Below B W0 W ∧ W.cell? ⟨M, 0, none⟩ = some (.string f.1) ∧ W.cell? ⟨M, 1, none⟩ = some (.string f.2) ∧ W.cell? ⟨S, 0, none⟩ = some fn ∧ W.cell? ⟨N, 0, none⟩ = some n) :
    Below B W0 w' ∧ w'.cell? ⟨M, 0, none⟩ = some (.string f.1) ∧ w'.cell? ⟨M, 1, none⟩ = some (.string f.2) ∧ w'.cell? ⟨S, 0, none⟩ = some fn ∧ w'.cell? ⟨N, 0, none⟩ = some n := by
  obtain ⟨h1, h2, h3, h4, h5⟩ := h
  have hs := Nat.le_trans hB h1.size
  exact ⟨h1.trans (hb.mono hs), ((stays hb).1 _ _ (by omega)).trans h2, ((stays hb).1 _ _ (by omega)).trans h3, ((stays hb).1 _ _ (by omega)).trans h4, ((stays hb).1 _ _ (by omega)).trans h5⟩
set_option maxHeartbeats 4000000 in
theorem all1_any (f : Fd) (n : ByteArray) (N S : Nat) (w : World) (h1 : f.1.size ≤ 1000000) (h2 : n.size ≤ 1000000) (hc : w.cell? ⟨N, 0, none⟩ = some (.string n))
    (hs : w.cell? ⟨S, 0, none⟩ = some (.func (.func 136) #[] #[.pointer (some ⟨N, 0, none⟩)])) :
    Calls Tryz.prog 114 #[fv f, .pointer (some ⟨S, 0, none⟩)] w fun e w' => e = .returned (.tuple #[.string f.2, .bool (nm n f)]) ∧ Below w.heap.size w w' := by
  have hN : N < w.heap.size := block_lt_of_cell (a := ⟨N, 0, none⟩) hc
  have hS : S < w.heap.size := block_lt_of_cell (a := ⟨S, 0, none⟩) hs
  unfold fv
  go_enter Tryz.func114, Tryz.ntmps114
  go_wp2_with fail
  have hbA : Below w.heap.size w (w.alloc (.cells #[.string f.1, .string f.2] 68)) := one_alloc _ _ _
  have a0 : (w.alloc (.cells #[.string f.1, .string f.2] 68)).cell? ⟨w.heap.size, 0, none⟩ = some (.string f.1) := by go_simp
  have a1 : (w.alloc (.cells #[.string f.1, .string f.2] 68)).cell? ⟨w.heap.size, 1, none⟩ = some (.string f.2) := by go_simp
  have n0 := ((stays hbA).1 N 0 hN).trans hc
  have s0 := ((stays hbA).1 S 0 hS).trans hs
  have hz : w.heap.size + 1 = (w.alloc (.cells #[.string f.1, .string f.2] 68)).heap.size := by simp
  generalize (w.alloc (.cells #[.string f.1, .string f.2] 68)) = w1 at *
  go_region_held3 (fun w' => Below (w.heap.size + 1) w1 w' ∧ w'.cell? ⟨w.heap.size, 0, none⟩ = some (.string f.1) ∧ w'.cell? ⟨w.heap.size, 1, none⟩ = some (.string f.2) ∧ w'.cell? ⟨S, 0, none⟩ = some (.func (.func 136) #[] #[.pointer (some ⟨N, 0, none⟩)]) ∧ w'.cell? ⟨N, 0, none⟩ = some (.string n))
    (first | exact ⟨(Below.refl _ _).drew, a0, a1, s0, n0⟩ | assumption | exact keepS (by assumption) (by omega) (by omega) (by omega) (by omega) (by assumption))
    (first | (go_at_call 136; refine (named1_any f n N w1.drew h1 h2 n0).mono ?_; rintro e w2 ⟨rfl, hb2⟩))
  rename_i hX
  go_wp2_with fail
  go_ret2
  exact ⟨rfl, hbA.trans (hX.1.mono (by omega))⟩

/-- Fields as cells. -/
def fcells (L : List Fd) : List Value := L.flatMap fun f => [.string f.1, .string f.2]
theorem fcells_length (L : List Fd) : (fcells L).length = L.length * 2 := by
  induction L with
  | nil => rfl
  | cons f L ih => rw [fcells, List.flatMap_cons, List.length_append, ← fcells, ih, List.length_cons]; simp; omega
theorem fcells_append (L M : List Fd) : fcells (L ++ M) = fcells L ++ fcells M := by simp [fcells]
theorem fcells_one (L : List Fd) : ∀ u ∈ fcells L, u.oneCell' = true := by
  intro u hu
  obtain ⟨f, _, hf⟩ := List.mem_flatMap.1 hu
  simp at hf
  rcases hf with rfl | rfl <;> rfl
theorem fcells_at (L : List Fd) : ∀ k (h : k < L.length), (fcells L)[k * 2]? = some (.string L[k].1) ∧ (fcells L)[k * 2 + 1]? = some (.string L[k].2) := by
  induction L with
  | nil => intro k h; simp at h
  | cons f L ih =>
    intro k h
    cases k with
    | zero => exact ⟨rfl, rfl⟩
    | succ k =>
      have := ih k (by simpa using h)
      rw [show (k + 1) * 2 = k * 2 + 2 by omega]
      exact this

theorem Tryz.info25 : (Tryz.prog.info? 68).map (fun i => (i.zero, i.size, i.bytes)) = some (some (.agg #[.string ⟨#[]⟩, .string ⟨#[]⟩]), 2, 32) := by kernel_rfl

/-- A row of fields that a call has made. -/
def Own (w : World) (base : Nat) (v : Value) (L : List Fd) : Prop := w.ownsRow base 68 2 v L.length (fcells L)
theorem Own.row {w : World} {base : Nat} {v : Value} {L : List Fd} (h : Own w base v L) : Row w v L := by
  rcases h.2 with ⟨rfl, h0⟩ | ⟨g, cap, cur, rfl, h2, h3, h4, h5, h6, h7⟩
  · exact ⟨none, 0, by rw [h0], by omega, fun k hk => by omega⟩
  · refine ⟨some ⟨g, 0, none⟩, cap, rfl, h4, fun k hk => ⟨g, 0, rfl, (Array.getElem?_eq_some_iff.1 h3).1, ?_, ?_⟩⟩
    · rw [Nat.zero_add, cell_of_row w g _ cur 68 (0, 0) h3]
      have := (fcells_at L k hk).1
      rw [← h7, List.getElem?_take, if_pos (by omega)] at this
      simpa using this
    · rw [Nat.zero_add, cell_of_row w g _ cur 68 (0, 0) h3]
      have := (fcells_at L k hk).2
      rw [← h7, List.getElem?_take, if_pos (by omega)] at this
      simpa using this
theorem Own.below {w w' : World} {base : Nat} {v : Value} {L : List Fd} (h : Own w base v L) (hb : Below w.heap.size w w') : Own w' base v L := owns_below h hb
theorem Own.alloc {w : World} {base : Nat} {v : Value} {L : List Fd} (h : Own w base v L) (o : Obj) : Own (w.alloc o) base v L := h.below ((Below.refl _ _).alloc (Nat.le_refl _) o)
theorem Own.nil (w : World) (base : Nat) : Own w base (.slice none 0 0) [] := World.ownsRow_nil _ _ _ _
theorem Own.mono {w : World} {b b' : Nat} {v : Value} {L : List Fd} (h : Own w b v L) (hb : b' ≤ b) : Own w b' v L := by
  refine ⟨h.1, ?_⟩
  rcases h.2 with h | ⟨g, cap, cur, h1, h2, h3⟩
  · exact Or.inl h
  · exact Or.inr ⟨g, cap, cur, h1, by omega, h3⟩
theorem two_new (w : World) (x y : Value) (t : TypeId) : ∀ j u, [x, y][j]? = some u → (w.alloc (.cells #[x, y] t)).cell? ((⟨w.heap.size, 0, none⟩ : Addr).add j) = some u := by
  intro j u hj
  rw [add_none, Nat.zero_add, World.cell?_alloc_new]
  simpa using hj
theorem fst_one (f : Fd) : ∀ u ∈ [Value.string f.1, .string f.2], u.oneCell' = true := fcells_one [f]

end Go.Proofs.YtmpijlaidnhpnaaGreat

namespace Go.Proofs.YtmpijlaidnhpnaaGreat
set_option linter.unusedVariables false
set_option linter.unusedSimpArgs false
set_option maxRecDepth 100000
open Go.RowKit

def allF (n : ByteArray) (L : List Fd) : List ByteArray := (L.filter (nm n)).map (·.2)
theorem all_snoc (n : ByteArray) (L : List Fd) (f : Fd) : allF n (L ++ [f]) = allF n L ++ (if nm n f then [f.2] else []) := by
  cases h : nm n f <;> simp [allF, h]
theorem all_le (n : ByteArray) (L : List Fd) : (allF n L).length ≤ L.length := by rw [allF, List.length_map]; exact List.length_filter_le _ _

/-- Texts as cells. -/
def scells (L : List ByteArray) : List Value := L.map fun s => .string s
theorem scells_append (L M : List ByteArray) : scells (L ++ M) = scells L ++ scells M := by simp [scells]
/-- A row of texts that a call has made. -/
def OwnS (w : World) (base : Nat) (v : Value) (L : List ByteArray) : Prop := w.ownsRow base 9 1 v L.length (scells L)
theorem OwnS.below {w w' : World} {base : Nat} {v : Value} {L : List ByteArray} (h : OwnS w base v L) (hb : Below w.heap.size w w') : OwnS w' base v L := owns_below h hb
theorem OwnS.alloc {w : World} {base : Nat} {v : Value} {L : List ByteArray} (h : OwnS w base v L) (o : Obj) : OwnS (w.alloc o) base v L := h.below ((Below.refl _ _).alloc (Nat.le_refl _) o)
theorem OwnS.nil (w : World) (base : Nat) : OwnS w base (.slice none 0 0) [] := World.ownsRow_nil _ _ _ _
theorem OwnS.mono {w : World} {b b' : Nat} {v : Value} {L : List ByteArray} (h : OwnS w b v L) (hb : b' ≤ b) : OwnS w b' v L := by
  refine ⟨h.1, ?_⟩
  rcases h.2 with h | ⟨g, cap, cur, h1, h2, h3⟩
  · exact Or.inl h
  · exact Or.inr ⟨g, cap, cur, h1, by omega, h3⟩

set_option maxHeartbeats 4000000 in
theorem chosen_text (L : List Fd) (v : Value) (n : ByteArray) (N S : Nat) (w : World) (hr : Row w v L) (hl : L.length ≤ 1000000) (hs : Sh L) (hn : n.size ≤ 1000000) (hc : w.cell? ⟨N, 0, none⟩ = some (.string n))
    (hf : w.cell? ⟨S, 0, none⟩ = some (.func (.func 136) #[] #[.pointer (some ⟨N, 0, none⟩)])) :
    Calls Tryz.prog 113 #[v, .func (.func 114) #[] #[.pointer (some ⟨S, 0, none⟩)]] w fun e w' => ∃ r, e = .returned r ∧ OwnS w' w.heap.size r (allF n L) ∧ Below w.heap.size w w' := by
  obtain ⟨a, cap, rfl, hcap, hR⟩ := hr
  have HR := hide hR
  have HS := hide hs
  have HC := hide hc
  have HF := hide hf
  have hN : N < w.heap.size := block_lt_of_cell (a := ⟨N, 0, none⟩) hc
  have hS : S < w.heap.size := block_lt_of_cell (a := ⟨S, 0, none⟩) hf
  clear hR hs hc hf
  obtain ⟨i0, hi0, hz0, hz1, hz2⟩ := info_parts Tryz.info9
  go_enter Tryz.func113, Tryz.ntmps113
  go_wp2_with fail
  go_loopw [5, 7, 8, 9, 12] (fun v _ _ _ i wr => ∃ k : Nat, k ≤ L.length ∧ i = .int .i64 k ∧ Below w.heap.size w wr ∧ OwnS wr w.heap.size v (allF n (L.take k))) (fun _ _ _ _ i _ => L.length - (intOf i).toNat)
  case atStart => exact ⟨0, Nat.zero_le _, rfl, Below.refl _ _, by rw [List.take_zero]; exact OwnS.nil _ _⟩
  case round =>
    obtain ⟨k, hk, rfl, hbr, hown⟩ := hrel
    have hsz := hbr.size
    by_cases hlt : k < L.length
    · have hltz : (k : Int) < L.length := by omega
      obtain ⟨g, off, rfl, hg, c0, c1⟩ := HR.out k hlt
      rw [← (stays hbr).1 _ _ hg] at c0 c1
      have hsh := HS.out _ (List.getElem_mem hlt)
      have HT := hide (List.take_succ_eq_append_getElem hlt)
      have HLE : Hid ((allF n (L.take k)).length ≤ k) := by
        unfold Hid; refine Nat.le_trans (all_le n (L.take k)) ?_; rw [List.length_take]; omega
      obtain ⟨x, hx⟩ : ∃ x, L[k]'hlt = x := ⟨_, rfl⟩
      rw [hx] at c0 c1 hsh HT
      have HX : Hid (allF n (L.take (k + 1)) = allF n (L.take k) ++ (if nm n x then [x.2] else [])) := by unfold Hid; rw [HT.out, all_snoc]
      obtain ⟨D, hD⟩ : ∃ D, allF n (L.take k) = D := ⟨_, rfl⟩
      rw [hD] at hown HLE HX
      clear hx hD HR HT
      have hn1 : (wr.alloc (.cells #[.string x.1, .string x.2] 68)).cell? ⟨N, 0, none⟩ = some (.string n) := by
        rw [(stays (one_alloc _ _ _)).1 _ _ (by omega), (stays hbr).1 _ _ hN]; exact HC.out
      have hs1 : (wr.alloc (.cells #[.string x.1, .string x.2] 68)).cell? ⟨S, 0, none⟩ = some (.func (.func 136) #[] #[.pointer (some ⟨N, 0, none⟩)]) := by
        rw [(stays (one_alloc _ _ _)).1 _ _ (by omega), (stays hbr).1 _ _ hS]; exact HF.out
      have HN1 := hide hn1
      have HS1 := hide hs1
      clear hn1 hs1
      go_wp2_with fail
      refine (all1_any x n N S _ (by omega) hn HN1.out HS1.out).mono ?_
      rintro e w1 ⟨rfl, hb1⟩
      have hB1 := (hbr.alloc hsz (.cells #[.string x.1, .string x.2] 68)).trans (hb1.mono (by simp; omega))
      have hs1 := hB1.size
      have ho1 := (hown.alloc (.cells #[.string x.1, .string x.2] 68)).below hb1
      clear hb1 hown hbr HN1 HS1 c0 c1
      cases hp : nm n x
      · rw [hp] at HX
        try rw [hp]
        go_wp2_with fail
        refine ⟨⟨k + 1, by omega, by go_num, hB1, ?_⟩, by simp [intOf]; omega⟩
        rw [HX.out, if_neg (by simp), List.append_nil]
        exact ho1
      · rw [hp] at HX
        try unfold fv
        try rw [hp]
        have hBx := hB1
        have hsx := hs1
        have hox := ho1
        have hla := hBx.alloc hsx (.cells #[.string x.2] 9)
        have hoa := hox.alloc (.cells #[.string x.2] 9)
        have h63 : D.length + 1 ≤ maxLen := maxLen_of (by have := HLE.out; omega)
        have hby : (D.length + 1) * 16 ≤ 140737488355328 := by have := HLE.out; omega
        have hba : w.heap.size ≤ (w1.alloc (.cells #[.string x.2] 9)).heap.size := by simp at hsx ⊢; omega
        have hce := cell_one_new w1 (.string x.2) 9
        have HXX := hide (And.intro h63 (And.intro hby (And.intro hba (And.intro hce (And.intro hla hoa)))))
        clear h63 hby hba hce hla hoa hBx hox ho1 hB1
        go_wp2_with (at_builtin; refine wpList_append_own _ rfl (.tmp 23) (.tmp 25) 118 rfl w.heap.size 9 i0 (.string ⟨#[]⟩) 1 16 Tryz.underlying118 hi0 hz0 hz1 hz2 rfl (by decide) _ _ _ rfl HXX.out.2.2.2.2.2 _ 1 1 [.string x.2] rfl rfl HXX.out.2.2.2.1 (by intro u hu; simp at hu; subst hu; rfl) HXX.out.1 HXX.out.2.1 HXX.out.2.2.1 ?_; intro v' w2 ho2 hg2 _)
        have hl2 := HXX.out.2.2.2.2.1.grown hg2 HXX.out.2.2.1 (fun j hj => (HXX.out.2.2.2.2.2.lt j hj).1)
        refine ⟨⟨k + 1, by omega, by go_num, hl2, ?_⟩, by simp [intOf]; omega⟩
        rw [HX.out, if_pos (by simp)]
        unfold OwnS
        rw [List.length_append, scells_append]
        exact ho2

    · have hd : decide ((k : Int) < L.length) = false := decide_eq_false (by omega)
      rw [List.take_of_length_le (by omega)] at hown
      go_wp2_with fail
      go_ret
      exact ⟨_, rfl, hown, hbr⟩

end Go.Proofs.YtmpijlaidnhpnaaGreat

namespace Go.Proofs.YtmpijlaidnhpnaaGreat
set_option linter.unusedVariables false
set_option linter.unusedSimpArgs false
set_option maxRecDepth 100000
open Go.RowKit

set_option maxHeartbeats 2000000 in
theorem values_any (L : List Fd) (v : Value) (n : ByteArray) (w : World) (hr : Row w v L) (hl : L.length ≤ 1000000) (hs : Sh L) (hn : n.size ≤ 1000000) :
    Calls Tryz.prog 92 #[v, .string n] w fun e w' => ∃ r, e = .returned r ∧ OwnS w' w.heap.size r (allF n L) ∧ Below w.heap.size w w' := by
  have hbA : Below w.heap.size w ((w.alloc (.cells #[.string n] 9)).alloc (.cells #[.func (.func 136) #[] #[.pointer (some ⟨w.heap.size, 0, none⟩)]] 71)) := (one_alloc _ _ _).alloc (by simp) _
  have hr1 := hr.below hbA
  have n0 : ((w.alloc (.cells #[.string n] 9)).alloc (.cells #[.func (.func 136) #[] #[.pointer (some ⟨w.heap.size, 0, none⟩)]] 71)).cell? ⟨w.heap.size, 0, none⟩ = some (.string n) := by go_simp
  have s0 : ((w.alloc (.cells #[.string n] 9)).alloc (.cells #[.func (.func 136) #[] #[.pointer (some ⟨w.heap.size, 0, none⟩)]] 71)).cell? ⟨w.heap.size + 1, 0, none⟩ = some (.func (.func 136) #[] #[.pointer (some ⟨w.heap.size, 0, none⟩)]) := by go_simp
  have HX := hide (And.intro hr1 (And.intro n0 (And.intro s0 (And.intro hbA hs))))
  clear hbA hr1 n0 s0 hr hs
  go_enter Tryz.func92, Tryz.ntmps92
  go_wp2_with fail
  refine (named_any n _).mono ?_
  rintro e w1 ⟨rfl, rfl⟩
  go_wp2_with fail
  refine (chosen_text L v n w.heap.size (w.heap.size + 1) _ HX.out.1 hl HX.out.2.2.2.2 hn HX.out.2.1 HX.out.2.2.1).mono ?_
  rintro e w2 ⟨r, rfl, ho, hb⟩
  go_wp2_with fail
  go_ret
  exact ⟨_, rfl, ho.mono HX.out.2.2.2.1.size, HX.out.2.2.2.1.trans (hb.mono HX.out.2.2.2.1.size)⟩

end Go.Proofs.YtmpijlaidnhpnaaGreat
