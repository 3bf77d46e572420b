/- The walks of what chooses fields and values out of a row. -/
import Derived.Test.YtojoidhjlbcijaaDoorWl
import Derived.Maps.AppendAt
namespace Go.Proofs.YtojoidhjlbcijaaDoor
set_option linter.unusedVariables false
set_option linter.unusedSimpArgs false
set_option maxRecDepth 100000
open Go.RowKit

theorem two_new_at (w : World) (x y : Value) (t : TypeId) {N : Nat} (h : w.heap.size = N) : ∀ j u, [x, y][j]? = some u → (w.alloc (.cells #[x, y] t)).cell? ((⟨N, 0, none⟩ : Addr).add j) = some u := by
  rw [← h]; exact two_new w x y t

/-- A row without a name's fields; a name's values. -/
def delF (n : ByteArray) (L : List Fd) : List Fd := L.filter fun f => !nm n f
def allF (n : ByteArray) (L : List Fd) : List ByteArray := (L.filter (nm n)).map (·.2)
theorem del_snoc (n : ByteArray) (L : List Fd) (f : Fd) : delF n (L ++ [f]) = delF n L ++ (if nm n f then [] else [f]) := by
  cases h : nm n f <;> simp [delF, h]
theorem all_snoc (n : ByteArray) (L : List Fd) (f : Fd) : allF n (L ++ [f]) = allF n L ++ (if nm n f then [f.2] else []) := by
  cases h : nm n f <;> simp [allF, h]
theorem del_le (n : ByteArray) (L : List Fd) : (delF n L).length ≤ L.length := List.length_filter_le _ _
theorem all_le (n : ByteArray) (L : List Fd) : (allF n L).length ≤ L.length := by rw [allF, List.length_map]; exact List.length_filter_le _ _

/-- Texts as cells. -/
def scells (L : List ByteArray) : List Value := L.map fun s => .string s
theorem scells_length (L : List ByteArray) : (scells L).length = L.length := by simp [scells]
theorem scells_append (L M : List ByteArray) : scells (L ++ M) = scells L ++ scells M := by simp [scells]
/-- A row of texts that a call has made. -/
def OwnS (w : World) (base : Nat) (v : Value) (L : List ByteArray) : Prop := w.ownsRow base 9 1 v L.length (scells L)
theorem OwnS.below {w w' : World} {base : Nat} {v : Value} {L : List ByteArray} (h : OwnS w base v L) (hb : Below w.heap.size w w') : OwnS w' base v L := owns_below h hb
theorem OwnS.alloc {w : World} {base : Nat} {v : Value} {L : List ByteArray} (h : OwnS w base v L) (o : Obj) : OwnS (w.alloc o) base v L := h.below ((Below.refl _ _).alloc (Nat.le_refl _) o)
theorem OwnS.nil (w : World) (base : Nat) : OwnS w base (.slice none 0 0) [] := World.ownsRow_nil _ _ _ _
theorem OwnS.mono {w : World} {b b' : Nat} {v : Value} {L : List ByteArray} (h : OwnS w b v L) (hb : b' ≤ b) : OwnS w b' v L := by
  refine ⟨h.1, ?_⟩
  rcases h.2 with h | ⟨g, cap, cur, h1, h2, h3⟩
  · exact Or.inl h
  · exact Or.inr ⟨g, cap, cur, h1, by omega, h3⟩


set_option maxHeartbeats 4000000 in
theorem chosen_field (L : List Fd) (v : Value) (n : ByteArray) (N S : Nat) (w : World) (hr : Row w v L) (hl : L.length ≤ 1000000) (hs : Sh L) (hn : n.size ≤ 1000000) (hc : w.cell? ⟨N, 0, none⟩ = some (.string n))
    (hf : w.cell? ⟨S, 0, none⟩ = some (.func (.func 63) #[] #[.pointer (some ⟨N, 0, none⟩)])) :
    Calls Tryd.prog 51 #[v, .func (.func 52) #[] #[.pointer (some ⟨S, 0, none⟩)]] w fun e w' => ∃ r, e = .returned r ∧ Own w' w.heap.size r (delF n L) ∧ Below w.heap.size w w' := by
  obtain ⟨a, cap, rfl, hcap, hR⟩ := hr
  have HR := hide hR
  have HS := hide hs
  have HC := hide hc
  have HF := hide hf
  have hN : N < w.heap.size := block_lt_of_cell (a := ⟨N, 0, none⟩) hc
  have hS : S < w.heap.size := block_lt_of_cell (a := ⟨S, 0, none⟩) hf
  clear hR hs hc hf
  obtain ⟨i0, hi0, hz0, hz1, hz2⟩ := info_parts Tryd.info25
  go_enter Tryd.func51, Tryd.ntmps51
  go_wp2_with fail
  go_loopw [5, 7, 8, 9, 12] (fun v _ _ _ i wr => ∃ k : Nat, k ≤ L.length ∧ i = .int .i64 k ∧ Below w.heap.size w wr ∧ Own wr w.heap.size v (delF n (L.take k))) (fun _ _ _ _ i _ => L.length - (intOf i).toNat)
  case atStart => exact ⟨0, Nat.zero_le _, rfl, Below.refl _ _, by rw [List.take_zero]; exact Own.nil _ _⟩
  case round =>
    obtain ⟨k, hk, rfl, hbr, hown⟩ := hrel
    have hsz := hbr.size
    by_cases hlt : k < L.length
    · have hltz : (k : Int) < L.length := by omega
      obtain ⟨g, off, rfl, hg, c0, c1⟩ := HR.out k hlt
      rw [← (stays hbr).1 _ _ hg] at c0 c1
      have hsh := HS.out _ (List.getElem_mem hlt)
      have HT := hide (List.take_succ_eq_append_getElem hlt)
      have HLE : Hid ((delF n (L.take k)).length ≤ k) := by
        unfold Hid; refine Nat.le_trans (del_le n (L.take k)) ?_; rw [List.length_take]; omega
      obtain ⟨x, hx⟩ : ∃ x, L[k]'hlt = x := ⟨_, rfl⟩
      rw [hx] at c0 c1 hsh HT
      have HX : Hid (delF n (L.take (k + 1)) = delF n (L.take k) ++ (if nm n x then [] else [x])) := by unfold Hid; rw [HT.out, del_snoc]
      obtain ⟨D, hD⟩ : ∃ D, delF n (L.take k) = D := ⟨_, rfl⟩
      rw [hD] at hown HLE HX
      clear hx hD HR HT
      have hn1 : (wr.alloc (.cells #[.string x.1, .string x.2] 39)).cell? ⟨N, 0, none⟩ = some (.string n) := by
        rw [(stays (one_alloc _ _ _)).1 _ _ (by omega), (stays hbr).1 _ _ hN]; exact HC.out
      have hs1 : (wr.alloc (.cells #[.string x.1, .string x.2] 39)).cell? ⟨S, 0, none⟩ = some (.func (.func 63) #[] #[.pointer (some ⟨N, 0, none⟩)]) := by
        rw [(stays (one_alloc _ _ _)).1 _ _ (by omega), (stays hbr).1 _ _ hS]; exact HF.out
      have HN1 := hide hn1
      have HS1 := hide hs1
      clear hn1 hs1
      go_wp2_with fail
      refine (remove1_any x n N S _ (by omega) hn HN1.out HS1.out).mono ?_
      rintro e w1 ⟨rfl, hb1⟩
      have hB1 := (hbr.alloc hsz (.cells #[.string x.1, .string x.2] 39)).trans (hb1.mono (by simp; omega))
      have hs1 := hB1.size
      have ho1 := (hown.alloc (.cells #[.string x.1, .string x.2] 39)).below hb1
      clear hb1 hown hbr HN1 HS1 c0 c1
      cases hp : nm n x
      · rw [hp] at HX
        try unfold fv
        try rw [hp]
        have hBx := hB1.alloc hs1 (.cells #[.string x.1, .string x.2] 39)
        have hsx := hBx.size
        have hox := ho1.alloc (.cells #[.string x.1, .string x.2] 39)
        have hla := hBx.alloc hsx (.cells #[.string x.1, .string x.2] 39)
        have hoa := hox.alloc (.cells #[.string x.1, .string x.2] 39)
        have h63 : D.length + 1 ≤ maxLen := maxLen_of (by have := HLE.out; omega)
        have hby : (D.length + 1) * 32 ≤ 140737488355328 := by have := HLE.out; omega
        have hba : w.heap.size ≤ ((w1.alloc (.cells #[.string x.1, .string x.2] 39)).alloc (.cells #[.string x.1, .string x.2] 39)).heap.size := by simp at hsx ⊢; omega
        have hce := two_new_at (w1.alloc (.cells #[.string x.1, .string x.2] 39)) (.string x.1) (.string x.2) 39 (N := w1.heap.size + 1) (by simp)
        have HXX := hide (And.intro h63 (And.intro hby (And.intro hba (And.intro hce (And.intro hla hoa)))))
        clear h63 hby hba hce hla hoa hBx hox ho1 hB1
        go_wp2_with (at_builtin; refine wpList_append_own _ rfl (.tmp 23) (.tmp 25) 24 rfl w.heap.size 39 i0 (.agg #[.string ⟨#[]⟩, .string ⟨#[]⟩]) 2 32 Tryd.underlying24 hi0 hz0 hz1 hz2 rfl (by decide) _ _ _ rfl HXX.out.2.2.2.2.2 _ 1 1 [.string x.1, .string x.2] rfl rfl HXX.out.2.2.2.1 (fst_one x) HXX.out.1 HXX.out.2.1 HXX.out.2.2.1 ?_; intro v' w2 ho2 hg2 _)
        have hl2 := HXX.out.2.2.2.2.1.grown hg2 HXX.out.2.2.1 (fun j hj => (HXX.out.2.2.2.2.2.lt j hj).1)
        refine ⟨⟨k + 1, by omega, by go_num, hl2, ?_⟩, by simp [intOf]; omega⟩
        rw [HX.out, if_neg (by simp)]
        unfold Own
        rw [List.length_append, fcells_append]
        exact ho2
      · rw [hp] at HX
        try unfold fv
        try rw [hp]
        go_wp2_with fail
        refine ⟨⟨k + 1, by omega, by go_num, hB1.alloc hs1 _, ?_⟩, by simp [intOf]; omega⟩
        rw [HX.out, if_pos (by simp), List.append_nil]
        exact ho1.alloc _

    · have hd : decide ((k : Int) < L.length) = false := decide_eq_false (by omega)
      rw [List.take_of_length_le (by omega)] at hown
      go_wp2_with fail
      go_ret
      exact ⟨_, rfl, hown, hbr⟩

set_option maxHeartbeats 4000000 in
theorem chosen_text (L : List Fd) (v : Value) (n : ByteArray) (N S : Nat) (w : World) (hr : Row w v L) (hl : L.length ≤ 1000000) (hs : Sh L) (hn : n.size ≤ 1000000) (hc : w.cell? ⟨N, 0, none⟩ = some (.string n))
    (hf : w.cell? ⟨S, 0, none⟩ = some (.func (.func 63) #[] #[.pointer (some ⟨N, 0, none⟩)])) :
    Calls Tryd.prog 67 #[v, .func (.func 68) #[] #[.pointer (some ⟨S, 0, none⟩)]] w fun e w' => ∃ r, e = .returned r ∧ OwnS w' w.heap.size r (allF n L) ∧ Below w.heap.size w w' := by
  obtain ⟨a, cap, rfl, hcap, hR⟩ := hr
  have HR := hide hR
  have HS := hide hs
  have HC := hide hc
  have HF := hide hf
  have hN : N < w.heap.size := block_lt_of_cell (a := ⟨N, 0, none⟩) hc
  have hS : S < w.heap.size := block_lt_of_cell (a := ⟨S, 0, none⟩) hf
  clear hR hs hc hf
  obtain ⟨i0, hi0, hz0, hz1, hz2⟩ := info_parts Tryd.info9
  go_enter Tryd.func67, Tryd.ntmps67
  go_wp2_with fail
  go_loopw [5, 7, 8, 9, 12] (fun v _ _ _ i wr => ∃ k : Nat, k ≤ L.length ∧ i = .int .i64 k ∧ Below w.heap.size w wr ∧ OwnS wr w.heap.size v (allF n (L.take k))) (fun _ _ _ _ i _ => L.length - (intOf i).toNat)
  case atStart => exact ⟨0, Nat.zero_le _, rfl, Below.refl _ _, by rw [List.take_zero]; exact OwnS.nil _ _⟩
  case round =>
    obtain ⟨k, hk, rfl, hbr, hown⟩ := hrel
    have hsz := hbr.size
    by_cases hlt : k < L.length
    · have hltz : (k : Int) < L.length := by omega
      obtain ⟨g, off, rfl, hg, c0, c1⟩ := HR.out k hlt
      rw [← (stays hbr).1 _ _ hg] at c0 c1
      have hsh := HS.out _ (List.getElem_mem hlt)
      have HT := hide (List.take_succ_eq_append_getElem hlt)
      have HLE : Hid ((allF n (L.take k)).length ≤ k) := by
        unfold Hid; refine Nat.le_trans (all_le n (L.take k)) ?_; rw [List.length_take]; omega
      obtain ⟨x, hx⟩ : ∃ x, L[k]'hlt = x := ⟨_, rfl⟩
      rw [hx] at c0 c1 hsh HT
      have HX : Hid (allF n (L.take (k + 1)) = allF n (L.take k) ++ (if nm n x then [x.2] else [])) := by unfold Hid; rw [HT.out, all_snoc]
      obtain ⟨D, hD⟩ : ∃ D, allF n (L.take k) = D := ⟨_, rfl⟩
      rw [hD] at hown HLE HX
      clear hx hD HR HT
      have hn1 : (wr.alloc (.cells #[.string x.1, .string x.2] 39)).cell? ⟨N, 0, none⟩ = some (.string n) := by
        rw [(stays (one_alloc _ _ _)).1 _ _ (by omega), (stays hbr).1 _ _ hN]; exact HC.out
      have hs1 : (wr.alloc (.cells #[.string x.1, .string x.2] 39)).cell? ⟨S, 0, none⟩ = some (.func (.func 63) #[] #[.pointer (some ⟨N, 0, none⟩)]) := by
        rw [(stays (one_alloc _ _ _)).1 _ _ (by omega), (stays hbr).1 _ _ hS]; exact HF.out
      have HN1 := hide hn1
      have HS1 := hide hs1
      clear hn1 hs1
      go_wp2_with fail
      refine (all1_any x n N S _ (by omega) hn HN1.out HS1.out).mono ?_
      rintro e w1 ⟨rfl, hb1⟩
      have hB1 := (hbr.alloc hsz (.cells #[.string x.1, .string x.2] 39)).trans (hb1.mono (by simp; omega))
      have hs1 := hB1.size
      have ho1 := (hown.alloc (.cells #[.string x.1, .string x.2] 39)).below hb1
      clear hb1 hown hbr HN1 HS1 c0 c1
      cases hp : nm n x
      · rw [hp] at HX
        try rw [hp]
        go_wp2_with fail
        refine ⟨⟨k + 1, by omega, by go_num, hB1, ?_⟩, by simp [intOf]; omega⟩
        rw [HX.out, if_neg (by simp), List.append_nil]
        exact ho1
      · rw [hp] at HX
        try unfold fv
        try rw [hp]
        have hBx := hB1
        have hsx := hs1
        have hox := ho1
        have hla := hBx.alloc hsx (.cells #[.string x.2] 9)
        have hoa := hox.alloc (.cells #[.string x.2] 9)
        have h63 : D.length + 1 ≤ maxLen := maxLen_of (by have := HLE.out; omega)
        have hby : (D.length + 1) * 16 ≤ 140737488355328 := by have := HLE.out; omega
        have hba : w.heap.size ≤ (w1.alloc (.cells #[.string x.2] 9)).heap.size := by simp at hsx ⊢; omega
        have hce := cell_one_new w1 (.string x.2) 9
        have HXX := hide (And.intro h63 (And.intro hby (And.intro hba (And.intro hce (And.intro hla hoa)))))
        clear h63 hby hba hce hla hoa hBx hox ho1 hB1
        go_wp2_with (at_builtin; refine wpList_append_own _ rfl (.tmp 23) (.tmp 25) 36 rfl w.heap.size 9 i0 (.string ⟨#[]⟩) 1 16 Tryd.underlying36 hi0 hz0 hz1 hz2 rfl (by decide) _ _ _ rfl HXX.out.2.2.2.2.2 _ 1 1 [.string x.2] rfl rfl HXX.out.2.2.2.1 (by intro u hu; simp at hu; subst hu; rfl) HXX.out.1 HXX.out.2.1 HXX.out.2.2.1 ?_; intro v' w2 ho2 hg2 _)
        have hl2 := HXX.out.2.2.2.2.1.grown hg2 HXX.out.2.2.1 (fun j hj => (HXX.out.2.2.2.2.2.lt j hj).1)
        refine ⟨⟨k + 1, by omega, by go_num, hl2, ?_⟩, by simp [intOf]; omega⟩
        rw [HX.out, if_pos (by simp)]
        unfold OwnS
        rw [List.length_append, scells_append]
        exact ho2

    · have hd : decide ((k : Int) < L.length) = false := decide_eq_false (by omega)
      rw [List.take_of_length_le (by omega)] at hown
      go_wp2_with fail
      go_ret
      exact ⟨_, rfl, hown, hbr⟩

end Go.Proofs.YtojoidhjlbcijaaDoor
