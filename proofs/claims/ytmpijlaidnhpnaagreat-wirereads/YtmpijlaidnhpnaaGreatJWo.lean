/- The walks of what gives the first value of a name, and all of them, parted by commas: the program's and the document's own. The walks of what adds a field: the program's, by the library's joining of rows, and the document's own. The walks of what adds a field: the program's, by the library's joining of rows, and the document's own. The walks of the document's own adding, and of the field that is put behind and is there. -/
import Derived.Test.YtmpijlaidnhpnaaGreatJWl
import Derived.Test.YtmpijlaidnhpnaaGreatJShelf
import Derived.Laws.AppendOwn
import Derived.Lib.AppendZerosOnto
namespace Go.Proofs.YtmpijlaidnhpnaaGreat
set_option linter.unusedVariables false
set_option linter.unusedSimpArgs false
set_option maxRecDepth 100000
open Go.RowKit

theorem OwnS.row {w : World} {base : Nat} {v : Value} {L : List ByteArray} (h : OwnS w base v L) : ∃ (a : Option Addr) (cap : Nat), v = .slice a L.length cap ∧ L.length ≤ cap ∧
    ∀ k (h : k < L.length), ∃ g, a = some ⟨g, 0, none⟩ ∧ g < w.heap.size ∧ w.cell? ⟨g, k, none⟩ = some (.string L[k]) := by
  rcases h.2 with ⟨rfl, h0⟩ | ⟨g, cap, cur, rfl, h2, h3, h4, h5, h6, h7⟩
  · exact ⟨none, 0, by rw [h0], by omega, fun k hk => by omega⟩
  · refine ⟨some ⟨g, 0, none⟩, cap, rfl, h4, fun k hk => ⟨g, rfl, (Array.getElem?_eq_some_iff.1 h3).1, ?_⟩⟩
    rw [cell_of_row w g k cur 9 (0, 0) h3]
    have : (scells L)[k]? = some (.string L[k]) := by simp [scells, hk]
    rw [← h7, List.getElem?_take, if_pos (by omega)] at this
    simpa using this

/-- Texts, parted by commas. -/
def joinS (L : List ByteArray) : ByteArray := ⟨(Lib.join (L.map (·.data.toList)) [44, 32]).toArray⟩
theorem joinS_nil : joinS [] = ⟨#[]⟩ := rfl
theorem joinS_one (x : ByteArray) : joinS [x] = x := by
  unfold joinS
  rw [List.map_cons, List.map_nil, Lib.join_one]
theorem join_snoc (x : List UInt8) (r : List (List UInt8)) (y sep : List UInt8) : Lib.join (x :: r ++ [y]) sep = Lib.join (x :: r) sep ++ (sep ++ y) := by
  rw [List.cons_append, Lib.join_cons, Lib.join_cons]
  simp [Lib.joinTail, List.append_assoc]
theorem joinS_snoc {L : List ByteArray} (h : L ≠ []) (y : ByteArray) : joinS (L ++ [y]) = joinS L ++ ⟨#[44, 32]⟩ ++ y := by
  cases L with
  | nil => exact absurd rfl h
  | cons x r =>
    apply bytes_ext
    rw [app_list, app_list]
    simp only [joinS]
    rw [List.map_append, List.map_cons, List.map_cons, List.map_nil, join_snoc]
    simp
theorem joinS_size {L : List ByteArray} (h : ∀ s ∈ L, s.size ≤ 10000) : (joinS L).size ≤ L.length * 10002 := by
  have key : ∀ L : List ByteArray, (∀ s ∈ L, s.size ≤ 10000) → Lib.lens (L.map (·.data.toList)) ≤ L.length * 10000 := by
    intro L
    induction L with
    | nil => intro _; simp [Lib.lens]
    | cons x r ih =>
      intro h
      have h1 := h x (by simp)
      have h2 := ih fun s hs => h s (by simp [hs])
      have h3 : x.data.toList.length = x.size := by simp
      simp [Lib.lens] at h2 ⊢
      omega
  rw [← size_list]
  cases L with
  | nil => simp [joinS, Lib.join_nil]
  | cons x r =>
    have hk := key (x :: r) h
    simp only [joinS, List.map_cons]
    rw [Lib.join_length]
    simp only [List.map_cons] at hk
    simp at hk ⊢
    omega

def VSh (L : List ByteArray) : Prop := ∀ s ∈ L, s.size ≤ 10000
theorem all_short {n : ByteArray} {L : List Fd} (h : Sh L) : VSh (allF n L) := by
  intro s hs
  obtain ⟨f, hf, rfl⟩ := List.mem_map.1 hs
  exact (h f (List.mem_filter.1 hf).1).2
def hasB (n : ByteArray) (L : List Fd) : Bool := decide (0 < (allF n L).length)

theorem ret_two {a c : ByteArray} {b d : Bool} (h : a = c) (g : b = d) : Ending.returned (.tuple #[.string a, .bool b]) = .returned (.tuple #[.string c, .bool d]) := by rw [h, g]

theorem Below.one {w : World} : Below w.heap.size w w := Below.refl _ _

theorem join_call (A : List ByteArray) (a : Option Addr) (cap : Nat) (w : World) (hcap : A.length ≤ cap) (hl : A.length ≤ 1000000) (hs : VSh A)
    (hR : ∀ k (h : k < A.length), ∃ g, a = some ⟨g, 0, none⟩ ∧ g < w.heap.size ∧ w.cell? ⟨g, k, none⟩ = some (.string A[k])) :
    Calls Tryz.prog 111 #[.slice a A.length cap, .string ⟨#[44, 32]⟩] w fun e w' => e = .returned (.string (joinS A)) ∧ Below w.heap.size w w' := by
  cases A with
  | nil => exact (Tryz.strings_Join_none a cap _ w).mono fun e w' ⟨he, hw⟩ => ⟨he, hw ▸ Below.refl _ _⟩
  | cons x r =>
    obtain ⟨g, rfl, hg, -⟩ := hR 0 (by simp)
    have hsz := joinS_size hs
    rw [← size_list] at hsz
    refine Tryz.strings_Join g 0 cap (x :: r) ⟨#[44, 32]⟩ w (fun j y hj => ?_) hg (by omega) hcap ?_
    · obtain ⟨hjl, hje⟩ := List.getElem?_eq_some_iff.1 hj
      obtain ⟨g', he, -, hc⟩ := hR j hjl
      cases he
      rw [Nat.zero_add, hc, hje]
    · have : (Lib.join ((x :: r).map (·.data.toList)) [44, 32]).length ≤ (x :: r).length * 10002 := by simpa [joinS] using hsz
      exact Nat.le_trans this (by omega)

set_option maxHeartbeats 1000000 in
theorem joined_any (L : List Fd) (v : Value) (n : ByteArray) (w : World) (hr : Row w v L) (hl : L.length ≤ 1000000) (hs : Sh L) (hn : n.size ≤ 1000000) :
    Calls Tryz.prog 91 #[v, .string n] w fun e w' => e = .returned (.tuple #[.string (joinS (allF n L)), .bool (hasB n L)]) ∧ Below w.heap.size w w' := by
  have HV : Hid (hasB n L = decide (0 < (allF n L).length)) := rfl
  have HL : Hid ((allF n L).length ≤ 1000000) := Nat.le_trans (all_le n L) hl
  have HS := hide (all_short (n := n) hs)
  go_enter Tryz.func91, Tryz.ntmps91
  go_wp2_with fail
  refine (values_any L v n w hr hl hs hn).mono ?_
  rintro e w1 ⟨r, rfl, ho, hb⟩
  obtain ⟨A, hA⟩ : ∃ A, allF n L = A := ⟨_, rfl⟩
  rw [hA] at ho HV HL HS
  have HA := hide hA
  have hAl := HL.out
  clear hA hr hs
  obtain ⟨a, cap, rfl, hcap, hR⟩ := ho.row
  have HR := hide hR
  clear hR ho
  go_wp2_with fail
  refine (join_call A a cap w1 hcap hAl HS.out HR.out).mono ?_
  rintro e w2 ⟨rfl, hb2⟩
  obtain ⟨J, hJ⟩ : ∃ J, joinS A = J := ⟨_, rfl⟩
  have HJ := hide hJ
  rw [hJ]
  clear hJ
  go_wp2_with fail
  go_ret2
  exact ⟨ret_two (by rw [HA.out, HJ.out]) (by rw [HV.out]; try (simp <;> omega)), hb.trans (hb2.mono hb.size)⟩

end Go.Proofs.YtmpijlaidnhpnaaGreat

namespace Go.Proofs.YtmpijlaidnhpnaaGreat
set_option linter.unusedVariables false
set_option linter.unusedSimpArgs false
set_option maxRecDepth 100000
open Go.RowKit

theorem run_append_owned_zero {P : Program} {w : World} (base : Nat) (t ty e : TypeId) (i : TypeInfo) (size : Nat) (ht : P.underlying t = some (.slice e)) (hi : P.info? e = some i)
    (v : Value) (n : Nat) (xs : List Value) (hown : w.ownsRow base e size v n xs) (a : Option Addr) (c : Nat) :
    (Builtin.append_ #[t, t] ty #[v, .slice a 0 c]).run P w = .ok v w := by
  have hl : ∀ (x : Addr), (loadCells x 0).run P w = .ok #[] w := fun x => by simpa using run_loadCells_list (P := P) w x [] (by simp)
  rcases hown.2 with ⟨rfl, rfl⟩ | ⟨g, cap, cur, rfl, _, _, hnc, _⟩
  · cases a <;> simp [Builtin.append_, run_underlying ht, sizeOf, typeInfo, hi, Builtin.lenOf, Builtin.firstCells, hl]
  · cases a <;> simp [Builtin.append_, run_underlying ht, sizeOf, typeInfo, hi, Builtin.lenOf, Builtin.firstCells, hnc, storeCells, hl]

theorem grownBy_refl (w : World) (row : Option Nat) : w.grownBy w row := ⟨rfl, rfl, rfl, Nat.le_refl _, fun _ _ _ => rfl⟩

/-- The cells of a row that can be read. -/
theorem row_cells {w : World} {g off cap : Nat} {L : List Fd} (h : ∀ k (h : k < L.length), ∃ g' off', (some ⟨g, off, none⟩ : Option Addr) = some ⟨g', off', none⟩ ∧ g' < w.heap.size ∧ w.cell? ⟨g', off' + k * 2, none⟩ = some (.string L[k].1) ∧ w.cell? ⟨g', off' + k * 2 + 1, none⟩ = some (.string L[k].2)) :
    ∀ j u, (fcells L)[j]? = some u → w.cell? ((⟨g, off, none⟩ : Addr).add j) = some u := by
  intro j u hj
  have hjl : j < L.length * 2 := by
    have := (List.getElem?_eq_some_iff.1 hj).1
    rwa [fcells_length] at this
  have hk : j / 2 < L.length := by omega
  obtain ⟨g', off', he, -, c0, c1⟩ := h (j / 2) hk
  cases he
  have hf := fcells_at L (j / 2) hk
  rw [add_none]
  by_cases hm : j % 2 = 0
  · have e : j = j / 2 * 2 := by omega
    rw [e, hf.1] at hj
    rw [e, c0, ← hj]
  · have e : j = j / 2 * 2 + 1 := by omega
    rw [e, hf.2] at hj
    rw [e, show off + (j / 2 * 2 + 1) = off + j / 2 * 2 + 1 by omega, c1, ← hj]

/-- One row is put behind another one, which the call has made. -/
theorem wpList_append_Row {w : World} {ops : Array Oper} {rest : List Oper} {o : Oper} {a : Act} {Q : Exit → Act → World → Prop} (hgd : o.guard = none) (s x : Operand)
    (ho : o.op = .call { callee := .builtin .append, args := #[s, x], argTypes := #[24, 24] }) (base : Nat) (v vx : Value) (D L : List Fd) (hs : a.eval s = v) (hx : a.eval x = vx)
    (hown : Own w base v D) (hrow : Row w vx L) (hl : D.length + L.length ≤ 1000000) (hbase : base ≤ w.heap.size)
    (h : ∀ v' w', Own w' base v' (D ++ L) → w.grownBy w' v.ownBlock → wpList Tryz.prog ops Q rest (a.put o.dst v') w') :
    wpList Tryz.prog ops Q (o :: rest) a w := by
  obtain ⟨i0, hi0, hz0, hz1, hz2⟩ := info_parts Tryz.info25
  obtain ⟨b, cap, rfl, hcap, hR⟩ := hrow
  by_cases h0 : L.length = 0
  · obtain rfl : L = [] := List.eq_nil_of_length_eq_zero h0
    refine wpList_plain hgd fun K hK => ?_
    have hrun := run_append_owned_zero (P := Tryz.prog) (w := w) base 24 o.type 68 i0 2 Tryz.underlying24 hi0 v D.length (fcells D) hown b cap
    unfold Oper.wp
    simp [execOp, ho, resolve, invoke, builtin, hs, hx, hrun, Result.andThen]
    exact hK _ _ (h v w (by rw [List.append_nil]; exact hown) (grownBy_refl _ _))
  · obtain ⟨g, off, rfl, -, -⟩ := hR 0 (by omega)
    refine wpList_append_own _ hgd s x 24 ho base 68 i0 _ 2 32 Tryz.underlying24 hi0 hz0 hz1 hz2 rfl (by decide) v D.length (fcells D) hs hown ⟨g, off, none⟩ L.length cap (fcells L) hx (fcells_length L) (row_cells (cap := cap) hR) (fcells_one L) (maxLen_of (by omega)) (by omega) hbase ?_
    intro v' w' h1 h2 _
    refine h v' w' ?_ h2
    unfold Own
    rw [List.length_append, fcells_append]
    exact h1

theorem own_block {w : World} {base : Nat} {v : Value} {L : List Fd} (h : Own w base v L) : ∀ k, v.ownBlock = some k → base ≤ k := fun k hk => (World.ownsRow.lt h k hk).1
theorem Row.grown {w w' : World} {v u : Value} {L : List Fd} (h : Row w v L) (hg : w.grownBy w' u.ownBlock) (hu : ∀ g off cap, v = .slice (some ⟨g, off, none⟩) L.length cap → u.ownBlock ≠ some g) : Row w' v L := by
  obtain ⟨a, cap, rfl, h2, h3⟩ := h
  refine ⟨a, cap, rfl, h2, fun k hk => ?_⟩
  obtain ⟨g, off, rfl, hlt, c0, c1⟩ := h3 k hk
  have hb := hg.block g hlt (fun e => hu g off cap rfl e.symm)
  exact ⟨g, off, rfl, Nat.lt_of_lt_of_le hlt hg.size, (World.cell?_of_block (w := w) (a := ⟨g, off + k * 2, none⟩) hb).trans c0, (World.cell?_of_block (w := w) (a := ⟨g, off + k * 2 + 1, none⟩) hb).trans c1⟩

end Go.Proofs.YtmpijlaidnhpnaaGreat

namespace Go.Proofs.YtmpijlaidnhpnaaGreat
set_option linter.unusedVariables false
set_option linter.unusedSimpArgs false
set_option maxRecDepth 100000
open Go.RowKit

theorem Row.slice {w : World} {v : Value} {L : List Fd} (h : Row w v L) : ∃ a cap, v = .slice a L.length cap := by
  obtain ⟨a, cap, rfl, -⟩ := h; exact ⟨a, cap, rfl⟩

end Go.Proofs.YtmpijlaidnhpnaaGreat

namespace Go.Proofs.YtmpijlaidnhpnaaGreat
set_option linter.unusedVariables false
set_option linter.unusedSimpArgs false
set_option maxRecDepth 100000
open Go.RowKit

theorem row_one (w : World) (f : Fd) : Row (w.alloc (.cells #[.string f.1, .string f.2] 68)) (.slice (some ⟨w.heap.size, 0, none⟩) 1 1) [f] := by
  refine ⟨some ⟨w.heap.size, 0, none⟩, 1, rfl, Nat.le_refl _, fun k hk => ⟨w.heap.size, 0, rfl, by simp, ?_, ?_⟩⟩
  · obtain rfl : k = 0 := by simp at hk; omega
    go_simp
  · obtain rfl : k = 0 := by simp at hk; omega
    go_simp

end Go.Proofs.YtmpijlaidnhpnaaGreat
