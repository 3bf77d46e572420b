/- The walks of what gives the first value of a name, and all of them, parted by commas: the program's and the document's own. The walks of what adds a field: the program's, by the library's joining of rows, and the document's own. The walks of what adds a field: the program's, by the library's joining of rows, and the document's own. The walks of the document's own adding, and of the field that is put behind and is there. -/
import Derived.Test.YtmpijlaidnhpnaaGreatDoorJWl
import Derived.Test.YtmpijlaidnhpnaaGreatDoorJShelf
import Derived.Laws.AppendOwn
import Derived.Lib.AppendZerosOnto
namespace Go.Proofs.YtmpijlaidnhpnaaGreatDoor
set_option linter.unusedVariables false
set_option linter.unusedSimpArgs false
set_option maxRecDepth 100000
open Go.RowKit

theorem OwnS.row {w : World} {base : Nat} {v : Value} {L : List ByteArray} (h : OwnS w base v L) : ∃ (a : Option Addr) (cap : Nat), v = .slice a L.length cap ∧ L.length ≤ cap ∧
    ∀ k (h : k < L.length), ∃ g, a = some ⟨g, 0, none⟩ ∧ g < w.heap.size ∧ w.cell? ⟨g, k, none⟩ = some (.string L[k]) := by
  rcases h.2 with ⟨rfl, h0⟩ | ⟨g, cap, cur, rfl, h2, h3, h4, h5, h6, h7⟩
  · exact ⟨none, 0, by rw [h0], by omega, fun k hk => by omega⟩
  · refine ⟨some ⟨g, 0, none⟩, cap, rfl, h4, fun k hk => ⟨g, rfl, (Array.getElem?_eq_some_iff.1 h3).1, ?_⟩⟩
    rw [cell_of_row w g k cur 9 (0, 0) h3]
    have : (scells L)[k]? = some (.string L[k]) := by simp [scells, hk]
    rw [← h7, List.getElem?_take, if_pos (by omega)] at this
    simpa using this

/-- Texts, parted by commas. -/
def joinS (L : List ByteArray) : ByteArray := ⟨(Lib.join (L.map (·.data.toList)) [44, 32]).toArray⟩
theorem joinS_nil : joinS [] = ⟨#[]⟩ := rfl
theorem joinS_one (x : ByteArray) : joinS [x] = x := by
  unfold joinS
  rw [List.map_cons, List.map_nil, Lib.join_one]
theorem join_snoc (x : List UInt8) (r : List (List UInt8)) (y sep : List UInt8) : Lib.join (x :: r ++ [y]) sep = Lib.join (x :: r) sep ++ (sep ++ y) := by
  rw [List.cons_append, Lib.join_cons, Lib.join_cons]
  simp [Lib.joinTail, List.append_assoc]
theorem joinS_snoc {L : List ByteArray} (h : L ≠ []) (y : ByteArray) : joinS (L ++ [y]) = joinS L ++ ⟨#[44, 32]⟩ ++ y := by
  cases L with
  | nil => exact absurd rfl h
  | cons x r =>
    apply bytes_ext
    rw [app_list, app_list]
    simp only [joinS]
    rw [List.map_append, List.map_cons, List.map_cons, List.map_nil, join_snoc]
    simp
theorem joinS_size {L : List ByteArray} (h : ∀ s ∈ L, s.size ≤ 10000) : (joinS L).size ≤ L.length * 10002 := by
  have key : ∀ L : List ByteArray, (∀ s ∈ L, s.size ≤ 10000) → Lib.lens (L.map (·.data.toList)) ≤ L.length * 10000 := by
    intro L
    induction L with
    | nil => intro _; simp [Lib.lens]
    | cons x r ih =>
      intro h
      have h1 := h x (by simp)
      have h2 := ih fun s hs => h s (by simp [hs])
      have h3 : x.data.toList.length = x.size := by simp
      simp [Lib.lens] at h2 ⊢
      omega
  rw [← size_list]
  cases L with
  | nil => simp [joinS, Lib.join_nil]
  | cons x r =>
    have hk := key (x :: r) h
    simp only [joinS, List.map_cons]
    rw [Lib.join_length]
    simp only [List.map_cons] at hk
    simp at hk ⊢
    omega

def VSh (L : List ByteArray) : Prop := ∀ s ∈ L, s.size ≤ 10000
theorem all_short {n : ByteArray} {L : List Fd} (h : Sh L) : VSh (allF n L) := by
  intro s hs
  obtain ⟨f, hf, rfl⟩ := List.mem_map.1 hs
  exact (h f (List.mem_filter.1 hf).1).2
theorem del_short {n : ByteArray} {L : List Fd} (h : Sh L) : Sh (delF n L) := fun f hf => h f (List.mem_filter.1 hf).1

/-- The first value of a name, and whether there is one. -/
def getS (n : ByteArray) (L : List Fd) : ByteArray := (allF n L).headD ⟨#[]⟩
def hasB (n : ByteArray) (L : List Fd) : Bool := decide (0 < (allF n L).length)

theorem ret_two {a c : ByteArray} {b d : Bool} (h : a = c) (g : b = d) : Ending.returned (.tuple #[.string a, .bool b]) = .returned (.tuple #[.string c, .bool d]) := by rw [h, g]

theorem Below.one {w : World} : Below w.heap.size w w := Below.refl _ _

theorem join_call (A : List ByteArray) (a : Option Addr) (cap : Nat) (w : World) (hcap : A.length ≤ cap) (hl : A.length ≤ 1000000) (hs : VSh A)
    (hR : ∀ k (h : k < A.length), ∃ g, a = some ⟨g, 0, none⟩ ∧ g < w.heap.size ∧ w.cell? ⟨g, k, none⟩ = some (.string A[k])) :
    Calls Tryz.prog 155 #[.slice a A.length cap, .string ⟨#[44, 32]⟩] w fun e w' => e = .returned (.string (joinS A)) ∧ Below w.heap.size w w' := by
  cases A with
  | nil => exact (Tryz.strings_Join_none a cap _ w).mono fun e w' ⟨he, hw⟩ => ⟨he, hw ▸ Below.refl _ _⟩
  | cons x r =>
    obtain ⟨g, rfl, hg, -⟩ := hR 0 (by simp)
    have hsz := joinS_size hs
    rw [← size_list] at hsz
    refine Tryz.strings_Join g 0 cap (x :: r) ⟨#[44, 32]⟩ w (fun j y hj => ?_) hg (by omega) hcap ?_
    · obtain ⟨hjl, hje⟩ := List.getElem?_eq_some_iff.1 hj
      obtain ⟨g', he, -, hc⟩ := hR j hjl
      cases he
      rw [Nat.zero_add, hc, hje]
    · have : (Lib.join ((x :: r).map (·.data.toList)) [44, 32]).length ≤ (x :: r).length * 10002 := by simpa [joinS] using hsz
      exact Nat.le_trans this (by omega)

set_option maxHeartbeats 1000000 in
theorem joined_any (L : List Fd) (v : Value) (n : ByteArray) (w : World) (hr : Row w v L) (hl : L.length ≤ 1000000) (hs : Sh L) (hn : n.size ≤ 1000000) :
    Calls Tryz.prog 138 #[v, .string n] w fun e w' => e = .returned (.tuple #[.string (joinS (allF n L)), .bool (hasB n L)]) ∧ Below w.heap.size w w' := by
  have HV : Hid (hasB n L = decide (0 < (allF n L).length)) := rfl
  have HL : Hid ((allF n L).length ≤ 1000000) := Nat.le_trans (all_le n L) hl
  have HS := hide (all_short (n := n) hs)
  go_enter Tryz.func138, Tryz.ntmps138
  go_wp2_with fail
  refine (values_any L v n w hr hl hs hn).mono ?_
  rintro e w1 ⟨r, rfl, ho, hb⟩
  obtain ⟨A, hA⟩ : ∃ A, allF n L = A := ⟨_, rfl⟩
  rw [hA] at ho HV HL HS
  have HA := hide hA
  have hAl := HL.out
  clear hA hr hs
  obtain ⟨a, cap, rfl, hcap, hR⟩ := ho.row
  have HR := hide hR
  clear hR ho
  go_wp2_with fail
  refine (join_call A a cap w1 hcap hAl HS.out HR.out).mono ?_
  rintro e w2 ⟨rfl, hb2⟩
  obtain ⟨J, hJ⟩ : ∃ J, joinS A = J := ⟨_, rfl⟩
  have HJ := hide hJ
  rw [hJ]
  clear hJ
  go_wp2_with fail
  go_ret2
  exact ⟨ret_two (by rw [HA.out, HJ.out]) (by rw [HV.out]; try (simp <;> omega)), hb.trans (hb2.mono hb.size)⟩

end Go.Proofs.YtmpijlaidnhpnaaGreatDoor

namespace Go.Proofs.YtmpijlaidnhpnaaGreatDoor
set_option linter.unusedVariables false
set_option linter.unusedSimpArgs false
set_option maxRecDepth 100000
open Go.RowKit

theorem run_append_owned_zero {P : Program} {w : World} (base : Nat) (t ty e : TypeId) (i : TypeInfo) (size : Nat) (ht : P.underlying t = some (.slice e)) (hi : P.info? e = some i)
    (v : Value) (n : Nat) (xs : List Value) (hown : w.ownsRow base e size v n xs) (a : Option Addr) (c : Nat) :
    (Builtin.append_ #[t, t] ty #[v, .slice a 0 c]).run P w = .ok v w := by
  have hl : ∀ (x : Addr), (loadCells x 0).run P w = .ok #[] w := fun x => by simpa using run_loadCells_list (P := P) w x [] (by simp)
  rcases hown.2 with ⟨rfl, rfl⟩ | ⟨g, cap, cur, rfl, _, _, hnc, _⟩
  · cases a <;> simp [Builtin.append_, run_underlying ht, sizeOf, typeInfo, hi, Builtin.lenOf, Builtin.firstCells, hl]
  · cases a <;> simp [Builtin.append_, run_underlying ht, sizeOf, typeInfo, hi, Builtin.lenOf, Builtin.firstCells, hnc, storeCells, hl]

theorem grownBy_refl (w : World) (row : Option Nat) : w.grownBy w row := ⟨rfl, rfl, rfl, Nat.le_refl _, fun _ _ _ => rfl⟩

/-- The cells of a row that can be read. -/
theorem row_cells {w : World} {g off cap : Nat} {L : List Fd} (h : ∀ k (h : k < L.length), ∃ g' off', (some ⟨g, off, none⟩ : Option Addr) = some ⟨g', off', none⟩ ∧ g' < w.heap.size ∧ w.cell? ⟨g', off' + k * 2, none⟩ = some (.string L[k].1) ∧ w.cell? ⟨g', off' + k * 2 + 1, none⟩ = some (.string L[k].2)) :
    ∀ j u, (fcells L)[j]? = some u → w.cell? ((⟨g, off, none⟩ : Addr).add j) = some u := by
  intro j u hj
  have hjl : j < L.length * 2 := by
    have := (List.getElem?_eq_some_iff.1 hj).1
    rwa [fcells_length] at this
  have hk : j / 2 < L.length := by omega
  obtain ⟨g', off', he, -, c0, c1⟩ := h (j / 2) hk
  cases he
  have hf := fcells_at L (j / 2) hk
  rw [add_none]
  by_cases hm : j % 2 = 0
  · have e : j = j / 2 * 2 := by omega
    rw [e, hf.1] at hj
    rw [e, c0, ← hj]
  · have e : j = j / 2 * 2 + 1 := by omega
    rw [e, hf.2] at hj
    rw [e, show off + (j / 2 * 2 + 1) = off + j / 2 * 2 + 1 by omega, c1, ← hj]

/-- One row is put behind another one, which the call has made. -/
theorem wpList_append_Row {w : World} {ops : Array Oper} {rest : List Oper} {o : Oper} {a : Act} {Q : Exit → Act → World → Prop} (hgd : o.guard = none) (s x : Operand)
    (ho : o.op = .call { callee := .builtin .append, args := #[s, x], argTypes := #[24, 24] }) (base : Nat) (v vx : Value) (D L : List Fd) (hs : a.eval s = v) (hx : a.eval x = vx)
    (hown : Own w base v D) (hrow : Row w vx L) (hl : D.length + L.length ≤ 1000000) (hbase : base ≤ w.heap.size)
    (h : ∀ v' w', Own w' base v' (D ++ L) → w.grownBy w' v.ownBlock → wpList Tryz.prog ops Q rest (a.put o.dst v') w') :
    wpList Tryz.prog ops Q (o :: rest) a w := by
  obtain ⟨i0, hi0, hz0, hz1, hz2⟩ := info_parts Tryz.info25
  obtain ⟨b, cap, rfl, hcap, hR⟩ := hrow
  by_cases h0 : L.length = 0
  · obtain rfl : L = [] := List.eq_nil_of_length_eq_zero h0
    refine wpList_plain hgd fun K hK => ?_
    have hrun := run_append_owned_zero (P := Tryz.prog) (w := w) base 24 o.type 55 i0 2 Tryz.underlying24 hi0 v D.length (fcells D) hown b cap
    unfold Oper.wp
    simp [execOp, ho, resolve, invoke, builtin, hs, hx, hrun, Result.andThen]
    exact hK _ _ (h v w (by rw [List.append_nil]; exact hown) (grownBy_refl _ _))
  · obtain ⟨g, off, rfl, -, -⟩ := hR 0 (by omega)
    refine wpList_append_own _ hgd s x 24 ho base 55 i0 _ 2 32 Tryz.underlying24 hi0 hz0 hz1 hz2 rfl (by decide) v D.length (fcells D) hs hown ⟨g, off, none⟩ L.length cap (fcells L) hx (fcells_length L) (row_cells (cap := cap) hR) (fcells_one L) (maxLen_of (by omega)) (by omega) hbase ?_
    intro v' w' h1 h2 _
    refine h v' w' ?_ h2
    unfold Own
    rw [List.length_append, fcells_append]
    exact h1

theorem own_block {w : World} {base : Nat} {v : Value} {L : List Fd} (h : Own w base v L) : ∀ k, v.ownBlock = some k → base ≤ k := fun k hk => (World.ownsRow.lt h k hk).1
theorem Row.grown {w w' : World} {v u : Value} {L : List Fd} (h : Row w v L) (hg : w.grownBy w' u.ownBlock) (hu : ∀ g off cap, v = .slice (some ⟨g, off, none⟩) L.length cap → u.ownBlock ≠ some g) : Row w' v L := by
  obtain ⟨a, cap, rfl, h2, h3⟩ := h
  refine ⟨a, cap, rfl, h2, fun k hk => ?_⟩
  obtain ⟨g, off, rfl, hlt, c0, c1⟩ := h3 k hk
  have hb := hg.block g hlt (fun e => hu g off cap rfl e.symm)
  exact ⟨g, off, rfl, Nat.lt_of_lt_of_le hlt hg.size, (World.cell?_of_block (w := w) (a := ⟨g, off + k * 2, none⟩) hb).trans c0, (World.cell?_of_block (w := w) (a := ⟨g, off + k * 2 + 1, none⟩) hb).trans c1⟩

set_option maxHeartbeats 1000000 in
theorem grow_any (m : Nat) (w : World) (h0 : 0 < m) (hm : m ≤ 1000000) :
    Calls Tryz.prog 115 #[.slice none 0 0, .int .i64 m] w fun e w' => ∃ r, e = .returned r ∧ Own w' w.heap.size r [] ∧ Below w.heap.size w w' := by
  obtain ⟨i0, hi0, hz0, hz1, hz2⟩ := info_parts Tryz.info25
  have hrz : ∀ ty, (Builtin.append_ #[24, 3] ty #[.slice none 0 0, .int .i64 (m : Int)]).run Tryz.prog w =
      .ok (.slice (some ⟨w.heap.size, 0, none⟩) m (grownCap w m 0 55)) (w.drew.alloc (.cells (Builtin.zeroCells (Value.agg #[.string ⟨#[]⟩, .string ⟨#[]⟩]).cells m ++ Builtin.zeroCells (Value.agg #[.string ⟨#[]⟩, .string ⟨#[]⟩]).cells (grownCap w m 0 55 - m)) 55)) := fun ty =>
    Lib.run_append_nil_zeros w 24 3 ty 55 i0 _ .i64 .i64 Tryz.underlying24 Tryz.underlying3 hi0 hz0 m h0 (by omega) (by omega) (by rw [hz2]; omega)
  have hge := grownCap_ge w m 0 55
  have hle := grownCap_le_maxLen w m 0 55 (maxLen_of (by omega))
  have hmax : maxLen ≤ 9223372036854775807 := by unfold maxLen; omega
  generalize grownCap w m 0 55 = G at hrz hge hle
  obtain ⟨ROW, hROW⟩ : ∃ ROW, Builtin.zeroCells (Value.agg #[.string ⟨#[]⟩, .string ⟨#[]⟩]).cells m ++ Builtin.zeroCells (Value.agg #[.string ⟨#[]⟩, .string ⟨#[]⟩]).cells (G - m) = ROW := ⟨_, rfl⟩
  have hsz : ROW.size = G * 2 := by
    rw [← hROW]; simp [Builtin.zeroCells, Value.cells]; omega
  rw [hROW] at hrz
  clear hROW
  have hmz : (0 : Int) < m := by omega
  have HO : Hid (Own (w.drew.alloc (.cells ROW 55)) w.heap.size (.slice (some ⟨w.heap.size, 0, none⟩) 0 G) []) :=
    ⟨rfl, Or.inr ⟨w.heap.size, G, ROW, rfl, Nat.le_refl _, heap_alloc_new w.drew _, Nat.zero_le _, hle, hsz, by simp [fcells]⟩⟩
  have HB : Hid (Below w.heap.size w (w.drew.alloc (.cells ROW 55))) := (Below.refl _ _).drew.alloc (Nat.le_refl _) _
  have hG0 : G ≤ 9223372036854775807 := by omega
  go_enter Tryz.func115, Tryz.ntmps115
  go_wp2_with (at_builtin; refine Lib.wpList_append_run _ rfl _ _ _ _ rfl _ _ rfl rfl _ _ (hrz _) ?_)
  go_ret
  exact ⟨_, rfl, HO.out, HB.out⟩

end Go.Proofs.YtmpijlaidnhpnaaGreatDoor

namespace Go.Proofs.YtmpijlaidnhpnaaGreatDoor
set_option linter.unusedVariables false
set_option linter.unusedSimpArgs false
set_option maxRecDepth 100000
open Go.RowKit

theorem Row.slice {w : World} {v : Value} {L : List Fd} (h : Row w v L) : ∃ a cap, v = .slice a L.length cap := by
  obtain ⟨a, cap, rfl, -⟩ := h; exact ⟨a, cap, rfl⟩

set_option maxHeartbeats 4000000 in
theorem concat_any (L M : List Fd) (va vb : Value) (B : Nat) (w : World) (ha : Row w va L) (hb : Row w vb M) (h0 : w.cell? ⟨B, 0, none⟩ = some va) (h1 : w.cell? ⟨B, 1, none⟩ = some vb)
    (hM : 0 < M.length) (hl : L.length + M.length ≤ 1000000) :
    Calls Tryz.prog 93 #[.slice (some ⟨B, 0, none⟩) 2 2] w fun e w' => ∃ r, e = .returned r ∧ Own w' w.heap.size r (L ++ M) ∧ Below w.heap.size w w' := by
  have HA := hide ha
  have HB := hide hb
  obtain ⟨aa, ca, rfl⟩ := ha.slice
  obtain ⟨ab, cb, rfl⟩ := hb.slice
  have hBw : B < w.heap.size := block_lt_of_cell (a := ⟨B, 0, none⟩) h0
  obtain ⟨n, hn⟩ : ∃ n, L.length = n := ⟨_, rfl⟩
  obtain ⟨m, hm⟩ : ∃ m, M.length = m := ⟨_, rfl⟩
  have HN := hide hn
  have HM := hide hm
  rw [hn, hm] at hl
  rw [hn] at h0 HA
  rw [hm] at h1 hM HB
  clear ha hb hn hm
  go_enter Tryz.func93, Tryz.ntmps93
  go_wp2_with fail
  go_loop [3, 5, 11] (fun z _ i => (i = .int .i64 0 ∧ z = .int .i64 0) ∨ (i = .int .i64 1 ∧ z = .int .i64 n) ∨ (i = .int .i64 2 ∧ z = .int .i64 ((n + m : Nat) : Int))) (fun _ _ i => 2 - (intOf i).toNat)
  case atStart => exact Or.inl ⟨rfl, rfl⟩
  case round =>
    rcases hrel with ⟨rfl, rfl⟩ | ⟨rfl, rfl⟩ | ⟨rfl, rfl⟩
    · go_wp2_with fail
      exact ⟨Or.inr (Or.inl ⟨by go_num, by go_num⟩), by simp [intOf]⟩
    · have hx : ¬ (n : Int) + m < 0 := by omega
      go_wp2_with fail
      exact ⟨Or.inr (Or.inr ⟨by go_num, by go_num⟩), by simp [intOf]⟩
    · go_wp2_with fail
      refine (grow_any (n + m) w (by omega) hl).mono ?_
      rintro e w1 ⟨r, rfl, ho, hb1⟩
      have h0' := ((stays hb1).1 B 0 hBw).trans h0
      have h1' := ((stays hb1).1 B 1 hBw).trans h1
      have HA1 := hide (HA.out.below hb1)
      have HB1 := hide (HB.out.below hb1)
      go_wp2_with fail
      go_loopw [6, 8, 27] (fun v _ i wr => Below w.heap.size w wr ∧ ((i = .int .i64 0 ∧ Own wr w.heap.size v []) ∨ (i = .int .i64 1 ∧ Own wr w.heap.size v L) ∨ (i = .int .i64 2 ∧ Own wr w.heap.size v (L ++ M)))) (fun _ _ i _ => 2 - (intOf i).toNat)
      case atStart => exact ⟨hb1, Or.inl ⟨rfl, ho⟩⟩
      case round =>
        obtain ⟨hbr, ⟨rfl, hown⟩ | ⟨rfl, hown⟩ | ⟨rfl, hown⟩⟩ := hrel
        · have d0 := ((stays hbr).1 B 0 hBw).trans h0
          have HR := hide (And.intro (HA.out.below hbr) (And.intro hown hbr))
          clear hown hbr
          go_wp2_with (at_builtin; refine wpList_append_Row rfl (.tmp 31) (.tmp 32) rfl w.heap.size _ _ [] L rfl rfl HR.out.2.1 HR.out.1 (by rw [HN.out]; simp; omega) HR.out.2.2.size ?_; intro v' w2 ho2 hg2)
          have hl2 := HR.out.2.2.grown hg2 HR.out.2.2.size (own_block HR.out.2.1)
          exact ⟨⟨hl2, Or.inr (Or.inl ⟨by go_num, ho2⟩)⟩, by simp [intOf]⟩
        · have d0 := ((stays hbr).1 B 1 hBw).trans h1
          have HR := hide (And.intro (HB.out.below hbr) (And.intro hown hbr))
          clear hown hbr
          go_wp2_with (at_builtin; refine wpList_append_Row rfl (.tmp 31) (.tmp 32) rfl w.heap.size _ _ L M rfl rfl HR.out.2.1 HR.out.1 (by rw [HN.out, HM.out]; omega) HR.out.2.2.size ?_; intro v' w2 ho2 hg2)
          have hl2 := HR.out.2.2.grown hg2 HR.out.2.2.size (own_block HR.out.2.1)
          exact ⟨⟨hl2, Or.inr (Or.inr ⟨by go_num, ho2⟩)⟩, by simp [intOf]⟩
        · go_wp2_with fail
          go_ret
          exact ⟨_, rfl, hown, hbr⟩

/-- What adding a field makes of a row, and the word for it. -/
def addE (L : List Fd) (f : Fd) : Nat := if rightF L && mayF f then (if L.length = 40 then 4 else 0) else 1
def addL (L : List Fd) (f : Fd) : List Fd := if rightF L && mayF f then (if L.length = 40 then [] else L ++ [f]) else []
theorem add_arg {L : List Fd} {f : Fd} (h : (rightF L && mayF f) = false) : addE L f = 1 ∧ addL L f = [] := by
  unfold addE addL; rw [h]; exact ⟨rfl, rfl⟩
theorem add_many {L : List Fd} {f : Fd} (h : (rightF L && mayF f) = true) (g : L.length = 40) : addE L f = 4 ∧ addL L f = [] := by
  unfold addE addL; rw [h, g]; exact ⟨rfl, rfl⟩
theorem add_okay {L : List Fd} {f : Fd} (h : (rightF L && mayF f) = true) (g : L.length ≠ 40) : addE L f = 0 ∧ addL L f = L ++ [f] := by
  unfold addE addL; rw [h, if_pos rfl, if_pos rfl, if_neg g, if_neg g]; exact ⟨rfl, rfl⟩

theorem ret_row {v v' : Value} {b d : Int} (h : v = v') (g : b = d) : Ending.returned (.tuple #[v, .int .i64 b]) = .returned (.tuple #[v', .int .i64 d]) := by rw [h, g]

set_option maxHeartbeats 4000000 in
theorem add_any (L : List Fd) (v : Value) (f : Fd) (w : World) (hr : Row w v L) (hl : L.length ≤ 1000) (hs : Sh L) (hf1 : f.1.size ≤ 10000) (hf2 : f.2.size ≤ 10000) :
    Calls Tryz.prog 69 #[v, .string f.1, .string f.2] w fun e w' => ∃ r, e = .returned (.tuple #[r, .int .i64 (addE L f : Nat)]) ∧ Own w' w.heap.size r (addL L f) ∧ Below w.heap.size w w' := by
  have HR := hide hr
  have HS := hide hs
  obtain ⟨aa, ca, rfl⟩ := hr.slice
  clear hr hs
  go_enter Tryz.func69, Tryz.ntmps69
  go_wp2_with fail
  have hb0 := one_alloc w #[.string f.1, .string f.2] 55
  refine (right_any L _ _ (HR.out.below hb0) (by omega) HS.out).mono ?_
  rintro e w1 ⟨rfl, hb1⟩
  have hB1 := hb0.trans (hb1.mono hb0.size)
  have c0 : w1.cell? ⟨w.heap.size, 0, none⟩ = some (.string f.1) := by rw [(stays hb1).1 _ _ (by simp)]; go_simp
  have c1 : w1.cell? ⟨w.heap.size, 1, none⟩ = some (.string f.2) := by rw [(stays hb1).1 _ _ (by simp)]; go_simp
  have hw1 : w.heap.size < w1.heap.size := by have := hb1.size; simp at this; omega
  clear hb0 hb1
  cases hrt : rightF L
  · have HE := hide (add_arg (f := f) (show (rightF L && mayF f) = false by rw [hrt]; rfl))
    try rw [hrt]
    go_wp2_with fail
    go_ret2
    exact ⟨_, ret_row rfl (by rw [HE.out.1]; rfl), by rw [HE.out.2]; exact Own.nil _ _, hB1⟩
  · go_wp2_with fail
    refine (wrong_any f w1 (by omega) (by omega)).mono ?_
    rintro e w2 ⟨rfl, hb2⟩
    have hB2 := hB1.trans (hb2.mono hB1.size)
    have d0 := ((stays hb2).1 _ _ hw1).trans c0
    have d1 := ((stays hb2).1 _ _ hw1).trans c1
    have hw2 : w.heap.size < w2.heap.size := Nat.lt_of_lt_of_le hw1 hb2.size
    clear c0 c1 hb2 hB1
    cases hmy : mayF f
    · have HE := hide (add_arg (f := f) (show (rightF L && mayF f) = false by rw [hrt, hmy]; rfl))
      try rw [hmy]
      go_wp2_with fail
      go_ret2
      exact ⟨_, ret_row rfl (by rw [HE.out.1]; rfl), by rw [HE.out.2]; exact Own.nil _ _, hB2⟩
    · have hboth : (rightF L && mayF f) = true := by rw [hrt, hmy]; rfl
      by_cases h40 : L.length = 40
      · have HE := hide (add_many hboth h40)
        have h40z : (L.length : Int) = 40 := by omega
        clear hboth
        try rw [hmy]
        go_wp2_with fail
        go_ret2
        exact ⟨_, ret_row rfl (by rw [HE.out.1]; rfl), by rw [HE.out.2]; exact Own.nil _ _, hB2⟩
      · have HE := hide (add_okay hboth h40)
        have h40z : ¬ (L.length : Int) = 40 := by omega
        clear hboth
        have hbx := (one_alloc w2 #[.string f.1, .string f.2] 55)
        have hby : Below w2.heap.size w2 ((w2.alloc (.cells #[.string f.1, .string f.2] 55)).alloc (.cells #[.slice aa L.length ca, .slice (some ⟨w2.heap.size, 0, none⟩) 1 1] 24)) := hbx.alloc hbx.size _
        have hra := (HR.out.below hB2).below hby
        have hrb : Row ((w2.alloc (.cells #[.string f.1, .string f.2] 55)).alloc (.cells #[.slice aa L.length ca, .slice (some ⟨w2.heap.size, 0, none⟩) 1 1] 24)) (.slice (some ⟨w2.heap.size, 0, none⟩) 1 1) [f] := by
          refine ⟨some ⟨w2.heap.size, 0, none⟩, 1, rfl, Nat.le_refl _, fun k hk => ⟨w2.heap.size, 0, rfl, by simp; omega, ?_, ?_⟩⟩
          · obtain rfl : k = 0 := by simp at hk; omega
            go_simp
          · obtain rfl : k = 0 := by simp at hk; omega
            go_simp
        have e0 : ((w2.alloc (.cells #[.string f.1, .string f.2] 55)).alloc (.cells #[.slice aa L.length ca, .slice (some ⟨w2.heap.size, 0, none⟩) 1 1] 24)).cell? ⟨w2.heap.size + 1, 0, none⟩ = some (.slice aa L.length ca) := by go_simp
        have e1 : ((w2.alloc (.cells #[.string f.1, .string f.2] 55)).alloc (.cells #[.slice aa L.length ca, .slice (some ⟨w2.heap.size, 0, none⟩) 1 1] 24)).cell? ⟨w2.heap.size + 1, 1, none⟩ = some (.slice (some ⟨w2.heap.size, 0, none⟩) 1 1) := by go_simp
        have HX := hide (And.intro hra (And.intro hrb (And.intro e0 (And.intro e1 hby))))
        clear hra hrb e0 e1 hbx hby
        try rw [hmy]
        go_wp2_with fail
        refine (concat_any L [f] _ _ (w2.heap.size + 1) _ HX.out.1 HX.out.2.1 HX.out.2.2.1 HX.out.2.2.2.1 (by simp) (by simp; omega)).mono ?_
        rintro e w3 ⟨r, rfl, ho, hb3⟩
        have hB3 := hB2.trans (HX.out.2.2.2.2.mono hB2.size)
        go_wp2_with fail
        go_ret2
        exact ⟨_, ret_row rfl (by rw [HE.out.1]; rfl), by rw [HE.out.2]; exact ho.mono hB3.size, hB3.trans (hb3.mono hB3.size)⟩

end Go.Proofs.YtmpijlaidnhpnaaGreatDoor

namespace Go.Proofs.YtmpijlaidnhpnaaGreatDoor
set_option linter.unusedVariables false
set_option linter.unusedSimpArgs false
set_option maxRecDepth 100000
open Go.RowKit

theorem row_one (w : World) (f : Fd) : Row (w.alloc (.cells #[.string f.1, .string f.2] 55)) (.slice (some ⟨w.heap.size, 0, none⟩) 1 1) [f] := by
  refine ⟨some ⟨w.heap.size, 0, none⟩, 1, rfl, Nat.le_refl _, fun k hk => ⟨w.heap.size, 0, rfl, by simp, ?_, ?_⟩⟩
  · obtain rfl : k = 0 := by simp at hk; omega
    go_simp
  · obtain rfl : k = 0 := by simp at hk; omega
    go_simp

theorem cell_grown {w w' : World} {base : Nat} {v : Value} {D : List Fd} (ho : Own w base v D) (hg : w.grownBy w' v.ownBlock) (hb : base ≤ w.heap.size) {g k : Nat} (hlt : g < base) {u : Value} (h : w.cell? ⟨g, k, none⟩ = some u) : w'.cell? ⟨g, k, none⟩ = some u :=
  (World.cell?_of_block (w := w) (a := ⟨g, k, none⟩) (hg.block g (by omega) (fun e => absurd (own_block ho g e.symm) (by omega)))).trans h
theorem base_alloc {w w' : World} {row : Option Nat} {base : Nat} {o : Obj} (hg : w.grownBy w' row) (hb : base ≤ w.heap.size) : base ≤ (w'.alloc o).heap.size := by
  have := hg.size; simp; omega
theorem own_above {w : World} {base : Nat} {v : Value} {L : List Fd} (h : Own w (base + 1) v L) : ∀ k, v.ownBlock = some k → base ≤ k := fun k hk => by have := own_block h k hk; omega

set_option maxHeartbeats 4000000 in
theorem refadd_any (L : List Fd) (v : Value) (f : Fd) (w : World) (hr : Row w v L) (hl : L.length ≤ 1000) (hs : Sh L) (hf1 : f.1.size ≤ 10000) (hf2 : f.2.size ≤ 10000) :
    Calls Tryz.prog 49 #[v, fv f] w fun e w' => ∃ r, e = .returned (.tuple #[r, .int .i64 (addE L f : Nat)]) ∧ Own w' w.heap.size r (addL L f) ∧ Below w.heap.size w w' := by
  have HR := hide hr
  have HS := hide hs
  obtain ⟨aa, ca, rfl⟩ := hr.slice
  clear hr hs
  unfold fv
  go_enter Tryz.func49, Tryz.ntmps49
  go_wp2_with fail
  have hb0 := one_alloc w #[.string f.1, .string f.2] 55
  refine (refright_any L _ _ (HR.out.below hb0) (by omega) HS.out).mono ?_
  rintro e w1 ⟨rfl, hb1⟩
  have hB1 := hb0.trans (hb1.mono hb0.size)
  have c0 : w1.cell? ⟨w.heap.size, 0, none⟩ = some (.string f.1) := by rw [(stays hb1).1 _ _ (by simp)]; go_simp
  have c1 : w1.cell? ⟨w.heap.size, 1, none⟩ = some (.string f.2) := by rw [(stays hb1).1 _ _ (by simp)]; go_simp
  have hw1 : w.heap.size < w1.heap.size := by have := hb1.size; simp at this; omega
  clear hb0 hb1
  cases hrt : rightF L
  · have HE := hide (add_arg (f := f) (show (rightF L && mayF f) = false by rw [hrt]; rfl))
    try rw [hrt]
    go_wp2_with fail
    go_ret2
    exact ⟨_, ret_row rfl (by rw [HE.out.1]; rfl), by rw [HE.out.2]; exact Own.nil _ _, hB1⟩
  · go_wp2_with fail
    refine (may_any f w1 (by omega) (by omega)).mono ?_
    rintro e w2 ⟨rfl, hb2⟩
    have hB2 := hB1.trans (hb2.mono hB1.size)
    have d0 := ((stays hb2).1 _ _ hw1).trans c0
    have d1 := ((stays hb2).1 _ _ hw1).trans c1
    have hw2 : w.heap.size < w2.heap.size := Nat.lt_of_lt_of_le hw1 hb2.size
    clear c0 c1 hb2 hB1
    cases hmy : mayF f
    · have HE := hide (add_arg (f := f) (show (rightF L && mayF f) = false by rw [hrt, hmy]; rfl))
      try rw [hmy]
      go_wp2_with fail
      go_ret2
      exact ⟨_, ret_row rfl (by rw [HE.out.1]; rfl), by rw [HE.out.2]; exact Own.nil _ _, hB2⟩
    · have hboth : (rightF L && mayF f) = true := by rw [hrt, hmy]; rfl
      by_cases h40 : L.length = 40
      · have HE := hide (add_many hboth h40)
        have h40z : (L.length : Int) = 40 := by omega
        clear hboth
        try rw [hmy]
        go_wp2_with fail
        go_ret2
        exact ⟨_, ret_row rfl (by rw [HE.out.1]; rfl), by rw [HE.out.2]; exact Own.nil _ _, hB2⟩
      · have HE := hide (add_okay hboth h40)
        have h40z : ¬ (L.length : Int) = 40 := by omega
        clear hboth
        have hbx : Below w.heap.size w (w2.alloc (.cells #[] 55)) := hB2.alloc hB2.size _
        have hra := HR.out.below hbx
        have hown : Own (w2.alloc (.cells #[] 55)) (w.heap.size + 1) (.slice (some ⟨w2.heap.size, 0, none⟩) 0 0) [] := World.ownsRow_lit w2 #[] 0 (by omega) (by decide) rfl
        have hx0 : w.heap.size + 1 ≤ (w2.alloc (.cells #[] 55)).heap.size := by simp; omega
        have x0 : (w2.alloc (.cells #[] 55)).cell? ⟨w.heap.size, 0, none⟩ = some (.string f.1) := by rw [(stays (one_alloc w2 _ _)).1 _ _ hw2]; exact d0
        have x1 : (w2.alloc (.cells #[] 55)).cell? ⟨w.heap.size, 1, none⟩ = some (.string f.2) := by rw [(stays (one_alloc w2 _ _)).1 _ _ hw2]; exact d1
        have HX := hide (And.intro hra (And.intro hown (And.intro hbx (And.intro hx0 (And.intro x0 x1)))))
        clear hra hown hbx hx0 x0 x1
        try rw [hmy]
        go_wp2_with (first
          | (at_builtin; refine wpList_append_Row rfl (.tmp 19) (.tmp 20) rfl (w.heap.size + 1) (.slice (some ⟨w2.heap.size, 0, none⟩) 0 0) (.slice aa L.length ca) [] L rfl rfl HX.out.2.1 HX.out.1 (by simp; omega) HX.out.2.2.2.1 ?_; intro v' w3 ho3 hg3; have e0 := cell_grown HX.out.2.1 hg3 HX.out.2.2.2.1 (Nat.lt_succ_self _) HX.out.2.2.2.2.1; have e1 := cell_grown HX.out.2.1 hg3 HX.out.2.2.2.1 (Nat.lt_succ_self _) HX.out.2.2.2.2.2; have HY := hide (And.intro (ho3.alloc (.cells #[.string f.1, .string f.2] 55)) (And.intro (row_one w3 f) (And.intro (base_alloc (o := .cells #[.string f.1, .string f.2] 55) hg3 HX.out.2.2.2.1) ((HX.out.2.2.1.grown hg3 HX.out.2.2.1.size (own_above HX.out.2.1)))))))
          | (at_builtin; refine wpList_append_Row rfl (.tmp 22) (.tmp 24) rfl (w.heap.size + 1) v' (.slice (some ⟨w3.heap.size, 0, none⟩) 1 1) ([] ++ L) [f] rfl rfl HY.out.1 HY.out.2.1 (by simp; omega) HY.out.2.2.1 ?_; intro v'' w4 ho4 hg4))
        have hB3 := HY.out.2.2.2
        have hB4 := (hB3.alloc hB3.size (.cells #[.string f.1, .string f.2] 55)).grown hg4 (Nat.le_of_succ_le HY.out.2.2.1) (own_above HY.out.1)
        go_ret2
        exact ⟨_, ret_row rfl (by rw [HE.out.1]; rfl), by rw [HE.out.2]; exact ho4.mono (Nat.le_succ _), hB4⟩

theorem alive_facts : addE [] (⟨#[97]⟩, ⟨#[49]⟩) = 0 ∧ addL [] (⟨#[97]⟩, ⟨#[49]⟩) = [(⟨#[97]⟩, ⟨#[49]⟩)] ∧ getS ⟨#[65]⟩ [(⟨#[97]⟩, ⟨#[49]⟩)] = ⟨#[49]⟩ ∧ hasB ⟨#[65]⟩ [(⟨#[97]⟩, ⟨#[49]⟩)] = true := by
  refine ⟨by decide +kernel, by decide +kernel, by decide +kernel, by decide +kernel⟩

end Go.Proofs.YtmpijlaidnhpnaaGreatDoor
