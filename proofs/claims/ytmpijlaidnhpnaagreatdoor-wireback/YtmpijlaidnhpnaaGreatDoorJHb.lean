/- The walks of a builder of texts: it is asked whether it was copied, and a text is put behind. The walks of what writes a row: the program's, and the document's own. -/
import Derived.Test.YtmpijlaidnhpnaaGreatDoorJHc
import Derived.OwnWalk
import Derived.Lib.Builder
import Derived.Test.YtmpijlaidnhpnaaGreatDoorJWl
namespace Go.Proofs.YtmpijlaidnhpnaaGreatDoor.Hd
set_option linter.unusedVariables false
set_option linter.unusedSimpArgs false
set_option maxRecDepth 100000
open Go.RowKit

theorem Tryz.sizeBuilder : (Tryz.prog.info? 92).map (·.size) = some 2 := by kernel_rfl
theorem Tryz.liesBuilder : liesAt Tryz.prog Tryz.prog.depth 92 (2 / Tryz.prog.cellsOf 92) 0 92 1 = true := by kernel_rfl
theorem Tryz.infoByte : (Tryz.prog.info? 5).map (fun i => (i.zero, i.size, i.bytes)) = some (some (.int .u8 0), 1, 1) := by kernel_rfl

set_option maxHeartbeats 1000000 in
set_option maxRecDepth 100000 in
theorem check_used (b : Nat) (w : World) (h0 : w.cell? ⟨b, 0, none⟩ = some (.pointer (some ⟨b, 0, none⟩))) :
    Calls Tryz.prog 94 #[.pointer (some ⟨b, 0, none⟩)] w fun e w' => e = .returned (.tuple #[]) ∧ w' = w := by
  obtain ⟨j, hj, _⟩ := Option.map_eq_some_iff.1 Tryz.sizeBuilder
  go_enter Tryz.func94, Tryz.ntmps94
  go_wp2
  rw [Lib.run_neq_ptr_same w _ Tryz.underlying89 hj]
  go_wp2
  go_end0
  exact ⟨rfl, rfl⟩

set_option maxHeartbeats 1000000 in
set_option maxRecDepth 100000 in
theorem check_fresh (b : Nat) (w : World) (h0 : w.cell? ⟨b, 0, none⟩ = some (.pointer none)) (hsh : w.shape? b = some (92, 2)) (hfz : w.frozen? ⟨b, 0, none⟩ = false) :
    Calls Tryz.prog 94 #[.pointer (some ⟨b, 0, none⟩)] w fun e w' => e = .returned (.tuple #[]) ∧ w' = w.setCell ⟨b, 0, none⟩ (.pointer (some ⟨b, 0, none⟩)) := by
  obtain ⟨j, hj, hjs⟩ := Option.map_eq_some_iff.1 Tryz.sizeBuilder
  go_enter Tryz.func94, Tryz.ntmps94
  go_wp2
  rw [Lib.run_to_unsafe w ⟨b, 0, none⟩ Tryz.underlying89 Tryz.underlying133 hj (by rw [hjs]; decide) hsh (Nat.zero_lt_succ 1)]
  simp only [Result.andThen]
  rw [Oper.upon_value]
  go_wp2
  rw [run_callFunc_extern Tryz.func116 (by kernel_rfl) (by kernel_rfl) (by kernel_rfl) (e := Extern.AbiNoEscape.same) (by kernel_rfl)]
  rw [Lib.run_noEscape]
  simp only [Result.andThen]
  rw [Oper.upon_value]
  go_wp2
  rw [Lib.run_from_unsafe w ⟨b, 0, none⟩ Tryz.underlying133 Tryz.underlying89 hj hsh Tryz.liesBuilder]
  simp only [Result.andThen]
  rw [Oper.upon_value]
  go_wp2
  go_end0
  exact ⟨rfl, rfl⟩

theorem check_any (B b : Nat) (bs : List Value) (w : World) (h : Lib.IsBuilder 92 5 B b bs w) :
    Calls Tryz.prog 94 #[.pointer (some ⟨b, 0, none⟩)] w fun e w' => e = .returned (.tuple #[]) ∧ (Lib.BuilderAt 92 5 B b (.pointer (some ⟨b, 0, none⟩)) bs w' ∧ Below B w w') := by
  rcases h with h | h
  · refine (check_fresh b w h.cell0 h.shape h.frozen0).mono ?_
    rintro e w' ⟨rfl, rfl⟩
    exact ⟨rfl, h.used _, (Below.refl B w).setCell (p := ⟨b, 0, none⟩) h.1 _⟩
  · refine (check_used b w h.cell0).mono ?_
    rintro e w' ⟨rfl, rfl⟩
    exact ⟨rfl, h, Below.refl B _⟩

set_option maxHeartbeats 2000000 in
set_option maxRecDepth 100000 in
theorem write_any (B b : Nat) (l : List UInt8) (s : ByteArray) (w : World) (h : Lib.IsBuilder 92 5 B b (Lib.byteCells l) w) (hlen : l.length + s.size ≤ 1000000) (hBw : B ≤ w.heap.size) :
    Calls Tryz.prog 70 #[.pointer (some ⟨b, 0, none⟩), .string s] w fun e w' => e = .returned (.tuple #[.int .i64 s.size, .nilIface]) ∧ Lib.IsBuilder 92 5 B b (Lib.byteCells (l ++ s.data.toList)) w' ∧ Below B w w' := by
  obtain ⟨i0, hi, hz0, hz1, hz2⟩ := info_parts Tryz.infoByte
  have HE : Hid (Lib.byteCells (l ++ s.data.toList) = Lib.byteCells l ++ Lib.strCells s) := by unfold Hid; rw [Lib.byteCells_append]; rfl
  have hlb := Lib.byteCells_length l
  generalize Lib.byteCells l = bsv at h HE hlb
  go_enter Tryz.func70, Tryz.ntmps70
  go_wp2_with fail
  refine (check_any B b bsv _ h).mono ?_
  rintro e w1 ⟨rfl, h1, hb1⟩
  obtain ⟨hB, v, hbk, hown, hne⟩ := h1
  have c0 : w1.cell? ⟨b, 0, none⟩ = some (.pointer (some ⟨b, 0, none⟩)) := by rw [Lib.cell_of_heap hbk]; rfl
  have c1 : w1.cell? ⟨b, 1, none⟩ = some v := by rw [Lib.cell_of_heap hbk]; rfl
  go_wp2_with (at_builtin; refine Lib.wpList_append_own_string _ rfl _ _ 90 9 rfl B 5 i0 Tryz.underlying90 Tryz.underlying9 hi hz0 hz1 hz2 _ _ _ rfl hown s rfl ?c3 ?c4 ?c5 ?_)
  case c3 => unfold maxLen; omega
  case c4 => omega
  case c5 => have := hb1.size; omega
  intro v' w2 hown' hgrow _
  have hlt : b < w1.heap.size := by
    rcases Nat.lt_or_ge b w1.heap.size with h' | h'
    · exact h'
    · simp [Array.getElem?_eq_none h'] at hbk
  have hb2 : w2.heap[b]? = some (.cells #[.pointer (some ⟨b, 0, none⟩), v] 92 (0, 0)) := by
    rw [hgrow.block b hlt (fun e => hne e.symm)]
    exact hbk
  have d0 : w2.cell? ⟨b, 0, none⟩ = some (.pointer (some ⟨b, 0, none⟩)) := by rw [Lib.cell_of_heap hb2]; rfl
  have d1 : w2.cell? ⟨b, 1, none⟩ = some v := by rw [Lib.cell_of_heap hb2]; rfl
  have f1 : w2.frozen? ⟨b, 1, none⟩ = false := Lib.frozen_of_heap hb2 1
  obtain ⟨ao, n', cap, rfl⟩ : ∃ ao n' cap, v' = .slice ao n' cap := by
    rcases hown'.2 with ⟨hv, _⟩ | ⟨g, cap, cur, hv, _⟩
    · exact ⟨_, _, _, hv⟩
    · exact ⟨_, _, _, hv⟩
  go_wp2_with fail
  go_ret2
  refine ⟨rfl, ?_, ?_⟩
  · rw [HE.out]
    exact Or.inr (Lib.BuilderAt.put (T := 92) (e := 5) hB hb2 (bs' := bsv ++ Lib.strCells s) (by simpa [Lib.strCells_length, hlb] using hown') (by decide))
  · exact (hb1.grown hgrow (by have := hb1.size; omega) (fun k hk => (hown.lt k hk).1)).setCell (p := ⟨b, 1, none⟩) hB _

end Go.Proofs.YtmpijlaidnhpnaaGreatDoor.Hd

namespace Go.Proofs.YtmpijlaidnhpnaaGreatDoor.Hd
set_option linter.unusedVariables false
set_option linter.unusedSimpArgs false
set_option maxRecDepth 100000
open Go.RowKit

theorem isB_below {B b : Nat} {c : List Value} {w w' : World} (h : Lib.IsBuilder 92 5 B b c w) (hb : Below w.heap.size w w') : Lib.IsBuilder 92 5 B b c w' := by
  have go : ∀ p, Lib.BuilderAt 92 5 B b p c w → Lib.BuilderAt 92 5 B b p c w' := by
    intro p hp
    have hlt := hp.lt
    obtain ⟨hB, v, hh, hown, hne⟩ := hp
    exact ⟨hB, v, (hb.block b hlt).trans hh, owns_below hown hb, hne⟩
  rcases h with h | h
  · exact Or.inl (go _ h)
  · exact Or.inr (go _ h)

theorem wr1_len (f : Fd) : (wr1 f).length = f.1.size + f.2.size + 4 := by
  unfold wr1
  rw [List.length_append, size_list, List.length_cons, List.length_cons, List.length_append, size_list]; simp; omega
theorem wr_len {L : List Fd} (h : Sh L) : (wrL L).length ≤ L.length * 20004 := by
  induction L with
  | nil => simp [wrL]
  | cons f L ih =>
    rw [wrL_cons, List.length_append, wr1_len, List.length_cons]
    have := h f (by simp)
    have := ih (fun g hg => h g (by simp [hg]))
    omega
theorem wr_take {L : List Fd} (h : Sh L) {k : Nat} (hk : k < L.length) : wrL (L.take (k + 1)) = wrL (L.take k) ++ wr1 L[k] ∧ (wrL (L.take k)).length ≤ k * 20004 := by
  refine ⟨?_, ?_⟩
  · rw [List.take_succ_eq_append_getElem hk, wrL_append]; simp [wrL]
  · have := wr_len (L := L.take k) (fun f hf => h f (List.mem_of_mem_take hf))
    rw [List.length_take, Nat.min_eq_left (by omega)] at this
    exact this
theorem wr1_cat (a b : ByteArray) (o : ByteArray) : o ++ a ++ ⟨#[58, 32]⟩ ++ b ++ ⟨#[13, 10]⟩ = bs (o.data.toList ++ wr1 (a, b)) := by
  apply bytes_ext
  rw [bs_list]
  simp [wr1]
theorem wr1_own (a b : ByteArray) : a ++ ⟨#[58, 32]⟩ ++ b ++ ⟨#[13, 10]⟩ = bs (wr1 (a, b)) := by
  apply bytes_ext
  rw [bs_list]
  simp [wr1]

set_option maxRecDepth 100000 in
set_option maxHeartbeats 2000000 in
theorem refwrite_any (L : List Fd) (v : Value) (w : World) (hr : Row w v L) (hl : L.length ≤ 45) (hs : Sh L) :
    Calls Tryz.prog 28 #[v] w fun e w' => e = .returned (.string (bs (wrL L))) ∧ Below w.heap.size w w' := by
  obtain ⟨a, cap, rfl, hcap, hR⟩ := hr
  have HR := hide hR
  have HS := hide hs
  clear hR hs
  go_enter Tryz.func28, Tryz.ntmps28
  go_wp2_with fail
  go_loopw [3, 5, 8] (fun o _ i wr => ∃ k : Nat, k ≤ L.length ∧ i = .int .i64 k ∧ o = .string (bs (wrL (L.take k))) ∧ Below w.heap.size w wr) (fun _ _ i _ => L.length - (intOf i).toNat)
  case atStart => exact ⟨0, Nat.zero_le _, rfl, rfl, Below.refl _ _⟩
  case round =>
    obtain ⟨k, hk, rfl, rfl, hbr⟩ := hrel
    by_cases hlt : k < L.length
    · have hltz : (k : Int) < L.length := by omega
      obtain ⟨g, off, rfl, hg, c0, c1⟩ := HR.out k hlt
      rw [← (stays hbr).1 _ _ hg] at c0 c1
      have hsh := HS.out _ (List.getElem_mem hlt)
      have HW := hide (wr_take HS.out hlt)
      obtain ⟨x, hx⟩ : ∃ x, L[k]'hlt = x := ⟨_, rfl⟩
      rw [hx] at c0 c1 hsh HW
      obtain ⟨o, ho⟩ : ∃ o, bs (wrL (L.take k)) = o := ⟨_, rfl⟩
      have hol : o.data.toList = wrL (L.take k) := by rw [← ho, bs_list]
      have hos : o.size ≤ 950000 := by rw [← size_list, hol]; have := HW.out.2; omega
      have HC := hide (wr1_cat x.1 x.2 o)
      rw [hol, ← HW.out.1] at HC
      clear hx HR hol HW
      rw [ho]
      clear ho
      go_wp2_with fail
      exact ⟨⟨k + 1, by omega, by go_num, by rw [HC.out], hbr.alloc hbr.size _⟩, by simp [intOf]; omega⟩
    · have hd : decide ((k : Int) < L.length) = false := decide_eq_false (by omega)
      rw [List.take_of_length_le (by omega)]
      go_wp2_with fail
      go_ret
      exact ⟨rfl, hbr⟩

/-- What Print answers. -/
def prS (L : List Fd) : ByteArray := if rightF L then (if 4000 < (wrL L).length then ⟨#[]⟩ else bs (wrL L)) else ⟨#[]⟩
def prE (L : List Fd) : Int := if rightF L then (if 4000 < (wrL L).length then 2 else 0) else 1
theorem pr_not {L : List Fd} (h : rightF L = false) : prS L = ⟨#[]⟩ ∧ prE L = 1 := by unfold prS prE; rw [h]; exact ⟨rfl, rfl⟩
theorem pr_long {L : List Fd} (h : rightF L = true) (g : 4000 < (wrL L).length) : prS L = ⟨#[]⟩ ∧ prE L = 2 := by unfold prS prE; rw [if_pos h, if_pos h, if_pos g, if_pos g]; exact ⟨rfl, rfl⟩
theorem pr_yes {L : List Fd} (h : rightF L = true) (g : ¬ 4000 < (wrL L).length) : prS L = bs (wrL L) ∧ prE L = 0 := by unfold prS prE; rw [if_pos h, if_pos h, if_neg g, if_neg g]; exact ⟨rfl, rfl⟩
theorem pr_ok {L : List Fd} (h : prE L = 0) : rightF L = true ∧ (wrL L).length ≤ 4000 ∧ prS L = bs (wrL L) := by
  cases hr : rightF L
  · rw [(pr_not hr).2] at h; exact absurd h (by decide)
  · by_cases g : 4000 < (wrL L).length
    · rw [(pr_long hr g).2] at h; exact absurd h (by decide)
    · exact ⟨rfl, by omega, (pr_yes hr g).1⟩
theorem ret_print {a c : ByteArray} {b d : Int} (h : a = c ∧ b = d) : Ending.returned (.tuple #[.string c, .int .i64 d]) = .returned (.tuple #[.string a, .int .i64 b]) := by rw [h.1, h.2]

set_option maxRecDepth 100000 in
set_option maxHeartbeats 4000000 in
theorem print_any (L : List Fd) (v : Value) (w : World) (hr : Row w v L) (hl : L.length ≤ 1000000) (hs : Sh L) :
    Calls Tryz.prog 42 #[v] w fun e w' => e = .returned (.tuple #[.string (prS L), .int .i64 (prE L)]) ∧ Below w.heap.size w w' := by
  have HRow := hide hr
  obtain ⟨a, cap, rfl, hcap, hR⟩ := hr
  have HR := hide hR
  have HS := hide hs
  clear hR hs
  go_enter Tryz.func42, Tryz.ntmps42
  go_wp2_with fail
  refine (right_any L _ w HRow.out hl HS.out).mono ?_
  rintro e w1 ⟨rfl, hb1⟩
  cases hrt : rightF L
  · have HN := hide (pr_not hrt)
    go_wp2_with fail
    go_ret2
    exact ⟨ret_print HN.out, hb1⟩
  · have h40 : L.length ≤ 40 := (right_parts hrt).1
    have HRT := hide hrt
    go_wp2_with fail
    have hI : Lib.IsBuilder 92 5 w1.heap.size w1.heap.size (Lib.byteCells []) (w1.alloc (.cells #[.pointer none, .slice none 0 0] 92)) := Lib.fresh_isBuilder 92 5 w1
    have hB2 := hb1.alloc hb1.size (.cells #[.pointer none, .slice none 0 0] 92)
    have hN2 : w1.heap.size ≤ (w1.alloc (.cells #[.pointer none, .slice none 0 0] 92)).heap.size := by simp
    have hN0 := hb1.size
    generalize (w1.alloc (.cells #[.pointer none, .slice none 0 0] 92)) = w2 at hI hB2 hN2 ⊢
    generalize w1.heap.size = b at hI hN2 hN0 ⊢
    go_loopw [6, 12] (fun _ i wr => ∃ k : Nat, k ≤ L.length ∧ i = .int .i64 k ∧ Below w.heap.size w wr ∧ b ≤ wr.heap.size ∧ Lib.IsBuilder 92 5 b b (Lib.byteCells (wrL (L.take k))) wr) (fun _ i _ => L.length - (intOf i).toNat)
    case atStart => exact ⟨0, Nat.zero_le _, rfl, hB2, hN2, hI⟩
    case round =>
      obtain ⟨k, hk, rfl, hbr, hbn, hib⟩ := hrel
      by_cases hlt : k < L.length
      · have hltz : (k : Int) < L.length := by omega
        obtain ⟨g, off, rfl, hg, c0, c1⟩ := HR.out k hlt
        rw [← (stays hbr).1 _ _ hg] at c0 c1
        have hsh := HS.out _ (List.getElem_mem hlt)
        have HW := hide (wr_take HS.out hlt)
        obtain ⟨x, hx⟩ : ∃ x, L[k]'hlt = x := ⟨_, rfl⟩
        rw [hx] at c0 c1 hsh HW
        have HC := hide (wr1_own x.1 x.2)
        have hol := HW.out.2
        have h1l := wr1_len x
        clear hx HR
        have hib2 := isB_below hib (one_alloc wr #[.string x.1, .string x.2] 55)
        have hbr2 := hbr.alloc hbr.size (.cells #[.string x.1, .string x.2] 55)
        go_wp2_with fail
        rw [HC.out]
        refine (write_any b b (wrL (L.take k)) (bs (wr1 x)) _ hib2 (by rw [bs_size]; omega) (by simp; omega)).mono ?_
        rintro e w4 ⟨rfl, hI4, hb4⟩
        rw [bs_list, ← HW.out.1] at hI4
        go_wp2_with fail
        refine ⟨⟨k + 1, by omega, by go_num, hbr2.trans (hb4.mono hN0), Nat.le_trans hbn (Nat.le_trans (by simp) hb4.size), hI4⟩, by simp [intOf]; omega⟩
      · have hd : decide ((k : Int) < L.length) = false := decide_eq_false (by omega)
        rw [List.take_of_length_le (by omega)] at hib
        have hLen := Tryz.Builder_Len b b _ wr hib
        rw [Lib.byteCells_length] at hLen
        have hStr := Tryz.Builder_String_any b b _ wr hib hbn
        go_wp2_with fail
        refine hLen.mono ?_
        rintro e w5 ⟨rfl, rfl⟩
        by_cases h4 : 4000 < (wrL L).length
        · have h4z : (4000 : Int) < ((wrL L).length : Int) := by omega
          have HN := hide (pr_long HRT.out h4)
          go_wp2_with fail
          go_ret2
          exact ⟨ret_print HN.out, hbr⟩
        · have h4d : decide ((4000 : Int) < ((wrL L).length : Int)) = false := decide_eq_false (by omega)
          have HN := hide (pr_yes HRT.out h4)
          go_wp2_with fail
          refine hStr.mono ?_
          rintro e w6 ⟨rfl, hb6⟩
          go_wp2_with fail
          go_ret2
          exact ⟨ret_print HN.out, hbr.trans (hb6.mono hN0)⟩

end Go.Proofs.YtmpijlaidnhpnaaGreatDoor.Hd
