/- A text parted at its blanks, by the library's Split; whether a part is there. -/
import Derived.Test.YtkakinakjnpbjaaDoorSp
import Derived.Test.YtkakinakjnpbjaaDoorFp
import Derived.Lib.IndexBytes
import Derived.Lib.SplitLaws
namespace Go.Proofs.YtkakinakjnpbjaaDoor
set_option linter.unusedVariables false
set_option linter.unusedSimpArgs false
open Go.RowKit

/-- Where c stands first; -1: nowhere. -/
def ixI (c : UInt8) (l : List UInt8) : Int := if atN c l < l.length then (atN c l : Int) else -1
theorem indexByte_ix (c : UInt8) : ∀ l : List UInt8, Lib.indexByte l c = ixI c l
  | [] => by simp [Lib.indexByte, ixI, atN]
  | b :: l => by
    have ih := indexByte_ix c l
    rw [Lib.indexByte, ih]
    unfold ixI atN
    rw [List.takeWhile_cons]
    by_cases h : b = c
    · subst h; simp [neB]
    · have h1 : (b == c) = false := by simpa using h
      have h2 : neB c b = true := by simpa [neB] using h
      rw [h1, h2]
      simp only [Bool.false_eq_true, if_false, if_true, List.length_cons]
      by_cases g : (l.takeWhile (neB c)).length < l.length
      · have e : (((l.takeWhile (neB c)).length : Int) == -1) = false := by rw [beq_eq_false_iff_ne]; omega
        have g' : (l.takeWhile (neB c)).length + 1 < l.length + 1 := by omega
        simp only [g, g', e, if_true, Bool.false_eq_true, if_false]
        omega
      · have g' : ¬ (l.takeWhile (neB c)).length + 1 < l.length + 1 := by omega
        simp [g, g']

theorem splitK_blank : ∀ (n : Nat) (l : List UInt8), l.length ≤ n → Lib.splitK [32] 0 (l.count 32) l = splB 32 l
  | 0, l, h => by
    obtain rfl : l = [] := List.length_eq_zero_iff.1 (by omega)
    rfl
  | n + 1, l, h => by
    by_cases hm : atN 32 l < l.length
    · have hc : l.count 32 = (l.drop (atN 32 l + 1)).count 32 + 1 := by
        conv => lhs; rw [parted hm]
        rw [List.count_append, List.count_cons_self, List.count_eq_zero.2 (fun hh => by have := take_no (c := 32) l _ hh; simp [neB] at this)]
        omega
      have hn : ¬ (((atN 32 l : Nat) : Int) == -1) = true := by rw [beq_iff_eq]; omega
      rw [hc, Lib.splitK, Lib.index_one, indexByte_ix, ixI, if_pos hm, if_neg hn, Int.toNat_natCast, Nat.add_zero, show ([32] : List UInt8).length = 1 from rfl, splitK_blank n _ (by rw [List.length_drop]; omega), splB_yes hm]
    · have hc : l.count 32 = 0 := List.count_eq_zero.2 (fun hh => by have := none_no hm _ hh; simp [neB] at this)
      rw [hc, splB_no hm]; rfl

theorem index_any (s : ByteArray) (w : World) : Calls Tryd.prog 54 #[.string s, .string ⟨#[32]⟩] w fun e w' => e = .returned (.int .i64 (Lib.indexB s ⟨#[32]⟩)) ∧ w' = w := by
  refine (Tryd.strings_Index_one s 32 w).mono fun e w' ⟨he, hw⟩ => ⟨?_, hw⟩
  rw [he, ← Lib.index_one]
theorem count_any (s : ByteArray) (w : World) : Calls Tryd.prog 53 #[.string s, .string ⟨#[32]⟩] w fun e w' => e = .returned (.int .i64 (Lib.countB s ⟨#[32]⟩)) ∧ w' = w := by
  refine (Tryd.strings_Count_one s 32 w).mono fun e w' ⟨he, hw⟩ => ⟨?_, hw⟩
  rw [he]
  show _ = Ending.returned (Value.int .i64 ((Lib.count s.data.toList [32] : Nat) : Int))
  rw [Lib.count_one]
  rfl

/-- A text's parts between blanks. -/
def blP (s : ByteArray) : List (List UInt8) := splB 32 s.data.toList
theorem bl_cells (s : ByteArray) : (Lib.splitB ⟨#[32]⟩ 0 (Lib.countB s ⟨#[32]⟩) s).map Value.string = strs (blP s) := by
  have h := Lib.splitB_data ⟨#[32]⟩ 0 (Lib.countB s ⟨#[32]⟩) s
  have e : Lib.countB s ⟨#[32]⟩ = s.data.toList.count 32 := Lib.count_one 32 _
  rw [e] at h
  have g : Lib.splitK [32] 0 (s.data.toList.count 32) s.data.toList = splB 32 s.data.toList := splitK_blank _ _ (Nat.le_refl _)
  rw [show (⟨#[32]⟩ : ByteArray).data.toList = [32] from rfl, g] at h
  rw [e]
  unfold strs blP
  rw [← h, List.map_map]
  rfl
theorem bl_len (s : ByteArray) : (blP s).length = Lib.countB s ⟨#[32]⟩ + 1 := by
  rw [← strs_length, ← bl_cells, List.length_map]
  exact Lib.splitB_all _ (by decide) 0 _ s rfl

set_option maxRecDepth 100000 in
set_option maxHeartbeats 1000000 in
theorem splitB_any (s : ByteArray) (w : World) (hs : s.size ≤ 10000) :
    Calls Tryd.prog 25 #[.string s, .string ⟨#[32]⟩] w fun e w' =>
      e = .returned (.slice (some ⟨w.heap.size, 0, none⟩) (blP s).length (blP s).length) ∧ w' = w.alloc (.cells (strs (blP s)).toArray 9) := by
  have h1 : 1 ≤ (⟨#[32]⟩ : ByteArray).size := by decide
  have hle := Lib.countB_le ⟨#[32]⟩ h1 s.size s (Nat.le_refl _)
  have c : Calls Tryd.prog 41 #[.string s, .string ⟨#[32]⟩, .int .i64 (0 : Nat), .int .i64 (-1)] w _ :=
    Any.strings_genSplit_core Tryd.lays221 (by kernel_rfl) s ⟨#[32]⟩ 0 (-1) (Lib.countB s ⟨#[32]⟩ + 1) w (by omega) h1 (Nat.zero_le _) (fun x c _ => index_any x _) (count_any s w) (by decide) (by decide) (by rw [if_pos (by decide)]; omega)
  have hlen := Lib.splitB_all ⟨#[32]⟩ h1 0 _ s rfl
  rw [Nat.add_sub_cancel, ← hlen, Lib.cellsOf_full, bl_cells, hlen, ← bl_len] at c
  clear hle h1 hlen
  go_enter Tryd.func25, Tryd.ntmps25
  go_wp2_with fail
  refine c.mono ?_
  rintro e w1 ⟨rfl, rfl⟩
  go_wp2_with fail
  go_ret
  exact ⟨rfl, rfl⟩

def isB (v : ByteArray) (p : List UInt8) : Bool := v.toList == (bs p).toList
theorem isB_is (v : ByteArray) (p : List UInt8) : isB v p = (v.data.toList == p) := by unfold isB; rw [bs_toList, ByteArray.toList_eq]
theorem any_is (v : ByteArray) (P : List (List UInt8)) : P.any (isB v) = P.contains v.data.toList := by
  rw [List.contains_eq_any_beq]; congr 1; funext p; exact isB_is v p

set_option maxHeartbeats 1000000 in
theorem index_row (P : List (List UInt8)) (v : ByteArray) (B : Nat) (w : World) (hl : P.length ≤ 1000000) (hc : w.heap[B]? = some (.cells (strs P).toArray 9 (0, 0))) :
    Calls Tryd.prog 40 #[.slice (some ⟨B, 0, none⟩) P.length P.length, .string v] w fun e w' => ∃ i : Int, e = .returned (.int .i64 i) ∧ decide (0 ≤ i) = P.any (isB v) ∧ w' = w := by
  have HC : Hid (∀ k (h : k < P.length), w.cell? ⟨B, k, none⟩ = some (.string (bs P[k]))) := by
    intro k hk
    rw [cell_of_row w B k _ 9 (0, 0) hc]
    simp [strs, hk, bs]
  clear hc
  go_enter Tryd.func40, Tryd.ntmps40
  go_wp2_with fail
  go_loop [5, 8] (fun _ i => ∃ k : Nat, k ≤ P.length ∧ i = .int .i64 k ∧ Hid (∀ p ∈ P.take k, isB v p = false)) (fun _ i => P.length - (intOf i).toNat)
  case atStart => exact ⟨0, Nat.zero_le _, rfl, by simp [Hid]⟩
  case round =>
    obtain ⟨k, hk, rfl, hall⟩ := hrel
    by_cases hlt : k < P.length
    · have hltz : (k : Int) < P.length := by omega
      have c0 := HC.out k hlt
      have NXT := hide (take_next (p := fun f => isB v f = false) hlt hall.out)
      have HIT : Hid (isB v P[k] = true → P.any (isB v) = true) := fun h => List.any_eq_true.2 ⟨_, List.getElem_mem hlt, h⟩
      obtain ⟨x, hx⟩ : ∃ x, P[k]'hlt = x := ⟨_, rfl⟩
      rw [hx] at c0 NXT HIT
      clear hx hall
      cases hp : isB v x
      · have hq : (v.toList == (bs x).toList) = _ := hp
        go_wp2_with fail
        exact ⟨⟨k + 1, by omega, by go_num, NXT.out hp⟩, by simp [intOf]; omega⟩
      · have hq : (v.toList == (bs x).toList) = _ := hp
        have HT := hide (HIT.out hp)
        go_wp2_with fail
        go_ret
        exact ⟨(k : Int), rfl, by rw [HT.out]; simp, rfl⟩
    · have hd : decide ((k : Int) < P.length) = false := decide_eq_false (by omega)
      rw [List.take_of_length_le (by omega)] at hall
      have HN : Hid (P.any (isB v) = false) := List.any_eq_false.2 (fun p hp => by rw [hall.out p hp]; decide)
      go_wp2_with fail
      go_ret
      exact ⟨-1, rfl, by rw [HN.out]; rfl, rfl⟩

theorem contains_row (P : List (List UInt8)) (v : ByteArray) (B : Nat) (w : World) (hl : P.length ≤ 1000000) (hc : w.heap[B]? = some (.cells (strs P).toArray 9 (0, 0))) :
    Calls Tryd.prog 24 #[.slice (some ⟨B, 0, none⟩) P.length P.length, .string v] w fun e w' => e = .returned (.bool (P.contains v.data.toList)) ∧ w' = w := by
  have h := index_row P v B w hl hc
  rw [any_is] at h
  clear hc
  go_enter Tryd.func24, Tryd.ntmps24
  go_wp2_with fail
  refine h.mono ?_
  rintro e w1 ⟨i, rfl, hi, rfl⟩
  go_wp2_with fail
  go_ret
  refine ⟨?_, rfl⟩
  show Ending.returned (Value.bool (decide (v.data.toList ∈ P))) = _
  simp

end Go.Proofs.YtkakinakjnpbjaaDoor
