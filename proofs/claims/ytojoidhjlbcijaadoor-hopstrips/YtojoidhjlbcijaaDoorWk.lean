/- The walks of what goes through a row of fields and asks of each: the first one that is asked for, whether a row may be, whether two rows are the same. -/
import Derived.Test.YtojoidhjlbcijaaDoorWj
namespace Go.Proofs.YtojoidhjlbcijaaDoor
set_option linter.unusedVariables false
set_option linter.unusedSimpArgs false
set_option maxRecDepth 100000
open Go.RowKit

/-- A row of fields that can be read. -/
def Row (w : World) (v : Value) (L : List Fd) : Prop := ∃ (a : Option Addr) (cap : Nat), v = .slice a L.length cap ∧ L.length ≤ cap ∧
  ∀ k (h : k < L.length), ∃ g off, a = some ⟨g, off, none⟩ ∧ g < w.heap.size ∧ w.cell? ⟨g, off + k * 2, none⟩ = some (.string L[k].1) ∧ w.cell? ⟨g, off + k * 2 + 1, none⟩ = some (.string L[k].2)
theorem Row.below {w w' : World} {v : Value} {L : List Fd} (h : Row w v L) (hb : Below w.heap.size w w') : Row w' v L := by
  obtain ⟨a, cap, h1, h2, h3⟩ := h
  refine ⟨a, cap, h1, h2, fun k hk => ?_⟩
  obtain ⟨g, off, e, hg, c0, c1⟩ := h3 k hk
  exact ⟨g, off, e, Nat.lt_of_lt_of_le hg hb.size, ((stays hb).1 _ _ hg).trans c0, ((stays hb).1 _ _ hg).trans c1⟩
theorem Row.nil (w : World) : Row w (.slice none 0 0) [] := ⟨none, 0, rfl, Nat.le_refl _, fun k hk => absurd hk (Nat.not_lt_zero _)⟩

/-- All texts of a row are short. -/
def Sh (L : List Fd) : Prop := ∀ f ∈ L, f.1.size ≤ 100000 ∧ f.2.size ≤ 100000

/-- The place of the first one that is asked for. -/
def ixF (p : Fd → Bool) (L : List Fd) : Int := if L.any p then (L.findIdx p : Int) else -1
theorem ix_hit {p : Fd → Bool} {L : List Fd} {k : Nat} (h : k < L.length) (hp : p L[k] = true) (ha : ∀ f ∈ L.take k, p f = false) : ixF p L = k := by
  have h1 : L.any p = true := List.any_eq_true.2 ⟨_, List.getElem_mem h, hp⟩
  have h2 : L.findIdx p = k := by
    rw [List.findIdx_eq h]
    refine ⟨hp, fun j hj => ha _ ?_⟩
    rw [List.mem_take_iff_getElem]
    exact ⟨j, by omega, rfl⟩
  rw [ixF, if_pos h1, h2]
theorem ix_miss {p : Fd → Bool} {L : List Fd} (ha : ∀ f ∈ L, p f = false) : ixF p L = -1 := by
  have h1 : L.any p = false := List.any_eq_false.2 fun f hf => by rw [ha f hf]; decide
  rw [ixF, if_neg (by rw [h1]; decide)]
theorem take_next {α : Type} {L : List α} {k : Nat} (h : k < L.length) {p : α → Prop} (ha : ∀ f ∈ L.take k, p f) (hp : p L[k]) : ∀ f ∈ L.take (k + 1), p f := by
  intro f hf
  rw [List.take_succ_eq_append_getElem h] at hf
  rcases List.mem_append.1 hf with hf | hf
  · exact ha f hf
  · obtain rfl : f = L[k] := by simpa using hf
    exact hp
theorem ix_ge (p : Fd → Bool) (L : List Fd) : decide (0 ≤ ixF p L) = L.any p := by
  unfold ixF
  cases h : L.any p
  · simp
  · simp


set_option maxHeartbeats 2000000 in
theorem index_wrong (L : List Fd) (v : Value) (w : World) (hr : Row w v L) (hl : L.length ≤ 1000000) (hs : Sh L) :
    Calls Tryd.prog 44 #[v, .func (.func 40) #[] #[]] w fun e w' => e = .returned (.int .i64 (ixF (fun f => !mayF f) L)) ∧ Below w.heap.size w w' := by
  obtain ⟨a, cap, rfl, hcap, hR⟩ := hr
  have HR := hide hR
  have HS := hide hs
  clear hR hs
  go_enter Tryd.func44, Tryd.ntmps44
  go_wp2_with fail
  go_loopw [5, 8] (fun _ i wr => ∃ k : Nat, k ≤ L.length ∧ i = .int .i64 k ∧ Below w.heap.size w wr ∧ Hid (∀ f ∈ L.take k, (fun f => !mayF f) f = false)) (fun _ i _ => L.length - (intOf i).toNat)
  case atStart => exact ⟨0, Nat.zero_le _, rfl, Below.refl _ _, by simp [Hid]⟩
  case round =>
    obtain ⟨k, hk, rfl, hbr, hall⟩ := hrel
    by_cases hlt : k < L.length
    · have hltz : (k : Int) < L.length := by omega
      obtain ⟨g, off, rfl, hg, c0, c1⟩ := HR.out k hlt
      rw [← (stays hbr).1 _ _ hg] at c0 c1
      have hsh := HS.out _ (List.getElem_mem hlt)
      have HIT := hide (ix_hit (p := (fun f => !mayF f)) hlt)
      have NXT := hide (take_next (p := fun f => (fun f => !mayF f) f = false) hlt hall.out)
      have HALL := hide hall.out
      obtain ⟨x, hx⟩ : ∃ x, L[k]'hlt = x := ⟨_, rfl⟩
      rw [hx] at c0 c1 hsh HIT NXT
      clear hx hall HR
      go_wp2_with fail
      refine (wrong_any x wr (by omega) (by omega)).mono ?_
      rintro e w1 ⟨rfl, hb1⟩
      have hB1 := hbr.trans (hb1.mono hbr.size)
      cases hp : (fun f => !mayF f) x
      · have hq : (!mayF x) = _ := hp
        rw [hq]
        go_wp2_with fail
        exact ⟨⟨k + 1, by omega, by go_num, hB1, NXT.out hp⟩, by simp [intOf]; omega⟩
      · have hq : (!mayF x) = _ := hp
        rw [hq]
        go_wp2_with fail
        go_ret
        refine ⟨?_, hB1⟩
        rw [HIT.out hp HALL.out]
        rfl
    · have hd : decide ((k : Int) < L.length) = false := decide_eq_false (by omega)
      rw [List.take_of_length_le (by omega)] at hall
      have HN := hide (ix_miss hall.out)
      go_wp2_with fail
      go_ret
      refine ⟨?_, hbr⟩
      rw [HN.out]
      rfl

set_option maxHeartbeats 2000000 in
theorem index_named (L : List Fd) (v : Value) (n : ByteArray) (N : Nat) (w : World) (hr : Row w v L) (hl : L.length ≤ 1000000) (hs : Sh L) (hn : n.size ≤ 1000000) (hc : w.cell? ⟨N, 0, none⟩ = some (.string n)) :
    Calls Tryd.prog 44 #[v, .func (.func 63) #[] #[.pointer (some ⟨N, 0, none⟩)]] w fun e w' => e = .returned (.int .i64 (ixF (nm n) L)) ∧ Below w.heap.size w w' := by
  obtain ⟨a, cap, rfl, hcap, hR⟩ := hr
  have HR := hide hR
  have HS := hide hs
  clear hR hs
  go_enter Tryd.func44, Tryd.ntmps44
  go_wp2_with fail
  go_loopw [5, 8] (fun _ i wr => ∃ k : Nat, k ≤ L.length ∧ i = .int .i64 k ∧ Below w.heap.size w wr ∧ Hid (∀ f ∈ L.take k, (nm n) f = false)) (fun _ i _ => L.length - (intOf i).toNat)
  case atStart => exact ⟨0, Nat.zero_le _, rfl, Below.refl _ _, by simp [Hid]⟩
  case round =>
    obtain ⟨k, hk, rfl, hbr, hall⟩ := hrel
    by_cases hlt : k < L.length
    · have hltz : (k : Int) < L.length := by omega
      obtain ⟨g, off, rfl, hg, c0, c1⟩ := HR.out k hlt
      rw [← (stays hbr).1 _ _ hg] at c0 c1
      have hsh := HS.out _ (List.getElem_mem hlt)
      have HIT := hide (ix_hit (p := (nm n)) hlt)
      have NXT := hide (take_next (p := fun f => (nm n) f = false) hlt hall.out)
      have HALL := hide hall.out
      obtain ⟨x, hx⟩ : ∃ x, L[k]'hlt = x := ⟨_, rfl⟩
      rw [hx] at c0 c1 hsh HIT NXT
      clear hx hall HR
      go_wp2_with fail
      refine (named1_any x n N wr (by omega) hn (by rw [(stays hbr).1 _ _ (block_lt_of_cell (a := ⟨N, 0, none⟩) hc)]; exact hc)).mono ?_
      rintro e w1 ⟨rfl, hb1⟩
      have hB1 := hbr.trans (hb1.mono hbr.size)
      cases hp : (nm n) x
      · try rw [hp]
        go_wp2_with fail
        exact ⟨⟨k + 1, by omega, by go_num, hB1, NXT.out hp⟩, by simp [intOf]; omega⟩
      · try rw [hp]
        go_wp2_with fail
        go_ret
        refine ⟨?_, hB1⟩
        rw [HIT.out hp HALL.out]
        rfl
    · have hd : decide ((k : Int) < L.length) = false := decide_eq_false (by omega)
      rw [List.take_of_length_le (by omega)] at hall
      have HN := hide (ix_miss hall.out)
      go_wp2_with fail
      go_ret
      refine ⟨?_, hbr⟩
      rw [HN.out]
      rfl

/-- Whether a row may be. -/
def rightF (L : List Fd) : Bool := decide (L.length ≤ 40) && L.all mayF

set_option maxHeartbeats 1000000 in
theorem contains_wrong (L : List Fd) (v : Value) (w : World) (hr : Row w v L) (hl : L.length ≤ 1000000) (hs : Sh L) :
    Calls Tryd.prog 39 #[v, .func (.func 40) #[] #[]] w fun e w' => e = .returned (.bool (L.any fun f => !mayF f)) ∧ Below w.heap.size w w' := by
  have HI := hide (ix_ge (fun f => !mayF f) L)
  go_enter Tryd.func39, Tryd.ntmps39
  go_wp2_with fail
  refine (index_wrong L v w hr hl hs).mono ?_
  rintro e w1 ⟨rfl, hb1⟩
  generalize ixF (fun f => !mayF f) L = I at HI ⊢
  go_wp2_with fail
  go_ret
  exact ⟨ret_bool HI.out, hb1⟩

theorem all_any (L : List Fd) : L.all mayF = !(L.any fun f => !mayF f) := by
  induction L with
  | nil => rfl
  | cons f L ih => rw [List.all_cons, List.any_cons, ih]; simp

set_option maxHeartbeats 1000000 in
theorem right_any (L : List Fd) (v : Value) (w : World) (hr : Row w v L) (hl : L.length ≤ 1000000) (hs : Sh L) :
    Calls Tryd.prog 23 #[v] w fun e w' => e = .returned (.bool (rightF L)) ∧ Below w.heap.size w w' := by
  have HV : Hid (rightF L = (decide (L.length ≤ 40) && !(L.any fun f => !mayF f))) := by unfold Hid rightF; rw [all_any]
  have HR := hide hr
  obtain ⟨a, cap, rfl, hcap, -⟩ := hr
  have HS := hide hs
  clear hs
  by_cases h40 : L.length ≤ 40
  · have h40d : decide ((L.length : Int) ≤ 40) = true := decide_eq_true (by omega)
    have h40z : (L.length : Int) ≤ 40 := by omega
    rw [decide_eq_true h40] at HV
    go_enter Tryd.func23, Tryd.ntmps23
    go_wp2_with fail
    refine (contains_wrong L _ w HR.out hl HS.out).mono ?_
    rintro e w1 ⟨rfl, hb1⟩
    go_wp2_with fail
    go_ret
    exact ⟨ret_bool (by rw [HV.out]; simp), hb1⟩
  · have h40d : decide ((L.length : Int) ≤ 40) = false := decide_eq_false (by omega)
    rw [decide_eq_false h40] at HV
    go_enter Tryd.func23, Tryd.ntmps23
    go_wp2_with fail
    go_ret
    exact ⟨ret_bool (by rw [HV.out]; simp), Below.refl _ _⟩

set_option maxHeartbeats 2000000 in
theorem refright_any (L : List Fd) (v : Value) (w : World) (hr : Row w v L) (hl : L.length ≤ 1000000) (hs : Sh L) :
    Calls Tryd.prog 15 #[v] w fun e w' => e = .returned (.bool (rightF L)) ∧ Below w.heap.size w w' := by
  obtain ⟨a, cap, rfl, hcap, hR⟩ := hr
  have HR := hide hR
  have HS := hide hs
  clear hR hs
  have HV : Hid (rightF L = (decide (L.length ≤ 40) && L.all mayF)) := rfl
  go_enter Tryd.func15, Tryd.ntmps15
  go_wp2_with fail
  go_loopw [4, 7] (fun _ i wr => ∃ k : Nat, k ≤ L.length ∧ i = .int .i64 k ∧ Below w.heap.size w wr ∧ Hid (∀ f ∈ L.take k, mayF f = true)) (fun _ i _ => L.length - (intOf i).toNat)
  case atStart => exact ⟨0, Nat.zero_le _, rfl, Below.refl _ _, by simp [Hid]⟩
  case round =>
    obtain ⟨k, hk, rfl, hbr, hall⟩ := hrel
    by_cases hlt : k < L.length
    · have hltz : (k : Int) < L.length := by omega
      obtain ⟨g, off, rfl, hg, c0, c1⟩ := HR.out k hlt
      rw [← (stays hbr).1 _ _ hg] at c0 c1
      have hsh := HS.out _ (List.getElem_mem hlt)
      have NXT := hide (take_next (p := fun f => mayF f = true) hlt hall.out)
      have HMEM := hide (List.getElem_mem hlt)
      obtain ⟨x, hx⟩ : ∃ x, L[k]'hlt = x := ⟨_, rfl⟩
      rw [hx] at c0 c1 hsh NXT HMEM
      clear hx hall HR
      go_wp2_with fail
      refine (may_any x _ (by omega) (by omega)).mono ?_
      rintro e w1 ⟨rfl, hb1⟩
      have hB1 := (hbr.alloc hbr.size (.cells #[.string x.1, .string x.2] 39)).trans (hb1.mono (by have := hbr.size; simp; omega))
      cases hp : mayF x
      · have HF : Hid (L.all mayF = false) := by unfold Hid; rw [List.all_eq_false]; exact ⟨x, HMEM.out, by rw [hp]; decide⟩
        try rw [hp]
        go_wp2_with fail
        go_ret
        exact ⟨ret_bool (by rw [HV.out, HF.out]; simp), hB1⟩
      · try rw [hp]
        go_wp2_with fail
        exact ⟨⟨k + 1, by omega, by go_num, hB1, NXT.out hp⟩, by simp [intOf]; omega⟩
    · have hd : decide ((k : Int) < L.length) = false := decide_eq_false (by omega)
      rw [List.take_of_length_le (by omega)] at hall
      have HN : Hid (L.all mayF = true) := List.all_eq_true.2 hall.out
      go_wp2_with fail
      go_ret
      exact ⟨ret_bool (by rw [HV.out, HN.out]; simp <;> omega), hbr⟩

set_option maxHeartbeats 2000000 in
theorem like_same (L : List Fd) (va vb : Value) (w : World) (ha : Row w va L) (hb : Row w vb L) (hl : L.length ≤ 1000000) :
    Calls Tryd.prog 17 #[va, vb] w fun e w' => e = .returned (.bool true) ∧ Below w.heap.size w w' := by
  obtain ⟨a, ca, rfl, hca, hA⟩ := ha
  obtain ⟨b, cb, rfl, hcb, hB⟩ := hb
  have HA := hide hA
  have HB := hide hB
  clear hA hB
  go_enter Tryd.func17, Tryd.ntmps17
  go_wp2_with fail
  go_loopw [5, 13] (fun _ i wr => ∃ k n : Nat, k ≤ L.length ∧ i = .int .i64 k ∧ wr = w.drewN n) (fun _ i _ => L.length - (intOf i).toNat)
  case atStart => exact ⟨0, 0, Nat.zero_le _, rfl, by simp [World.drewN]⟩
  case round =>
    obtain ⟨k, n, hk, rfl, rfl⟩ := hrel
    by_cases hlt : k < L.length
    · have hltz : (k : Int) < L.length := by omega
      obtain ⟨g, off, rfl, hg, c0, c1⟩ := HA.out k hlt
      obtain ⟨j, off2, rfl, hj, d0, d1⟩ := HB.out k hlt
      obtain ⟨x, hx⟩ : ∃ x, L[k]'hlt = x := ⟨_, rfl⟩
      rw [hx] at c0 c1 d0 d1
      clear hx HA HB
      go_wp2_with fail
      go_quiet (fail)
      go_wp2_with fail
      exact ⟨⟨k + 1, n + nq, by omega, by go_num, rfl⟩, by simp [intOf]; omega⟩
    · have hd : decide ((k : Int) < L.length) = false := decide_eq_false (by omega)
      go_wp2_with fail
      go_ret
      exact ⟨rfl, below_drewN (Below.refl _ _) n⟩

set_option maxHeartbeats 1000000 in
theorem like_more (L : List Fd) (va : Value) (w : World) (ha : Row w va L) (hl : L.length ≤ 1000000) (h0 : 0 < L.length) :
    Calls Tryd.prog 17 #[va, .slice none 0 0] w fun e w' => e = .returned (.bool false) ∧ Below w.heap.size w w' := by
  obtain ⟨a, ca, rfl, hca, hA⟩ := ha
  clear hA
  have hne : ¬ (L.length : Int) = 0 := by omega
  go_enter Tryd.func17, Tryd.ntmps17
  go_wp2_with fail
  go_ret
  exact ⟨rfl, Below.refl _ _⟩

end Go.Proofs.YtojoidhjlbcijaaDoor
