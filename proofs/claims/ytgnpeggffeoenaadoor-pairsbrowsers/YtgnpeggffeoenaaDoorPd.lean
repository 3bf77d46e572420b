/- The walks of what finds a name's first value, and of what compares two rows. -/
import Derived.Test.YtgnpeggffeoenaaDoorPc
namespace Go.Proofs.YtgnpeggffeoenaaDoor
set_option linter.unusedVariables false
set_option linter.unusedSimpArgs false
open Go.RowKit

def pnm (n : ByteArray) (f : Fd) : Bool := f.1.toList == n.toList
def fdS (n : ByteArray) (L : List Fd) : ByteArray × Bool := match L.find? (pnm n) with | some f => (f.2, true) | none => (⟨#[]⟩, false)
theorem fd_hit {n : ByteArray} {L : List Fd} {k : Nat} (h : k < L.length) (hp : pnm n L[k] = true) (ha : ∀ f ∈ L.take k, pnm n f = false) : fdS n L = (L[k].2, true) := by
  have e : L = L.take k ++ L[k] :: L.drop (k + 1) := by rw [← List.drop_eq_getElem_cons h, List.take_append_drop]
  have h1 : (L.take k).find? (pnm n) = none := List.find?_eq_none.2 (fun f hf => by rw [ha f hf]; decide)
  have h2 : L.find? (pnm n) = some L[k] := by
    conv => lhs; rw [e]
    rw [List.find?_append, h1, List.find?_cons, hp]; rfl
  unfold fdS; rw [h2]
theorem fd_miss {n : ByteArray} {L : List Fd} (ha : ∀ f ∈ L, pnm n f = false) : fdS n L = (⟨#[]⟩, false) := by
  have h1 : L.find? (pnm n) = none := List.find?_eq_none.2 (fun f hf => by rw [ha f hf]; decide)
  unfold fdS; rw [h1]
theorem fd_cases (n : ByteArray) (L : List Fd) : (∃ (k : Nat) (h : k < L.length), ixF (pnm n) L = k ∧ fdS n L = (L[k].2, true)) ∨ (ixF (pnm n) L = -1 ∧ fdS n L = (⟨#[]⟩, false)) := by
  cases h : L.any (pnm n) with
  | true =>
    obtain ⟨f, hf, hp⟩ := List.any_eq_true.1 h
    have hk : L.findIdx (pnm n) < L.length := List.findIdx_lt_length_of_exists ⟨f, hf, hp⟩
    refine .inl ⟨L.findIdx (pnm n), hk, by unfold ixF; rw [if_pos h], fd_hit hk List.findIdx_getElem ?_⟩
    intro g hg
    obtain ⟨j, hj, rfl⟩ := List.mem_take_iff_getElem.1 hg
    have := List.not_of_lt_findIdx (show j < L.findIdx (pnm n) by omega)
    simpa using this
  | false =>
    have ha := List.any_eq_false.1 h
    exact .inr ⟨by unfold ixF; rw [if_neg (by rw [h]; decide)], fd_miss (fun f hf => by have := ha f hf; simpa using this)⟩

set_option maxHeartbeats 1000000 in
theorem find1_any (f : Fd) (n : ByteArray) (N : Nat) (w : World) (hc : w.cell? ⟨N, 0, none⟩ = some (.string n)) :
    Calls Tryd.prog 33 #[fv f, .pointer (some ⟨N, 0, none⟩)] w fun e w' => e = .returned (.bool (pnm n f)) ∧ Below w.heap.size w w' := by
  have hN : N < w.heap.size := block_lt_of_cell (a := ⟨N, 0, none⟩) hc
  have c1 : (w.alloc (.cells #[.string f.1, .string f.2] 37)).cell? ⟨N, 0, none⟩ = some (.string n) := by
    rw [(stays (one_alloc _ _ _)).1 _ _ hN]; exact hc
  unfold fv
  go_enter Tryd.func33, Tryd.ntmps33
  go_wp2_with fail
  go_ret
  exact ⟨rfl, one_alloc _ _ _⟩

set_option maxHeartbeats 2000000 in
theorem index_pair (L : List Fd) (v : Value) (n : ByteArray) (N : Nat) (w : World) (hr : Row w v L) (hl : L.length ≤ 1000000) (hc : w.cell? ⟨N, 0, none⟩ = some (.string n)) :
    Calls Tryd.prog 32 #[v, .func (.func 33) #[] #[.pointer (some ⟨N, 0, none⟩)]] w fun e w' => e = .returned (.int .i64 (ixF (pnm n) L)) ∧ Below w.heap.size w w' := by
  obtain ⟨a, cap, rfl, hcap, hR⟩ := hr
  have HR := hide hR
  clear hR
  go_enter Tryd.func32, Tryd.ntmps32
  go_wp2_with fail
  go_loopw [5, 8] (fun _ i wr => ∃ k : Nat, k ≤ L.length ∧ i = .int .i64 k ∧ Below w.heap.size w wr ∧ Hid (∀ f ∈ L.take k, (pnm n) f = false)) (fun _ i _ => L.length - (intOf i).toNat)
  case atStart => exact ⟨0, Nat.zero_le _, rfl, Below.refl _ _, by simp [Hid]⟩
  case round =>
    obtain ⟨k, hk, rfl, hbr, hall⟩ := hrel
    by_cases hlt : k < L.length
    · have hltz : (k : Int) < L.length := by omega
      obtain ⟨g, off, rfl, hg, c0, c1⟩ := HR.out k hlt
      rw [← (stays hbr).1 _ _ hg] at c0 c1
      have HIT := hide (ix_hit (p := (pnm n)) hlt)
      have NXT := hide (take_next (p := fun f => (pnm n) f = false) hlt hall.out)
      have HALL := hide hall.out
      obtain ⟨x, hx⟩ : ∃ x, L[k]'hlt = x := ⟨_, rfl⟩
      rw [hx] at c0 c1 HIT NXT
      clear hx hall HR
      go_wp2_with fail
      refine (find1_any x n N wr (by rw [(stays hbr).1 _ _ (block_lt_of_cell (a := ⟨N, 0, none⟩) hc)]; exact hc)).mono ?_
      rintro e w1 ⟨rfl, hb1⟩
      have hB1 := hbr.trans (hb1.mono hbr.size)
      cases hp : (pnm n) x
      · try rw [hp]
        go_wp2_with fail
        exact ⟨⟨k + 1, by omega, by go_num, hB1, NXT.out hp⟩, by simp [intOf]; omega⟩
      · try rw [hp]
        go_wp2_with fail
        go_ret
        refine ⟨?_, hB1⟩
        rw [HIT.out hp HALL.out]
        rfl
    · have hd : decide ((k : Int) < L.length) = false := decide_eq_false (by omega)
      rw [List.take_of_length_le (by omega)] at hall
      have HN := hide (ix_miss hall.out)
      go_wp2_with fail
      go_ret
      refine ⟨?_, hbr⟩
      rw [HN.out]
      rfl

set_option maxHeartbeats 2000000 in
theorem find_pair (L : List Fd) (v : Value) (n : ByteArray) (w : World) (hr : Row w v L) (hl : L.length ≤ 1000000) :
    Calls Tryd.prog 11 #[v, .string n] w fun e w' => e = .returned (.tuple #[.string (fdS n L).1, .bool (fdS n L).2]) ∧ Below w.heap.size w w' := by
  have hb0 := one_alloc w #[.string n] 9
  have hi := index_pair L v n w.heap.size (w.alloc (.cells #[.string n] 9)) (hr.below hb0) hl (by go_simp)
  rcases fd_cases n L with ⟨k, hk, hx, hf⟩ | ⟨hx, hf⟩
  · rw [hx] at hi
    rw [hf]
    obtain ⟨a, cap, rfl, hcap, hR⟩ := hr
    obtain ⟨g, off, rfl, hg, -, c1⟩ := hR k hk
    generalize L[k] = x at *
    go_enter Tryd.func11, Tryd.ntmps11
    go_wp2_with fail
    refine hi.mono ?_
    rintro e w1 ⟨rfl, hb1⟩
    have hb := hb0.trans (hb1.mono hb0.size)
    rw [← (stays hb).1 _ _ hg] at c1
    have hkz : (k : Int) < L.length := by omega
    go_wp2_with fail
    go_ret2
    exact ⟨rfl, hb⟩
  · rw [hx] at hi
    rw [hf]
    go_enter Tryd.func11, Tryd.ntmps11
    go_wp2_with fail
    refine hi.mono ?_
    rintro e w1 ⟨rfl, hb1⟩
    have hb := hb0.trans (hb1.mono hb0.size)
    go_wp2_with fail
    go_ret2
    exact ⟨rfl, hb⟩

set_option maxHeartbeats 2000000 in
theorem reffind_pair (L : List Fd) (v : Value) (n : ByteArray) (w : World) (hr : Row w v L) (hl : L.length ≤ 1000000) :
    Calls Tryd.prog 12 #[v, .string n] w fun e w' => e = .returned (.tuple #[.string (fdS n L).1, .bool (fdS n L).2]) ∧ Below w.heap.size w w' := by
  obtain ⟨a, cap, rfl, hcap, hR⟩ := hr
  have HR := hide hR
  clear hR
  go_enter Tryd.func12, Tryd.ntmps12
  go_wp2_with fail
  go_loopw [7, 10] (fun _ i wr => ∃ k : Nat, k ≤ L.length ∧ i = .int .i64 k ∧ Below w.heap.size w wr ∧ Hid (∀ f ∈ L.take k, (pnm n) f = false)) (fun _ i _ => L.length - (intOf i).toNat)
  case atStart => exact ⟨0, Nat.zero_le _, rfl, Below.refl _ _, by simp [Hid]⟩
  case round =>
    obtain ⟨k, hk, rfl, hbr, hall⟩ := hrel
    have hsz := hbr.size
    by_cases hlt : k < L.length
    · have hltz : (k : Int) < L.length := by omega
      obtain ⟨g, off, rfl, hg, c0, c1⟩ := HR.out k hlt
      rw [← (stays hbr).1 _ _ hg] at c0 c1
      have HIT := hide (fd_hit (n := n) hlt)
      have NXT := hide (take_next (p := fun f => (pnm n) f = false) hlt hall.out)
      have HALL := hide hall.out
      obtain ⟨x, hx⟩ : ∃ x, L[k]'hlt = x := ⟨_, rfl⟩
      rw [hx] at c0 c1 HIT NXT
      have hB1 := hbr.alloc hsz (.cells #[.string x.1, .string x.2] 37)
      clear hx hall HR
      cases hp : (pnm n) x
      · have hq : (x.1.toList == n.toList) = _ := hp
        go_wp2_with fail
        exact ⟨⟨k + 1, by omega, by go_num, hB1, NXT.out hp⟩, by simp [intOf]; omega⟩
      · have hq : (x.1.toList == n.toList) = _ := hp
        have HF := hide (HIT.out hp HALL.out)
        go_wp2_with fail
        go_ret2
        refine ⟨?_, hB1⟩
        rw [HF.out]
        rfl
    · have hd : decide ((k : Int) < L.length) = false := decide_eq_false (by omega)
      rw [List.take_of_length_le (by omega)] at hall
      have HN := hide (fd_miss hall.out)
      go_wp2_with fail
      go_ret2
      refine ⟨?_, hbr⟩
      rw [HN.out]
      rfl

set_option maxHeartbeats 2000000 in
theorem refsame2_any (A : List Fd) (va vb : Value) (w : World) (ha : Row w va A) (hb : Row w vb A) (hl : A.length ≤ 1000000) :
    Calls Tryd.prog 15 #[va, vb] w fun e w' => e = .returned (.bool true) ∧ Below w.heap.size w w' := by
  obtain ⟨a, capa, rfl, hcapa, hRA⟩ := ha
  obtain ⟨b, capb, rfl, hcapb, hRB⟩ := hb
  have HA := hide hRA
  have HB := hide hRB
  clear hRA hRB
  go_enter Tryd.func15, Tryd.ntmps15
  go_wp2_with fail
  go_loopw [5, 13] (fun _ i wr => ∃ k : Nat, k ≤ A.length ∧ i = .int .i64 k ∧ Below w.heap.size w wr) (fun _ i _ => A.length - (intOf i).toNat)
  case atStart => exact ⟨0, Nat.zero_le _, rfl, Below.refl _ _⟩
  case round =>
    obtain ⟨k, hk, rfl, hbr⟩ := hrel
    by_cases hlt : k < A.length
    · have hltz : (k : Int) < A.length := by omega
      obtain ⟨g, off, rfl, hg, c0, c1⟩ := HA.out k hlt
      obtain ⟨g', off', rfl, hg', d0, d1⟩ := HB.out k hlt
      rw [← (stays hbr).1 _ _ hg] at c0 c1
      rw [← (stays hbr).1 _ _ hg'] at d0 d1
      obtain ⟨x, hx⟩ : ∃ x, A[k]'hlt = x := ⟨_, rfl⟩
      rw [hx] at c0 c1 d0 d1
      clear hx HA HB
      go_wp2_with fail
      go_quiet (fail)
      go_wp2_with fail
      exact ⟨⟨k + 1, by omega, by go_num, below_drewN hbr _⟩, by simp [intOf]; omega⟩
    · have hd : decide ((k : Int) < A.length) = false := decide_eq_false (by omega)
      go_wp2_with fail
      go_ret
      exact ⟨rfl, hbr⟩

end Go.Proofs.YtgnpeggffeoenaaDoor
