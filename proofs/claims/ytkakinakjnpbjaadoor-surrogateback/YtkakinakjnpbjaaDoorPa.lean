/- The walks of what reads a part of a field from its end: the program's own. -/
import Derived.Test.YtkakinakjnpbjaaDoorFp
namespace Go.Proofs.YtkakinakjnpbjaaDoor
set_option linter.unusedVariables false
set_option linter.unusedSimpArgs false
open Go.RowKit

/-- What a reader answers: the text, or that there is none. -/
def Told (o : Option (List UInt8)) (v : ByteArray) (ok : Bool) : Prop := match o with | some x => ok = true ∧ v = bs x | none => ok = false
/-- What is taken from the end, where all was well so far. -/
def Took (well : Bool) (o : Option (List UInt8 × List UInt8)) (a d : ByteArray) (ok : Bool) : Prop :=
  if well = true then (match o with | some q => ok = true ∧ a = bs q.1 ∧ d = bs q.2 | none => ok = false) else ok = false
theorem bs_data (s : ByteArray) : bs s.data.toList = s := (bs_of rfl).symm

theorem token1_any (s : ByteArray) (w : World) (hs : s.size ≤ 100000) :
    Calls Tryd.prog 34 #[.string s] w fun e w' => ∃ v ok, e = .returned (.tuple #[.string v, .bool ok]) ∧ Told (tokO s.data.toList) v ok ∧ Below w.heap.size w w' := by
  have HT : Hid (Told (tokO s.data.toList) s (tokB s)) := by
    unfold Hid Told tokO tokB
    cases h : tokL s.data.toList
    · rfl
    · exact ⟨rfl, (bs_data s).symm⟩
  go_enter Tryd.func34, Tryd.ntmps34
  go_wp2_with fail
  refine (token_any s w (by omega)).mono ?_
  rintro e w1 ⟨rfl, hb1⟩
  go_wp2_with fail
  go_ret2
  exact ⟨s, tokB s, rfl, HT.out, hb1⟩

theorem unq_told (s : ByteArray) : Told (unqL s.data.toList) (uS s) (uE s == 0) := by
  unfold Told unqL uS uE quoB
  cases quotedL s.data.toList
  · rfl
  · exact ⟨rfl, rfl⟩
theorem uE_cases (s : ByteArray) : uE s = 0 ∨ uE s = 11 := by unfold uE; split <;> simp

theorem toq_any (s : ByteArray) (w : World) (hs : s.size ≤ 100000) :
    Calls Tryd.prog 35 #[.string s] w fun e w' => ∃ v ok, e = .returned (.tuple #[.string v, .bool ok]) ∧ Told (valO s.data.toList) v ok ∧ Below w.heap.size w w' := by
  cases ht : tokB s
  · have HT : Hid (Told (valO s.data.toList) (uS s) (((uE s : Nat) : Int) == 0)) := by
      unfold Hid valO
      rw [if_neg (by rw [show tokL s.data.toList = false from ht]; decide), show (((uE s : Nat) : Int) == 0) = (uE s == 0) by rcases uE_cases s with h | h <;> rw [h] <;> rfl]
      exact unq_told s
    go_enter Tryd.func35, Tryd.ntmps35
    go_wp2_with fail
    refine (token_any s w (by omega)).mono ?_
    rintro e w1 ⟨rfl, hb1⟩
    rw [ht]
    go_wp2_with fail
    refine (unquote_any s w1 (by omega)).mono ?_
    rintro e w2 ⟨rfl, hb2⟩
    go_wp2_with fail
    go_ret2
    exact ⟨_, _, rfl, HT.out, hb1.trans (hb2.mono hb1.size)⟩
  · have HT : Hid (Told (valO s.data.toList) s true) := by
      unfold Hid valO
      rw [if_pos (show tokL s.data.toList = true from ht)]
      exact ⟨rfl, (bs_data s).symm⟩
    go_enter Tryd.func35, Tryd.ntmps35
    go_wp2_with fail
    refine (token_any s w (by omega)).mono ?_
    rintro e w1 ⟨rfl, hb1⟩
    rw [ht]
    go_wp2_with fail
    go_ret2
    exact ⟨s, true, rfl, HT.out, hb1⟩

theorem sp_ne (b : UInt8) : ∀ (l : List UInt8) (st : Nat) (acc : List UInt8), sp b st acc l ≠ some []
  | [], st, acc => by rw [sp]; split <;> simp
  | c :: l, 0, acc => by
    rw [sp]; split
    · cases sp b 0 [] l <;> simp
    · split
      · exact sp_ne b l 1 _
      · exact sp_ne b l 0 _
  | c :: l, 1, acc => by
    rw [sp]; split
    · exact sp_ne b l 0 _
    · split
      · exact sp_ne b l 2 _
      · exact sp_ne b l 1 _
  | c :: l, n + 2, acc => by
    rw [sp]
    · exact sp_ne b l 1 _
    · omega
    · omega
theorem split_ne (b : UInt8) (l : List UInt8) : splitL b l ≠ some [] := by
  unfold splitL; split
  · simp
  · exact sp_ne b l 0 []
theorem sp_part (b : UInt8) : ∀ (l : List UInt8) (st : Nat) (acc : List UInt8) (P : List (List UInt8)), sp b st acc l = some P → ∀ p ∈ P, p.length ≤ acc.length + l.length
  | [], st, acc, P, h, p, hp => by
    rw [sp] at h; split at h
    · obtain rfl := Option.some.inj h
      obtain rfl : p = trimL acc := by simpa using hp
      have := trimL_le acc; omega
    · cases h
  | c :: l, 0, acc, P, h, p, hp => by
    rw [sp] at h; split at h
    · cases hl : sp b 0 [] l with
      | none => rw [hl] at h; cases h
      | some Q =>
        rw [hl] at h
        obtain rfl := Option.some.inj h
        rcases List.mem_cons.1 hp with rfl | hp
        · have := trimL_le acc; omega
        · have := sp_part b l 0 [] Q hl p hp; simp at this ⊢; omega
    · split at h
      · have := sp_part b l 1 _ P h p hp; simp at this ⊢; omega
      · have := sp_part b l 0 _ P h p hp; simp at this ⊢; omega
  | c :: l, 1, acc, P, h, p, hp => by
    rw [sp] at h; split at h
    · have := sp_part b l 0 _ P h p hp; simp at this ⊢; omega
    · split at h
      · have := sp_part b l 2 _ P h p hp; simp at this ⊢; omega
      · have := sp_part b l 1 _ P h p hp; simp at this ⊢; omega
  | c :: l, n + 2, acc, P, h, p, hp => by
    rw [sp] at h
    · have := sp_part b l 1 _ P h p hp; simp at this ⊢; omega
    · omega
    · omega
theorem split_part {b : UInt8} {l : List UInt8} {P : List (List UInt8)} (h : splitL b l = some P) : ∀ p ∈ P, p.length ≤ l.length := by
  intro p hp
  unfold splitL at h; split at h
  · cases h
  · have := sp_part b l 0 [] P h p hp; simpa using this
/-- The cells of a row of texts that a call has made. -/
theorem row_cell {w : World} {base : Nat} {v : Value} {P : List (List UInt8)} (h : w.ownsRow base 9 1 v P.length (strs P)) : ∃ (a : Option Addr) (cap : Nat), v = .slice a P.length cap ∧ ∀ k (hk : k < P.length), ∃ g, a = some ⟨g, 0, none⟩ ∧ base ≤ g ∧ g < w.heap.size ∧ w.cell? ⟨g, k, none⟩ = some (.string (bs P[k])) := by
  rcases h.2 with ⟨rfl, h0⟩ | ⟨g, cap, cur, rfl, h2, h3, h4, h5, h6, h7⟩
  · exact ⟨none, 0, by rw [h0], fun k hk => by omega⟩
  · refine ⟨some ⟨g, 0, none⟩, cap, rfl, fun k hk => ⟨g, rfl, h2, (Array.getElem?_eq_some_iff.1 h3).1, ?_⟩⟩
    rw [cell_of_row w g k cur 9 (0, 0) h3]
    have : (strs P)[k]? = some (.string (bs P[k])) := by simp [strs, hk, bs]
    rw [← h7, List.getElem?_take, if_pos (by omega)] at this
    simpa using this

set_option maxHeartbeats 2000000 in
theorem take59_any (s : ByteArray) (well : Bool) (B : Nat) (w : World) (hs : s.size ≤ 100000) (c0 : w.cell? ⟨B, 0, none⟩ = some (.bool well)) (f0 : w.frozen? ⟨B, 0, none⟩ = false) :
    Calls Tryd.prog 33 #[.string s, .int .u8 59, .func (.func 34) #[] #[], .pointer (some ⟨B, 0, none⟩)] w fun e w' => ∃ a d ok, e = .returned (.tuple #[.string a, .string d]) ∧ a.size ≤ 100000 ∧ Took well (takL 59 tokO s.data.toList) a d ok ∧ Below B w w' ∧ w'.cell? ⟨B, 0, none⟩ = some (.bool ok) ∧ w'.frozen? ⟨B, 0, none⟩ = false := by
  have hB : B < w.heap.size := block_lt_of_cell (a := ⟨B, 0, none⟩) c0
  have hsp : Calls Tryd.prog 19 #[.string s, .int .u8 59] w _ := split_any s 59 w (by omega)
  cases well
  · have HT : Hid (∀ x, Took false x ⟨#[]⟩ ⟨#[]⟩ false) := fun x => rfl
    go_enter Tryd.func33, Tryd.ntmps33
    go_wp2_with fail
    refine hsp.mono ?_
    rintro e w1 ⟨v, rfl, ho, hb1⟩
    rw [← (stays hb1).1 _ _ hB] at c0
    rw [← (stays hb1).2 _ _ hB] at f0
    clear hsp
    go_wp2_with fail
    go_ret2
    refine ⟨⟨#[]⟩, ⟨#[]⟩, false, rfl, by decide, HT.out _, ?_, ?_, ?_⟩
    · exact (hb1.mono (Nat.le_of_lt hB)).setCell (p := ⟨B, 0, none⟩) (Nat.le_refl _) _
    · go_simp
    · go_simp
  · have hN := split_ne 59 s.data.toList
    rcases hS : splitL 59 s.data.toList with _ | P
    · have HT : Hid (Took true (takL 59 tokO s.data.toList) ⟨#[]⟩ ⟨#[]⟩ false) := by unfold Hid takL; rw [hS]; rfl
      rw [(sp_err hS).1, (sp_err hS).2] at hsp
      clear hN hS
      go_enter Tryd.func33, Tryd.ntmps33
      go_wp2_with fail
      refine hsp.mono ?_
      rintro e w1 ⟨v, rfl, ho, hb1⟩
      rw [← (stays hb1).1 _ _ hB] at c0
      rw [← (stays hb1).2 _ _ hB] at f0
      clear hsp
      go_wp2_with fail
      go_ret2
      refine ⟨⟨#[]⟩, ⟨#[]⟩, false, rfl, by decide, HT.out, ?_, ?_, ?_⟩
      · exact (hb1.mono (Nat.le_of_lt hB)).setCell (p := ⟨B, 0, none⟩) (Nat.le_refl _) _
      · go_simp
      · go_simp
    · rw [(sp_okay hS).1, (sp_okay hS).2] at hsp
      have hpl := split_part hS
      rcases P with _ | ⟨a, _ | ⟨c, _ | ⟨d, P⟩⟩⟩
      · exact absurd hS hN
      · have HT : Hid (Took true (takL 59 tokO s.data.toList) (bs a) ⟨#[]⟩ true) := by unfold Hid takL; rw [hS]; exact ⟨rfl, rfl, rfl⟩
        have ha := hpl a (by simp)
        rw [size_list] at ha
        have HA : Hid ((bs a).size ≤ 100000) := by unfold Hid; rw [bs_size]; omega
        clear hN hS hpl
        go_enter Tryd.func33, Tryd.ntmps33
        go_wp2_with fail
        refine hsp.mono ?_
        rintro e w1 ⟨v, rfl, ho, hb1⟩
        rw [← (stays hb1).1 _ _ hB] at c0
        rw [← (stays hb1).2 _ _ hB] at f0
        obtain ⟨ad, cap, rfl, hR⟩ := row_cell ho
        obtain ⟨g, rfl, hg0, hg1, r0⟩ := hR 0 (by simp)
        have hgB : g ≠ B := by omega
        simp only [List.getElem_cons_zero, List.length_cons, List.length_nil] at r0 ⊢
        clear hsp ho hR
        go_wp2_with fail
        go_ret2
        refine ⟨bs a, ⟨#[]⟩, true, rfl, HA.out, HT.out, ?_, ?_, ?_⟩
        · exact (hb1.mono (Nat.le_of_lt hB)).setCell (p := ⟨B, 0, none⟩) (Nat.le_refl _) _
        · go_simp
        · go_simp
      · have ha := hpl a (by simp)
        have hc := hpl c (by simp)
        rw [size_list] at ha hc
        have HA : Hid ((bs a).size ≤ 100000) := by unfold Hid; rw [bs_size]; omega
        have HC : Hid ((bs c).size ≤ 100000) := by unfold Hid; rw [bs_size]; omega
        have HT : Hid (∀ v ok, Told (tokO c) v ok → Took true (takL 59 tokO s.data.toList) (bs a) v ok) := by
          intro v ok h
          unfold takL; rw [hS]
          show Took true ((tokO c).map fun v => (a, v)) (bs a) v ok
          unfold Told at h
          cases ho : tokO c with
          | none => rw [ho] at h; exact h
          | some x => rw [ho] at h; exact ⟨h.1, rfl, h.2⟩
        clear hN hS hpl
        go_enter Tryd.func33, Tryd.ntmps33
        go_wp2_with fail
        refine hsp.mono ?_
        rintro e w1 ⟨v, rfl, ho, hb1⟩
        rw [← (stays hb1).1 _ _ hB] at c0
        rw [← (stays hb1).2 _ _ hB] at f0
        obtain ⟨ad, cap, rfl, hR⟩ := row_cell ho
        obtain ⟨g, rfl, hg0, hg1, r0⟩ := hR 0 (by simp)
        obtain ⟨g', hgg, -, -, r1⟩ := hR 1 (by simp)
        obtain rfl : g = g' := by simpa using hgg
        have hgB : g ≠ B := by omega
        simp only [List.getElem_cons_zero, List.getElem_cons_succ, List.length_cons, List.length_nil] at r0 r1 ⊢
        clear hsp ho hR hgg
        have hBb := (hb1.mono (Nat.le_of_lt hB)).setCell (p := ⟨B, 0, none⟩) (Nat.le_refl _) (.bool true)
        have HRD : Hid (∀ W, Calls Tryd.prog 34 #[.string (bs c)] W fun e w' => ∃ v ok, e = .returned (.tuple #[.string v, .bool ok]) ∧ Told (tokO c) v ok ∧ Below W.heap.size W w') := by
          intro W
          have := token1_any (bs c) W HC.out
          rwa [bs_list] at this
        go_wp2_with fail
        refine (HRD.out _).mono ?_
        rintro e w2 ⟨x, ok, rfl, htold, hb2⟩
        have s0 : (w1.setCell ⟨B, 0, none⟩ (.bool true)).cell? ⟨g, 0, none⟩ = some (.string (bs a)) := by go_simp
        have s1 : (w1.setCell ⟨B, 0, none⟩ (.bool true)).cell? ⟨B, 0, none⟩ = some (.bool true) := by go_simp
        have s2 : (w1.setCell ⟨B, 0, none⟩ (.bool true)).frozen? ⟨B, 0, none⟩ = false := by go_simp
        have hBB := hBb.trans (hb2.mono (by simp; omega))
        rw [← (stays hb2).1 _ _ (by simp; omega)] at s0 s1
        rw [← (stays hb2).2 _ _ (by simp; omega)] at s2
        clear hBb hb2 c0 f0 r0 r1
        go_wp2_with fail
        go_ret2
        refine ⟨bs a, x, ok, rfl, HA.out, HT.out x ok htold, ?_, ?_, ?_⟩
        · exact hBB.setCell (p := ⟨B, 0, none⟩) (Nat.le_refl _) _
        · go_simp
        · go_simp
      · have HT : Hid (Took true (takL 59 tokO s.data.toList) ⟨#[]⟩ ⟨#[]⟩ false) := by unfold Hid takL; rw [hS]; rfl
        obtain ⟨m, hL, h3⟩ : ∃ m, (a :: c :: d :: P).length = m ∧ 3 ≤ m := ⟨_, rfl, by simp⟩
        have hd : decide ((m : Int) ≤ 2) = false := decide_eq_false (by omega)
        generalize (a :: c :: d :: P) = Q at *
        clear hN hS hpl
        go_enter Tryd.func33, Tryd.ntmps33
        go_wp2_with fail
        refine hsp.mono ?_
        rintro e w1 ⟨v, rfl, ho, hb1⟩
        rw [← (stays hb1).1 _ _ hB] at c0
        rw [← (stays hb1).2 _ _ hB] at f0
        obtain ⟨ad, cap, rfl, -⟩ := row_cell ho
        rw [hL]
        clear hsp ho
        go_wp2_with fail
        go_ret2
        refine ⟨⟨#[]⟩, ⟨#[]⟩, false, rfl, by decide, HT.out, ?_, ?_, ?_⟩
        · exact (hb1.mono (Nat.le_of_lt hB)).setCell (p := ⟨B, 0, none⟩) (Nat.le_refl _) _
        · go_simp
        · go_simp

set_option maxHeartbeats 2000000 in
theorem take61_any (s : ByteArray) (well : Bool) (B : Nat) (w : World) (hs : s.size ≤ 100000) (c0 : w.cell? ⟨B, 0, none⟩ = some (.bool well)) (f0 : w.frozen? ⟨B, 0, none⟩ = false) :
    Calls Tryd.prog 33 #[.string s, .int .u8 61, .func (.func 35) #[] #[], .pointer (some ⟨B, 0, none⟩)] w fun e w' => ∃ a d ok, e = .returned (.tuple #[.string a, .string d]) ∧ a.size ≤ 100000 ∧ Took well (takL 61 valO s.data.toList) a d ok ∧ Below B w w' ∧ w'.cell? ⟨B, 0, none⟩ = some (.bool ok) ∧ w'.frozen? ⟨B, 0, none⟩ = false := by
  have hB : B < w.heap.size := block_lt_of_cell (a := ⟨B, 0, none⟩) c0
  have hsp : Calls Tryd.prog 19 #[.string s, .int .u8 61] w _ := split_any s 61 w (by omega)
  cases well
  · have HT : Hid (∀ x, Took false x ⟨#[]⟩ ⟨#[]⟩ false) := fun x => rfl
    go_enter Tryd.func33, Tryd.ntmps33
    go_wp2_with fail
    refine hsp.mono ?_
    rintro e w1 ⟨v, rfl, ho, hb1⟩
    rw [← (stays hb1).1 _ _ hB] at c0
    rw [← (stays hb1).2 _ _ hB] at f0
    clear hsp
    go_wp2_with fail
    go_ret2
    refine ⟨⟨#[]⟩, ⟨#[]⟩, false, rfl, by decide, HT.out _, ?_, ?_, ?_⟩
    · exact (hb1.mono (Nat.le_of_lt hB)).setCell (p := ⟨B, 0, none⟩) (Nat.le_refl _) _
    · go_simp
    · go_simp
  · have hN := split_ne 61 s.data.toList
    rcases hS : splitL 61 s.data.toList with _ | P
    · have HT : Hid (Took true (takL 61 valO s.data.toList) ⟨#[]⟩ ⟨#[]⟩ false) := by unfold Hid takL; rw [hS]; rfl
      rw [(sp_err hS).1, (sp_err hS).2] at hsp
      clear hN hS
      go_enter Tryd.func33, Tryd.ntmps33
      go_wp2_with fail
      refine hsp.mono ?_
      rintro e w1 ⟨v, rfl, ho, hb1⟩
      rw [← (stays hb1).1 _ _ hB] at c0
      rw [← (stays hb1).2 _ _ hB] at f0
      clear hsp
      go_wp2_with fail
      go_ret2
      refine ⟨⟨#[]⟩, ⟨#[]⟩, false, rfl, by decide, HT.out, ?_, ?_, ?_⟩
      · exact (hb1.mono (Nat.le_of_lt hB)).setCell (p := ⟨B, 0, none⟩) (Nat.le_refl _) _
      · go_simp
      · go_simp
    · rw [(sp_okay hS).1, (sp_okay hS).2] at hsp
      have hpl := split_part hS
      rcases P with _ | ⟨a, _ | ⟨c, _ | ⟨d, P⟩⟩⟩
      · exact absurd hS hN
      · have HT : Hid (Took true (takL 61 valO s.data.toList) (bs a) ⟨#[]⟩ true) := by unfold Hid takL; rw [hS]; exact ⟨rfl, rfl, rfl⟩
        have ha := hpl a (by simp)
        rw [size_list] at ha
        have HA : Hid ((bs a).size ≤ 100000) := by unfold Hid; rw [bs_size]; omega
        clear hN hS hpl
        go_enter Tryd.func33, Tryd.ntmps33
        go_wp2_with fail
        refine hsp.mono ?_
        rintro e w1 ⟨v, rfl, ho, hb1⟩
        rw [← (stays hb1).1 _ _ hB] at c0
        rw [← (stays hb1).2 _ _ hB] at f0
        obtain ⟨ad, cap, rfl, hR⟩ := row_cell ho
        obtain ⟨g, rfl, hg0, hg1, r0⟩ := hR 0 (by simp)
        have hgB : g ≠ B := by omega
        simp only [List.getElem_cons_zero, List.length_cons, List.length_nil] at r0 ⊢
        clear hsp ho hR
        go_wp2_with fail
        go_ret2
        refine ⟨bs a, ⟨#[]⟩, true, rfl, HA.out, HT.out, ?_, ?_, ?_⟩
        · exact (hb1.mono (Nat.le_of_lt hB)).setCell (p := ⟨B, 0, none⟩) (Nat.le_refl _) _
        · go_simp
        · go_simp
      · have ha := hpl a (by simp)
        have hc := hpl c (by simp)
        rw [size_list] at ha hc
        have HA : Hid ((bs a).size ≤ 100000) := by unfold Hid; rw [bs_size]; omega
        have HC : Hid ((bs c).size ≤ 100000) := by unfold Hid; rw [bs_size]; omega
        have HT : Hid (∀ v ok, Told (valO c) v ok → Took true (takL 61 valO s.data.toList) (bs a) v ok) := by
          intro v ok h
          unfold takL; rw [hS]
          show Took true ((valO c).map fun v => (a, v)) (bs a) v ok
          unfold Told at h
          cases ho : valO c with
          | none => rw [ho] at h; exact h
          | some x => rw [ho] at h; exact ⟨h.1, rfl, h.2⟩
        clear hN hS hpl
        go_enter Tryd.func33, Tryd.ntmps33
        go_wp2_with fail
        refine hsp.mono ?_
        rintro e w1 ⟨v, rfl, ho, hb1⟩
        rw [← (stays hb1).1 _ _ hB] at c0
        rw [← (stays hb1).2 _ _ hB] at f0
        obtain ⟨ad, cap, rfl, hR⟩ := row_cell ho
        obtain ⟨g, rfl, hg0, hg1, r0⟩ := hR 0 (by simp)
        obtain ⟨g', hgg, -, -, r1⟩ := hR 1 (by simp)
        obtain rfl : g = g' := by simpa using hgg
        have hgB : g ≠ B := by omega
        simp only [List.getElem_cons_zero, List.getElem_cons_succ, List.length_cons, List.length_nil] at r0 r1 ⊢
        clear hsp ho hR hgg
        have hBb := (hb1.mono (Nat.le_of_lt hB)).setCell (p := ⟨B, 0, none⟩) (Nat.le_refl _) (.bool true)
        have HRD : Hid (∀ W, Calls Tryd.prog 35 #[.string (bs c)] W fun e w' => ∃ v ok, e = .returned (.tuple #[.string v, .bool ok]) ∧ Told (valO c) v ok ∧ Below W.heap.size W w') := by
          intro W
          have := toq_any (bs c) W HC.out
          rwa [bs_list] at this
        go_wp2_with fail
        refine (HRD.out _).mono ?_
        rintro e w2 ⟨x, ok, rfl, htold, hb2⟩
        have s0 : (w1.setCell ⟨B, 0, none⟩ (.bool true)).cell? ⟨g, 0, none⟩ = some (.string (bs a)) := by go_simp
        have s1 : (w1.setCell ⟨B, 0, none⟩ (.bool true)).cell? ⟨B, 0, none⟩ = some (.bool true) := by go_simp
        have s2 : (w1.setCell ⟨B, 0, none⟩ (.bool true)).frozen? ⟨B, 0, none⟩ = false := by go_simp
        have hBB := hBb.trans (hb2.mono (by simp; omega))
        rw [← (stays hb2).1 _ _ (by simp; omega)] at s0 s1
        rw [← (stays hb2).2 _ _ (by simp; omega)] at s2
        clear hBb hb2 c0 f0 r0 r1
        go_wp2_with fail
        go_ret2
        refine ⟨bs a, x, ok, rfl, HA.out, HT.out x ok htold, ?_, ?_, ?_⟩
        · exact hBB.setCell (p := ⟨B, 0, none⟩) (Nat.le_refl _) _
        · go_simp
        · go_simp
      · have HT : Hid (Took true (takL 61 valO s.data.toList) ⟨#[]⟩ ⟨#[]⟩ false) := by unfold Hid takL; rw [hS]; rfl
        obtain ⟨m, hL, h3⟩ : ∃ m, (a :: c :: d :: P).length = m ∧ 3 ≤ m := ⟨_, rfl, by simp⟩
        have hd : decide ((m : Int) ≤ 2) = false := decide_eq_false (by omega)
        generalize (a :: c :: d :: P) = Q at *
        clear hN hS hpl
        go_enter Tryd.func33, Tryd.ntmps33
        go_wp2_with fail
        refine hsp.mono ?_
        rintro e w1 ⟨v, rfl, ho, hb1⟩
        rw [← (stays hb1).1 _ _ hB] at c0
        rw [← (stays hb1).2 _ _ hB] at f0
        obtain ⟨ad, cap, rfl, -⟩ := row_cell ho
        rw [hL]
        clear hsp ho
        go_wp2_with fail
        go_ret2
        refine ⟨⟨#[]⟩, ⟨#[]⟩, false, rfl, by decide, HT.out, ?_, ?_, ?_⟩
        · exact (hb1.mono (Nat.le_of_lt hB)).setCell (p := ⟨B, 0, none⟩) (Nat.le_refl _) _
        · go_simp
        · go_simp

end Go.Proofs.YtkakinakjnpbjaaDoor
