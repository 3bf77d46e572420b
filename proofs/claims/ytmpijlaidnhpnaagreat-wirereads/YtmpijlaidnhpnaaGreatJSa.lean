/- The walks of what asks bytes, targets and reasons. First lines in memory; the walks of which may be. -/
import Derived.Test.YtmpijlaidnhpnaaGreatJMt
namespace Go.Proofs.YtmpijlaidnhpnaaGreat
set_option linter.unusedVariables false
set_option linter.unusedSimpArgs false
set_option maxRecDepth 100000
open Go.RowKit

theorem eq_of_beq {s : ByteArray} {l : List UInt8} (h : (s.toList == l) = true) : s.data.toList = l := by
  rw [ByteArray.toList_eq] at h; simpa using h
theorem ne_of_beq {s : ByteArray} {l : List UInt8} (h : (s.toList == l) = false) : s.data.toList ≠ l := by
  rw [ByteArray.toList_eq] at h; simpa using h
theorem below_drew {n : Nat} {w w' : World} (h : Below n w w') : Below n w w'.drew := ⟨h.1, h.2, h.3, h.4, h.5⟩

theorem pre_any (s p : ByteArray) (b : Bool) (h : pre p.data.toList s.data.toList = b) (w : World) :
    Calls Tryz.prog 77 #[.string s, .string p] w fun e w' => e = .returned (.bool b) ∧ w' = w := by
  refine (Tryz.strings_HasPrefix s p w).mono ?_
  rintro e w1 ⟨rfl, rfl⟩
  exact ⟨by rw [← h]; rfl, rfl⟩

theorem toU8 (c : UInt8) : ((c.toNat : Int)).toNat.toUInt8 = c := by simp
theorem bar_has (c : UInt8) : hasL c barL = barL.contains c := by
  rw [Bool.eq_iff_iff, hasL_iff, List.contains_iff_mem]

set_option maxRecDepth 100000 in
set_option maxHeartbeats 1000000 in
theorem ofAddress_any (c : UInt8) (w : World) :
    Calls Tryz.prog 149 #[.int .u8 (c.toNat : Int)] w fun e w' => e = .returned (.bool (addrB c)) ∧ w' = w := by
  have hc := c.toNat_lt
  have hi := Tryz.strings_IndexByte ⟨barL.toArray⟩ (c.toNat : Int) w
  rw [toU8, indexByte_ix] at hi
  have hl : (⟨barL.toArray⟩ : ByteArray).data.toList = barL := by simp
  rw [hl] at hi
  have HI := hide hi
  have HX : Hid (decide (ixI c barL < 0) = !barL.contains c) := by unfold Hid; rw [ixI_lt, bar_has]
  clear hi hl
  by_cases h1 : 33 ≤ c.toNat
  · by_cases h2 : c.toNat ≤ 126
    · go_enter Tryz.func149, Tryz.ntmps149
      go_wp2_with fail
      refine HI.out.mono ?_
      rintro e w1 ⟨rfl, rfl⟩
      go_wp2_with fail
      go_ret
      refine ⟨?_, rfl⟩
      unfold addrB
      rw [← HX.out, decide_eq_true h1, decide_eq_true h2]
      rfl
    · have h2d : decide ((c.toNat : Int) ≤ 126) = false := decide_eq_false (by omega)
      have HR : Hid (addrB c = false) := by unfold Hid addrB; simp [h2]
      go_enter Tryz.func149, Tryz.ntmps149
      go_wp2_with fail
      go_ret
      exact ⟨by rw [HR.out]; rfl, rfl⟩
  · have h1d : decide (33 ≤ (c.toNat : Int)) = false := decide_eq_false (by omega)
    have HR : Hid (addrB c = false) := by unfold Hid addrB; simp [h1]
    go_enter Tryz.func149, Tryz.ntmps149
    go_wp2_with fail
    go_ret
    exact ⟨by rw [HR.out]; rfl, rfl⟩

set_option maxRecDepth 100000 in
set_option maxHeartbeats 1000000 in
theorem ofReason_any (c : UInt8) (w : World) :
    Calls Tryz.prog 150 #[.int .u8 (c.toNat : Int)] w fun e w' => e = .returned (.bool (sayB c)) ∧ w' = w := by
  have hc := c.toNat_lt
  go_enter Tryz.func150, Tryz.ntmps150
  go_wp2
  all_goals (go_ret; refine ⟨ret_bool ?_, rfl⟩)
  all_goals (unfold sayB; rw [ctrlB_iff, Bool.eq_iff_iff]; simp; try omega)

set_option maxRecDepth 100000 in
set_option maxHeartbeats 1000000 in
theorem every_any (F : FuncId) (p : UInt8 → Bool) (hcf : ∀ (a : Array Value) (w1 : World), Sem.run Tryz.prog (callFunc F a) w1 = .ok (.enter F a) w1)
    (hp : ∀ (c : UInt8) (w : World), Calls Tryz.prog F #[.int .u8 (c.toNat : Int)] w fun e w' => e = .returned (.bool (p c)) ∧ w' = w)
    (s : ByteArray) (w : World) (hs : s.size ≤ 1000000) :
    Calls Tryz.prog 148 #[.string s, .func (.func F) #[] #[]] w fun e w' => e = .returned (.bool (allB p s.data.toList)) ∧ w' = w := by
  have HZ : Hid (s.data.toList.length = s.size) := by unfold Hid; simp
  have HP := hide hp
  clear hp
  go_enter Tryz.func148, Tryz.ntmps148
  go_wp2_with fail
  go_loop [8] (fun i => ∃ k : Nat, k ≤ s.size ∧ i = .int .i64 k ∧ Hid (∀ x ∈ s.data.toList.take k, p x = true)) (fun i => s.size - (intOf i).toNat)
  case atStart => exact ⟨0, Nat.zero_le _, rfl, by simp [Hid]⟩
  case round =>
    obtain ⟨k, hk, rfl, hall⟩ := hrel
    by_cases hlt : k < s.size
    · have hltz : (k : Int) < s.size := by omega
      have HT : Hid (s.data.toList.take (k + 1) = s.data.toList.take k ++ [s[k]]) := by
        unfold Hid; rw [take_snoc _ k (by rw [HZ.out]; exact hlt), get_at s k hlt]
      cases hb : p s[k]
      · have HN : Hid (allB p s.data.toList = false) := by
          unfold Hid allB
          rw [List.all_eq_false]
          exact ⟨s[k], by rw [← List.take_append_drop (k + 1) s.data.toList, HT.out]; simp, by simp [hb]⟩
        go_wp2_with fail
        refine (HP.out s[k] _).mono ?_
        rintro e w1 ⟨rfl, hw1⟩
        subst hw1
        rw [hb]
        go_wp2_with fail
        go_ret
        exact ⟨by rw [HN.out]; rfl, rfl⟩
      · go_wp2_with fail
        refine (HP.out s[k] _).mono ?_
        rintro e w1 ⟨rfl, hw1⟩
        subst hw1
        rw [hb]
        go_wp2_with fail
        refine ⟨⟨k + 1, by omega, by go_num, ?_⟩, by simp [intOf]; omega⟩
        unfold Hid
        rw [HT.out]
        intro x hx
        rcases List.mem_append.1 hx with hx | hx
        · exact hall.out x hx
        · obtain rfl : x = s[k] := by simpa using hx
          exact hb
    · have hd : decide ((k : Int) < s.size) = false := decide_eq_false (by omega)
      rw [List.take_of_length_le (by rw [HZ.out]; omega)] at hall
      have HN : Hid (allB p s.data.toList = true) := List.all_eq_true.2 hall.out
      go_wp2_with fail
      go_ret
      exact ⟨by rw [HN.out]; rfl, rfl⟩

theorem cf52 (a : Array Value) (w1 : World) : Sem.run Tryz.prog (callFunc 149 a) w1 = .ok (.enter 149 a) w1 := by kernel_rfl
theorem cf53 (a : Array Value) (w1 : World) : Sem.run Tryz.prog (callFunc 150 a) w1 = .ok (.enter 150 a) w1 := by kernel_rfl
theorem everyA (s : ByteArray) (w : World) (hs : s.size ≤ 1000000) : Calls Tryz.prog 148 #[.string s, .func (.func 149) #[] #[]] w fun e w' => e = .returned (.bool (allB addrB s.data.toList)) ∧ w' = w :=
  every_any 149 addrB cf52 ofAddress_any s w hs
theorem everyR (s : ByteArray) (w : World) (hs : s.size ≤ 1000000) : Calls Tryz.prog 148 #[.string s, .func (.func 150) #[] #[]] w fun e w' => e = .returned (.bool (allB sayB s.data.toList)) ∧ w' = w :=
  every_any 150 sayB cf53 ofReason_any s w hs

def tgtB (s : ByteArray) : Bool := tgtL s.data.toList
def rsnB (s : ByteArray) : Bool := rsnL s.data.toList

theorem tgt_star {s : ByteArray} (h : s.data.toList = [42]) : tgtB s = true := by unfold tgtB tgtL; rw [h]; rfl
theorem tgt_else {s : ByteArray} (h : s.data.toList ≠ [42]) {b : Bool} (hb : (pre [47] s.data.toList || pre httpL s.data.toList) = b) : tgtB s = (b && decide (s.size ≤ 500) && allB addrB s.data.toList) := by
  unfold tgtB tgtL
  rw [decide_eq_false h, hb, size_list]; simp

set_option maxRecDepth 100000 in
set_option maxHeartbeats 1000000 in
theorem rightTarget_any (s : ByteArray) (w : World) (hs : s.size ≤ 1000000) :
    Calls Tryz.prog 129 #[.string s] w fun e w' => e = .returned (.bool (tgtB s)) ∧ w' = w := by
  have hE := everyA s
  cases h0 : (s.toList == [42])
  · have H0 := hide (ne_of_beq h0)
    have hp1 := fun b (h : pre [47] s.data.toList = b) => pre_any s ⟨#[47]⟩ b h
    have hp2 := fun b (h : pre httpL s.data.toList = b) => pre_any s ⟨#[104, 116, 116, 112, 58, 47, 47]⟩ b h
    by_cases hl : s.size ≤ 500
    · have hld : decide ((s.size : Int) ≤ 500) = true := decide_eq_true (by omega)
      cases h1 : pre [47] s.data.toList
      · have C1 := hp1 _ h1
        cases h2 : pre httpL s.data.toList
        · have C2 := hp2 _ h2
          have HR : Hid (tgtB s = false) := by unfold Hid; rw [tgt_else H0.out (b := false) (by rw [h1, h2]; rfl)]; simp
          clear hp1 hp2 h1 h2 hE
          go_enter Tryz.func129, Tryz.ntmps129
          go_wp2_with fail
          refine (C1 _).mono ?_
          rintro e w1 ⟨rfl, hw1⟩
          subst hw1
          go_wp2_with fail
          refine (C2 _).mono ?_
          rintro e w1 ⟨rfl, hw1⟩
          subst hw1
          go_wp2_with fail
          go_ret
          exact ⟨by rw [HR.out]; rfl, rfl⟩
        · have C2 := hp2 _ h2
          have HR : Hid (tgtB s = allB addrB s.data.toList) := by unfold Hid; rw [tgt_else H0.out (b := true) (by rw [h1, h2]; rfl), decide_eq_true hl]; simp
          clear hp1 hp2 h1 h2
          go_enter Tryz.func129, Tryz.ntmps129
          go_wp2_with fail
          refine (C1 _).mono ?_
          rintro e w1 ⟨rfl, hw1⟩
          subst hw1
          go_wp2_with fail
          refine (C2 _).mono ?_
          rintro e w1 ⟨rfl, hw1⟩
          subst hw1
          go_wp2_with fail
          refine (hE _ hs).mono ?_
          rintro e w1 ⟨rfl, hw1⟩
          subst hw1
          go_wp2_with fail
          go_ret
          exact ⟨by rw [HR.out]; rfl, rfl⟩
      · have C1 := hp1 _ h1
        have HR : Hid (tgtB s = allB addrB s.data.toList) := by unfold Hid; rw [tgt_else H0.out (b := true) (by rw [h1]; rfl), decide_eq_true hl]; simp
        clear hp1 hp2 h1
        go_enter Tryz.func129, Tryz.ntmps129
        go_wp2_with fail
        refine (C1 _).mono ?_
        rintro e w1 ⟨rfl, hw1⟩
        subst hw1
        go_wp2_with fail
        refine (hE _ hs).mono ?_
        rintro e w1 ⟨rfl, hw1⟩
        subst hw1
        go_wp2_with fail
        go_ret
        exact ⟨by rw [HR.out]; rfl, rfl⟩
    · have hld : decide ((s.size : Int) ≤ 500) = false := decide_eq_false (by omega)
      have HR : Hid (tgtB s = false) := by unfold Hid; rw [tgt_else H0.out (b := _) rfl, decide_eq_false hl]; simp
      clear hE
      cases h1 : pre [47] s.data.toList
      · have C1 := hp1 _ h1
        have C2 := hp2 _ rfl
        generalize pre httpL s.data.toList = b2 at C2
        clear hp1 hp2 h1
        cases b2
        all_goals
          go_enter Tryz.func129, Tryz.ntmps129
          go_wp2_with fail
          refine (C1 _).mono ?_
          rintro e w1 ⟨rfl, hw1⟩
          subst hw1
          go_wp2_with fail
          refine (C2 _).mono ?_
          rintro e w1 ⟨rfl, hw1⟩
          subst hw1
          go_wp2_with fail
          go_ret
          exact ⟨by rw [HR.out]; rfl, rfl⟩
      · have C1 := hp1 _ h1
        clear hp1 hp2 h1
        go_enter Tryz.func129, Tryz.ntmps129
        go_wp2_with fail
        refine (C1 _).mono ?_
        rintro e w1 ⟨rfl, hw1⟩
        subst hw1
        go_wp2_with fail
        go_ret
        exact ⟨by rw [HR.out]; rfl, rfl⟩
  · have HR := hide (tgt_star (eq_of_beq h0))
    clear hE
    go_enter Tryz.func129, Tryz.ntmps129
    go_wp2_with fail
    go_ret
    exact ⟨by rw [HR.out]; rfl, rfl⟩

theorem rsn_long {s : ByteArray} (h : ¬ s.size ≤ 100) : rsnB s = false := by unfold rsnB rsnL; rw [size_list, decide_eq_false h]; rfl
theorem rsn_bad {s : ByteArray} (h : allB sayB s.data.toList = false) : rsnB s = false := by unfold rsnB rsnL; rw [h]; simp
theorem rsn_trim {s : ByteArray} (h : s.size ≤ 100) (g : allB sayB s.data.toList = true) : rsnB s = ((trimS s).toList == s.toList) := by
  unfold rsnB rsnL
  rw [size_list, decide_eq_true h, g, ByteArray.toList_eq, ByteArray.toList_eq, trimS_list]
  simp only [Bool.true_and]
  rw [Bool.eq_iff_iff]; simp

set_option maxRecDepth 100000 in
set_option maxHeartbeats 1000000 in
theorem rightReason_any (s : ByteArray) (w : World) (hs : s.size ≤ 1000000) :
    Calls Tryz.prog 130 #[.string s] w fun e w' => e = .returned (.bool (rsnB s)) ∧ Below w.heap.size w w' := by
  have hE := everyR s
  by_cases hl : s.size ≤ 100
  · have hld : decide ((s.size : Int) ≤ 100) = true := decide_eq_true (by omega)
    cases h1 : allB sayB s.data.toList
    · rw [h1] at hE
      have HR := hide (rsn_bad h1)
      clear h1
      go_enter Tryz.func130, Tryz.ntmps130
      go_wp2_with fail
      refine (hE _ hs).mono ?_
      rintro e w1 ⟨rfl, hw1⟩
      subst hw1
      go_wp2_with fail
      go_ret
      exact ⟨by rw [HR.out]; rfl, Below.refl _ _⟩
    · rw [h1] at hE
      have HR := hide (rsn_trim hl h1)
      clear h1
      go_enter Tryz.func130, Tryz.ntmps130
      go_wp2_with fail
      refine (hE _ hs).mono ?_
      rintro e w1 ⟨rfl, hw1⟩
      subst hw1
      go_wp2_with fail
      refine (trim_any s _ hs).mono ?_
      rintro e w1 ⟨rfl, hb⟩
      go_wp2_with fail
      go_ret
      exact ⟨by rw [HR.out]; rfl, hb⟩
  · have hld : decide ((s.size : Int) ≤ 100) = false := decide_eq_false (by omega)
    have HR := hide (rsn_long hl)
    clear hE
    go_enter Tryz.func130, Tryz.ntmps130
    go_wp2_with fail
    go_ret
    exact ⟨by rw [HR.out]; rfl, Below.refl _ _⟩

end Go.Proofs.YtmpijlaidnhpnaaGreat

namespace Go.Proofs.YtmpijlaidnhpnaaGreat
set_option linter.unusedVariables false
set_option linter.unusedSimpArgs false
set_option maxRecDepth 100000
open Go.RowKit

/-- A first line as a value. -/
def St.v (s : St) : Value := .agg #[.string s.m, .string s.t, .int .i64 s.c, .string s.r, .int .i64 s.n]
def St.cs (s : St) : List Value := [.string s.m, .string s.t, .int .i64 s.c, .string s.r, .int .i64 s.n]

/-- A first line lies in block N. -/
structure Five (w : World) (N : Nat) (s : St) : Prop where
  c0 : w.cell? ⟨N, 0, none⟩ = some (.string s.m)
  c1 : w.cell? ⟨N, 1, none⟩ = some (.string s.t)
  c2 : w.cell? ⟨N, 2, none⟩ = some (.int .i64 s.c)
  c3 : w.cell? ⟨N, 3, none⟩ = some (.string s.r)
  c4 : w.cell? ⟨N, 4, none⟩ = some (.int .i64 s.n)
  lt : N < w.heap.size
  fz : ∀ o, w.frozen? ⟨N, o, none⟩ = false

theorem Five.below {w w' : World} {N : Nat} {s : St} (h : Five w N s) (hb : Below w.heap.size w w') : Five w' N s := by
  have hc : ∀ k, w'.cell? ⟨N, k, none⟩ = w.cell? ⟨N, k, none⟩ := fun k => hb.cell (p := ⟨N, k, none⟩) h.lt
  exact ⟨(hc 0).trans h.c0, (hc 1).trans h.c1, (hc 2).trans h.c2, (hc 3).trans h.c3, (hc 4).trans h.c4, Nat.lt_of_lt_of_le h.lt hb.size, fun o => (hb.frozen (p := ⟨N, o, none⟩) h.lt).trans (h.fz o)⟩
theorem Five.new (w : World) (s : St) : Five (w.alloc (.cells s.cs.toArray 23)) w.heap.size s :=
  ⟨by rw [World.cell?_alloc_new]; rfl, by rw [World.cell?_alloc_new]; rfl, by rw [World.cell?_alloc_new]; rfl, by rw [World.cell?_alloc_new]; rfl, by rw [World.cell?_alloc_new]; rfl, by simp, fun o => World.frozen?_alloc_new _ _ _ _⟩
theorem Five.alloc {w : World} {N : Nat} {s : St} (h : Five w N s) (o : Obj) : Five (w.alloc o) N s := h.below ((Below.refl _ _).alloc (Nat.le_refl _) o)
theorem Five.drew {w : World} {N : Nat} {s : St} (h : Five w N s) : Five w.drew N s := ⟨h.c0, h.c1, h.c2, h.c3, h.c4, h.lt, h.fz⟩
theorem Five.drewN {w : World} {N : Nat} {s : St} (h : Five w N s) (n : Nat) : Five (w.drewN n) N s := ⟨h.c0, h.c1, h.c2, h.c3, h.c4, h.lt, h.fz⟩
theorem Five.other {w : World} {N : Nat} {s : St} (h : Five w N s) (M k : Nat) (v : Value) (hM : M ≠ N) : Five (w.setCell ⟨M, k, none⟩ v) N s := by
  have hc : ∀ j, (w.setCell ⟨M, k, none⟩ v).cell? ⟨N, j, none⟩ = w.cell? ⟨N, j, none⟩ := fun j => World.cell?_setCell_other _ _ _ _ (by simp [Ne.symm hM])
  exact ⟨(hc 0).trans h.c0, (hc 1).trans h.c1, (hc 2).trans h.c2, (hc 3).trans h.c3, (hc 4).trans h.c4, by simpa using h.lt, fun o => by rw [World.frozen?_setCell]; exact h.fz o⟩
theorem Five.s0 {w : World} {N : Nat} {s : St} (h : Five w N s) (x : ByteArray) : Five (w.setCell ⟨N, 0, none⟩ (.string x)) N ⟨x, s.t, s.c, s.r, s.n⟩ :=
  ⟨World.cell?_setCell_same _ _ _ h.c0, (World.cell?_setCell_other _ _ _ _ (by simp)).trans h.c1, (World.cell?_setCell_other _ _ _ _ (by simp)).trans h.c2, (World.cell?_setCell_other _ _ _ _ (by simp)).trans h.c3, (World.cell?_setCell_other _ _ _ _ (by simp)).trans h.c4, by simpa using h.lt, fun o => by rw [World.frozen?_setCell]; exact h.fz o⟩
theorem Five.s1 {w : World} {N : Nat} {s : St} (h : Five w N s) (x : ByteArray) : Five (w.setCell ⟨N, 1, none⟩ (.string x)) N ⟨s.m, x, s.c, s.r, s.n⟩ :=
  ⟨(World.cell?_setCell_other _ _ _ _ (by simp)).trans h.c0, World.cell?_setCell_same _ _ _ h.c1, (World.cell?_setCell_other _ _ _ _ (by simp)).trans h.c2, (World.cell?_setCell_other _ _ _ _ (by simp)).trans h.c3, (World.cell?_setCell_other _ _ _ _ (by simp)).trans h.c4, by simpa using h.lt, fun o => by rw [World.frozen?_setCell]; exact h.fz o⟩
theorem Five.s2 {w : World} {N : Nat} {s : St} (h : Five w N s) (x : Int) : Five (w.setCell ⟨N, 2, none⟩ (.int .i64 x)) N ⟨s.m, s.t, x, s.r, s.n⟩ :=
  ⟨(World.cell?_setCell_other _ _ _ _ (by simp)).trans h.c0, (World.cell?_setCell_other _ _ _ _ (by simp)).trans h.c1, World.cell?_setCell_same _ _ _ h.c2, (World.cell?_setCell_other _ _ _ _ (by simp)).trans h.c3, (World.cell?_setCell_other _ _ _ _ (by simp)).trans h.c4, by simpa using h.lt, fun o => by rw [World.frozen?_setCell]; exact h.fz o⟩
theorem Five.s3 {w : World} {N : Nat} {s : St} (h : Five w N s) (x : ByteArray) : Five (w.setCell ⟨N, 3, none⟩ (.string x)) N ⟨s.m, s.t, s.c, x, s.n⟩ :=
  ⟨(World.cell?_setCell_other _ _ _ _ (by simp)).trans h.c0, (World.cell?_setCell_other _ _ _ _ (by simp)).trans h.c1, (World.cell?_setCell_other _ _ _ _ (by simp)).trans h.c2, World.cell?_setCell_same _ _ _ h.c3, (World.cell?_setCell_other _ _ _ _ (by simp)).trans h.c4, by simpa using h.lt, fun o => by rw [World.frozen?_setCell]; exact h.fz o⟩
theorem Five.s4 {w : World} {N : Nat} {s : St} (h : Five w N s) (x : Int) : Five (w.setCell ⟨N, 4, none⟩ (.int .i64 x)) N ⟨s.m, s.t, s.c, s.r, x⟩ :=
  ⟨(World.cell?_setCell_other _ _ _ _ (by simp)).trans h.c0, (World.cell?_setCell_other _ _ _ _ (by simp)).trans h.c1, (World.cell?_setCell_other _ _ _ _ (by simp)).trans h.c2, (World.cell?_setCell_other _ _ _ _ (by simp)).trans h.c3, World.cell?_setCell_same _ _ _ h.c4, by simpa using h.lt, fun o => by rw [World.frozen?_setCell]; exact h.fz o⟩

/-- All five at once. -/
def put5 (w : World) (N : Nat) (s : St) : World := ((((w.setCell ⟨N, 0, none⟩ (.string s.m)).setCell ⟨N, 1, none⟩ (.string s.t)).setCell ⟨N, 2, none⟩ (.int .i64 s.c)).setCell ⟨N, 3, none⟩ (.string s.r)).setCell ⟨N, 4, none⟩ (.int .i64 s.n)
theorem put5_below {B : Nat} {w w' : World} (h : Below B w w') {N : Nat} (hN : B ≤ N) (x : St) : Below B w (put5 w' N x) := ((((h.setCell hN _).setCell hN _).setCell hN _).setCell hN _).setCell hN _

theorem five_zero (w : World) : Five (w.alloc (.cells #[.string ⟨#[]⟩, .string ⟨#[]⟩, .int .i64 0, .string ⟨#[]⟩, .int .i64 0] 23)) w.heap.size St.no := Five.new w St.no
theorem no_v : St.no.v = .agg #[.string ⟨#[]⟩, .string ⟨#[]⟩, .int .i64 0, .string ⟨#[]⟩, .int .i64 0] := rfl
theorem ret_se {a b : St} {x y : Int} (h : a = b) (g : x = y) : Ending.returned (.tuple #[a.v, .int .i64 x]) = .returned (.tuple #[b.v, .int .i64 y]) := by rw [h, g]

structure Short (s : St) : Prop where
  m : s.m.size ≤ 10000
  t : s.t.size ≤ 10000
  r : s.r.size ≤ 10000

theorem req_is (s : St) : reqB s = (decide (s.c = 0) && decide (s.r.data.toList = []) && decide (s.m.size ≤ 20) && tokB s.m && tgtB s.t) := rfl
theorem sta_is (s : St) : staB s = (decide (100 ≤ s.c) && decide (s.c ≤ 599) && decide (s.m.data.toList = []) && decide (s.t.data.toList = []) && rsnB s.r) := rfl

set_option maxRecDepth 100000 in
set_option maxHeartbeats 1000000 in
theorem rightRequest_any (s : St) (w : World) (hs : Short s) :
    Calls Tryz.prog 107 #[s.v] w fun e w' => e = .returned (.bool (reqB s)) ∧ Below w.heap.size w w' := by
  have hnew := Five.new w s
  have hbn : Below w.heap.size w (w.alloc (.cells s.cs.toArray 23)) := (Below.refl _ _).alloc (Nat.le_refl _) _
  unfold St.cs at hnew hbn
  have h20 := hs.m
  have h21 := hs.t
  by_cases h1 : s.c = 0
  · by_cases h2 : s.r.data.toList = []
    · have he := empty_of h2
      by_cases h3 : s.m.size ≤ 20
      · have hd3 : decide ((s.m.size : Int) ≤ 20) = true := decide_eq_true (by omega)
        cases h4 : tokB s.m
        · have HR : Hid (reqB s = false) := by unfold Hid; rw [req_is, h4]; simp
          have H4 := hide h4
          unfold St.v
          rw [h1] at hnew hbn ⊢
          clear h1 h2 h4
          go_enter Tryz.func107, Tryz.ntmps107
          go_wp2_with fail
          generalize w.alloc _ = W1 at hnew hbn ⊢
          refine (token_any s.m _ (by omega)).mono ?_
          rintro e w1 ⟨rfl, hb1⟩
          rw [H4.out]
          go_wp2_with fail
          go_ret
          exact ⟨by rw [HR.out]; rfl, hbn.trans (hb1.mono hbn.size)⟩
        · have HR : Hid (reqB s = tgtB s.t) := by unfold Hid; rw [req_is, h4, decide_eq_true h1, decide_eq_true h2, decide_eq_true h3]; rfl
          have H4 := hide h4
          unfold St.v
          rw [h1] at hnew hbn ⊢
          clear h1 h2 h4
          go_enter Tryz.func107, Tryz.ntmps107
          go_wp2_with fail
          generalize w.alloc _ = W1 at hnew hbn ⊢
          refine (token_any s.m _ (by omega)).mono ?_
          rintro e w1 ⟨rfl, hb1⟩
          rw [H4.out]
          have hX := hnew.below hb1
          have c1 := hX.c1
          go_wp2_with fail
          refine (rightTarget_any s.t _ (by omega)).mono ?_
          rintro e w2 ⟨rfl, hw2⟩
          subst hw2
          go_wp2_with fail
          go_ret
          exact ⟨by rw [HR.out]; rfl, hbn.trans (hb1.mono hbn.size)⟩
      · have hd3 : decide ((s.m.size : Int) ≤ 20) = false := decide_eq_false (by omega)
        have HR : Hid (reqB s = false) := by unfold Hid; rw [req_is, decide_eq_false h3]; simp
        unfold St.v
        rw [h1] at hnew hbn ⊢
        clear h1 h2
        go_enter Tryz.func107, Tryz.ntmps107
        go_wp2_with fail
        go_ret
        exact ⟨by rw [HR.out]; rfl, hbn⟩
    · have he := empty_not h2
      have HR : Hid (reqB s = false) := by unfold Hid; rw [req_is, decide_eq_false h2]; simp
      unfold St.v
      rw [h1] at hnew hbn ⊢
      clear h1 h2
      go_enter Tryz.func107, Tryz.ntmps107
      go_wp2_with fail
      go_ret
      exact ⟨by rw [HR.out]; rfl, hbn⟩
  · have hd1 : (s.c == 0) = false := by simpa using h1
    have HR : Hid (reqB s = false) := by unfold Hid; rw [req_is, decide_eq_false h1]; simp
    unfold St.v
    clear h1
    go_enter Tryz.func107, Tryz.ntmps107
    go_wp2_with fail
    go_ret
    exact ⟨by rw [HR.out]; rfl, hbn⟩

set_option maxRecDepth 100000 in
set_option maxHeartbeats 1000000 in
theorem rightStatus_any (s : St) (w : World) (hs : Short s) :
    Calls Tryz.prog 108 #[s.v] w fun e w' => e = .returned (.bool (staB s)) ∧ Below w.heap.size w w' := by
  have hnew := Five.new w s
  have hbn : Below w.heap.size w (w.alloc (.cells s.cs.toArray 23)) := (Below.refl _ _).alloc (Nat.le_refl _) _
  unfold St.cs at hnew hbn
  have h20 := hs.r
  by_cases h1 : 100 ≤ s.c
  · have hd1 : decide (100 ≤ s.c) = true := decide_eq_true h1
    by_cases h2 : s.c ≤ 599
    · have hd2 : decide (s.c ≤ 599) = true := decide_eq_true h2
      by_cases h3 : s.m.data.toList = []
      · have he3 := empty_of h3
        by_cases h4 : s.t.data.toList = []
        · have he4 := empty_of h4
          have HR : Hid (staB s = rsnB s.r) := by unfold Hid; rw [sta_is, decide_eq_true h1, decide_eq_true h2, decide_eq_true h3, decide_eq_true h4]; rfl
          unfold St.v
          clear h3 h4
          go_enter Tryz.func108, Tryz.ntmps108
          go_wp2_with fail
          generalize w.alloc _ = W1 at hnew hbn ⊢
          refine (rightReason_any s.r _ (by omega)).mono ?_
          rintro e w1 ⟨rfl, hb1⟩
          go_wp2_with fail
          go_ret
          exact ⟨by rw [HR.out]; rfl, hbn.trans (hb1.mono hbn.size)⟩
        · have he4 := empty_not h4
          have HR : Hid (staB s = false) := by unfold Hid; rw [sta_is, decide_eq_false h4]; simp
          unfold St.v
          clear h3 h4
          go_enter Tryz.func108, Tryz.ntmps108
          go_wp2_with fail
          go_ret
          exact ⟨by rw [HR.out]; rfl, hbn⟩
      · have he3 := empty_not h3
        have HR : Hid (staB s = false) := by unfold Hid; rw [sta_is, decide_eq_false h3]; simp
        unfold St.v
        clear h3
        go_enter Tryz.func108, Tryz.ntmps108
        go_wp2_with fail
        go_ret
        exact ⟨by rw [HR.out]; rfl, hbn⟩
    · have hd2 : decide (s.c ≤ 599) = false := decide_eq_false h2
      have HR : Hid (staB s = false) := by unfold Hid; rw [sta_is, decide_eq_false h2]; simp
      unfold St.v
      go_enter Tryz.func108, Tryz.ntmps108
      go_wp2_with fail
      go_ret
      exact ⟨by rw [HR.out]; rfl, hbn⟩
  · have hd1 : decide (100 ≤ s.c) = false := decide_eq_false h1
    have HR : Hid (staB s = false) := by unfold Hid; rw [sta_is, decide_eq_false h1]; simp
    unfold St.v
    go_enter Tryz.func108, Tryz.ntmps108
    go_wp2_with fail
    go_ret
    exact ⟨by rw [HR.out]; rfl, hbn⟩

set_option maxRecDepth 100000 in
set_option maxHeartbeats 1000000 in
theorem sright_any (s : St) (w : World) (hs : Short s) :
    Calls Tryz.prog 89 #[s.v] w fun e w' => e = .returned (.bool (rtB s)) ∧ Below w.heap.size w w' := by
  have hnew := Five.new w s
  have hbn : Below w.heap.size w (w.alloc (.cells s.cs.toArray 23)) := (Below.refl _ _).alloc (Nat.le_refl _) _
  unfold St.cs at hnew hbn
  by_cases h0 : s.n = 0 ∨ s.n = 1
  · cases h1 : reqB s
    · have HR : Hid (rtB s = staB s) := by unfold Hid rtB; rw [h1]; simp; intro _; exact h0
      have H1 := hide h1
      clear h1
      obtain ⟨m, t, c, r, n⟩ := s
      rcases (show n = 0 ∨ n = 1 from h0) with rfl | rfl
      all_goals
        clear h0
        unfold St.v
        dsimp only at hnew hbn
        go_enter Tryz.func89, Tryz.ntmps89
        go_wp2_with fail
        generalize w.alloc _ = W1 at hnew hbn ⊢
        refine (rightRequest_any _ _ hs).mono ?_
        rintro e w1 ⟨rfl, hb1⟩
        rw [H1.out]
        have hX := hnew.below hb1
        obtain ⟨c0, c1, c2, c3, c4, -, -⟩ := hX
        go_wp2_with fail
        refine (rightStatus_any _ _ hs).mono ?_
        rintro e w2 ⟨rfl, hb2⟩
        go_wp2_with fail
        go_ret
        have B1 := hbn.trans (hb1.mono hbn.size)
        exact ⟨by rw [HR.out]; rfl, B1.trans (hb2.mono B1.size)⟩
    · have HR : Hid (rtB s = true) := by unfold Hid rtB; rw [h1]; simp; exact h0
      have H1 := hide h1
      clear h1
      obtain ⟨m, t, c, r, n⟩ := s
      rcases (show n = 0 ∨ n = 1 from h0) with rfl | rfl
      all_goals
        clear h0
        unfold St.v
        dsimp only at hnew hbn
        go_enter Tryz.func89, Tryz.ntmps89
        go_wp2_with fail
        generalize w.alloc _ = W1 at hnew hbn ⊢
        refine (rightRequest_any _ _ hs).mono ?_
        rintro e w1 ⟨rfl, hb1⟩
        rw [H1.out]
        go_wp2_with fail
        go_ret
        exact ⟨by rw [HR.out]; rfl, hbn.trans (hb1.mono hbn.size)⟩
  · have hd0 : (s.n == 0) = false := by simpa using fun e => h0 (Or.inl e)
    have hd1 : (s.n == 1) = false := by simpa using fun e => h0 (Or.inr e)
    have HR : Hid (rtB s = false) := by unfold Hid rtB; rw [decide_eq_false (fun e => h0 (Or.inl e)), decide_eq_false (fun e => h0 (Or.inr e))]; rfl
    unfold St.v
    clear h0
    go_enter Tryz.func89, Tryz.ntmps89
    go_wp2_with fail
    go_ret
    exact ⟨by rw [HR.out]; rfl, hbn⟩

end Go.Proofs.YtmpijlaidnhpnaaGreat
