/- The walks of what asks of one field: whether it may be, whether it has a name. The walks of the document's own question whether a field may be, and of the names of fields. The walks of what goes through a row of fields and asks of each: the first one that is asked for, whether a row may be, whether two rows are the same. -/
import Derived.Test.YtmpijlaidnhpnaaGreatJWd
namespace Go.Proofs.YtmpijlaidnhpnaaGreat
set_option linter.unusedVariables false
set_option linter.unusedSimpArgs false
set_option maxRecDepth 100000
open Go.RowKit

/-- A field: its name and its value. -/
abbrev Fd := ByteArray × ByteArray
def fv (f : Fd) : Value := .agg #[.string f.1, .string f.2]

theorem ctl_not {s : ByteArray} (h : ∀ c ∈ s.data.toList, ctrlB c = false) : ctlB s = false := by
  unfold ctlB; rw [List.any_eq_false]; intro c hc; rw [h c hc]; decide
theorem ctl_yes {s : ByteArray} {c : UInt8} (h : c ∈ s.data.toList) (g : ctrlB c = true) : ctlB s = true := by
  unfold ctlB; rw [List.any_eq_true]; exact ⟨c, h, g⟩

set_option maxHeartbeats 2000000 in
theorem hasControl_any (s : ByteArray) (w : World) (hs : s.size ≤ 1000000) :
    Calls Tryz.prog 151 #[.string s] w fun e w' => e = .returned (.bool (ctlB s)) ∧ w' = w := by
  have HZ : Hid (s.data.toList.length = s.size) := by unfold Hid; simp
  go_enter Tryz.func151, Tryz.ntmps151
  go_wp2_with fail
  go_loop [6] (fun i => ∃ k : Nat, k ≤ s.size ∧ i = .int .i64 k ∧ Hid (∀ c ∈ s.data.toList.take k, ctrlB c = false)) (fun i => s.size - (intOf i).toNat)
  case atStart => exact ⟨0, Nat.zero_le _, rfl, by simp [Hid]⟩
  case round =>
    obtain ⟨k, hk, rfl, hall⟩ := hrel
    by_cases hlt : k < s.size
    · have hltz : (k : Int) < s.size := by omega
      have HT : Hid (s.data.toList.take (k + 1) = s.data.toList.take k ++ [s[k]'hlt]) := by
        unfold Hid; rw [take_snoc _ k (by rw [HZ.out]; exact hlt), get_at s k hlt]
      have HB := hide (ctrlB_iff (s[k]'hlt))
      obtain ⟨c, hc⟩ : ∃ c, s[k]'hlt = c := ⟨_, rfl⟩
      have hcl := c.toNat_lt
      rw [hc] at HT HB
      have YES : Hid (ctrlB c = true → ctlB s = true) := ctl_yes (by rw [← List.take_append_drop (k + 1) s.data.toList, HT.out]; simp)
      have NO : Hid (ctrlB c = false → ∀ d ∈ s.data.toList.take (k + 1), ctrlB d = false) := by
        unfold Hid
        intro hn d hd
        rw [HT.out] at hd
        rcases List.mem_append.1 hd with hd | hd
        · exact hall.out d hd
        · obtain rfl : d = c := by simpa using hd
          exact hn
      clear HT hall
      go_wp2_with fail
      all_goals first
        | (go_ret; refine ⟨?_, rfl⟩; rw [YES.out (by rw [HB.out]; simp_all <;> omega)]; rfl)
        | (refine ⟨⟨k + 1, by omega, by go_num, NO.out (by rw [HB.out]; simp_all <;> omega)⟩, by simp [intOf]; omega⟩)
    · have hd : decide ((k : Int) < s.size) = false := decide_eq_false (by omega)
      rw [List.take_of_length_le (by rw [HZ.out]; omega)] at hall
      have HN := hide (ctl_not hall.out)
      go_wp2_with fail
      go_ret
      refine ⟨?_, rfl⟩
      rw [HN.out]
      rfl

def trimB (v : ByteArray) : Bool := (trimS v).toList == v.toList
/-- Whether a value may be. -/
def valB (v : ByteArray) : Bool := decide (v.size ≤ 1000) && trimB v && !ctlB v
/-- Whether a field may be. -/
def mayF (f : Fd) : Bool := tokB f.1 && valB f.2

set_option maxHeartbeats 1000000 in
theorem wrongValue_any (s : ByteArray) (w : World) (hs : s.size ≤ 1000000) :
    Calls Tryz.prog 132 #[.string s] w fun e w' => e = .returned (.bool (!valB s)) ∧ Below w.heap.size w w' := by
  have HV : Hid (valB s = (decide (s.size ≤ 1000) && ((trimS s).toList == s.toList) && !ctlB s)) := rfl
  by_cases h1 : s.size ≤ 1000
  · have h1d : decide ((1000 : Int) < s.size) = false := decide_eq_false (by omega)
    rw [decide_eq_true h1] at HV
    go_enter Tryz.func132, Tryz.ntmps132
    go_wp2_with fail
    refine (trim_any s _ hs).mono ?_
    rintro e w1 ⟨rfl, hb1⟩
    by_cases h2 : ((trimS s).toList == s.toList) = true
    · rw [h2] at HV
      go_wp2_with fail
      refine (hasControl_any s _ hs).mono ?_
      rintro e w2 ⟨rfl, rfl⟩
      go_wp2_with fail
      go_ret
      exact ⟨ret_bool (by rw [HV.out]; simp), hb1⟩
    · rw [Bool.not_eq_true] at h2
      rw [h2] at HV
      go_wp2_with fail
      go_ret
      exact ⟨ret_bool (by rw [HV.out]; simp), hb1⟩
  · have h1d : decide ((1000 : Int) < s.size) = true := decide_eq_true (by omega)
    rw [decide_eq_false h1] at HV
    go_enter Tryz.func132, Tryz.ntmps132
    go_wp2_with fail
    go_ret
    exact ⟨ret_bool (by rw [HV.out]; simp), Below.refl _ _⟩

set_option maxHeartbeats 1000000 in
theorem wrong_any (f : Fd) (w : World) (h1 : f.1.size ≤ 1000000) (h2 : f.2.size ≤ 1000000) :
    Calls Tryz.prog 110 #[fv f] w fun e w' => e = .returned (.bool (!mayF f)) ∧ Below w.heap.size w w' := by
  have HV : Hid (mayF f = (tokB f.1 && valB f.2)) := rfl
  unfold fv
  go_enter Tryz.func110, Tryz.ntmps110
  go_wp2_with fail
  refine (token_any _ _ h1).mono ?_
  rintro e w1 ⟨rfl, hb1⟩
  cases ht : tokB f.1
  · rw [ht] at HV
    go_wp2_with fail
    go_ret
    exact ⟨ret_bool (by rw [HV.out]; simp), (one_alloc _ _ _).trans (hb1.mono (by simp))⟩
  · rw [ht] at HV
    have c1 : w1.cell? ⟨w.heap.size, 1, none⟩ = some (.string f.2) := by
      rw [(stays hb1).1 _ _ (by simp), World.cell?_alloc_new]; rfl
    go_wp2_with fail
    refine (wrongValue_any _ _ h2).mono ?_
    rintro e w2 ⟨rfl, hb2⟩
    go_wp2_with fail
    go_ret
    exact ⟨ret_bool (by rw [HV.out]; simp), ((one_alloc _ _ _).trans (hb1.mono (by simp))).trans (hb2.mono (by have := hb1.size; simp at this; omega))⟩

end Go.Proofs.YtmpijlaidnhpnaaGreat

namespace Go.Proofs.YtmpijlaidnhpnaaGreat
set_option linter.unusedVariables false
set_option linter.unusedSimpArgs false
set_option maxRecDepth 100000
open Go.RowKit

theorem reftoken_is (s : ByteArray) (b : Bool) (h : tokB s = b) (w : World) (hs : s.size ≤ 1000000) :
    Calls Tryz.prog 32 #[.string s] w fun e w' => e = .returned (.bool b) ∧ w' = w := by rw [← h]; exact reftoken_any s w hs

theorem below_drewN {B : Nat} {a w : World} (h : Below B a w) (n : Nat) : Below B a (w.drewN n) := ⟨h.os, h.tape, h.output, h.size, h.block⟩

theorem may_ctl {f : Fd} (h : ctlB f.2 = true) : mayF f = false := by unfold mayF valB; rw [h]; simp
theorem may_not {f : Fd} (h : ctlB f.2 = false) : mayF f = (tokB f.1 && ((trimS f.2).toList == f.2.toList) && decide (f.2.size ≤ 1000)) := by
  unfold mayF valB trimB; rw [h]; simp [Bool.and_comm, Bool.and_left_comm, Bool.and_assoc]

set_option maxHeartbeats 2000000 in
theorem may_any (f : Fd) (w : World) (h1 : f.1.size ≤ 1000000) (h2 : f.2.size ≤ 1000000) :
    Calls Tryz.prog 33 #[fv f] w fun e w' => e = .returned (.bool (mayF f)) ∧ Below w.heap.size w w' := by
  obtain ⟨n, v⟩ := f
  simp only at h1 h2
  have HZ : Hid (v.data.toList.length = v.size) := by unfold Hid; simp
  unfold fv
  go_enter Tryz.func33, Tryz.ntmps33
  go_wp2_with fail
  go_loop [3] (fun i => ∃ k : Nat, k ≤ v.size ∧ i = .int .i64 k ∧ Hid (∀ c ∈ v.data.toList.take k, ctrlB c = false)) (fun i => v.size - (intOf i).toNat)
  case atStart => exact ⟨0, Nat.zero_le _, rfl, by simp [Hid]⟩
  case round =>
    obtain ⟨k, hk, rfl, hall⟩ := hrel
    by_cases hlt : k < v.size
    · have hltz : (k : Int) < v.size := by omega
      have HT : Hid (v.data.toList.take (k + 1) = v.data.toList.take k ++ [v[k]'hlt]) := by
        unfold Hid; rw [take_snoc _ k (by rw [HZ.out]; exact hlt), get_at v k hlt]
      cases hb : ctrlB (v[k]'hlt)
      · go_wp2_with (go_at_call 29; refine (control_any _ _).mono ?_; rintro e w' ⟨rfl, rfl⟩; rw [hb])
        refine ⟨⟨k + 1, by omega, by go_num, ?_⟩, by simp [intOf]; omega⟩
        unfold Hid
        rw [HT.out]
        intro c hc
        rcases List.mem_append.1 hc with hc | hc
        · exact hall.out c hc
        · obtain rfl : c = v[k]'hlt := by simpa using hc
          exact hb
      · have HN : Hid (mayF (n, v) = false) := may_ctl (ctl_yes (by rw [← List.take_append_drop (k + 1) v.data.toList, HT.out]; simp) hb)
        go_wp2_with (go_at_call 29; refine (control_any _ _).mono ?_; rintro e w' ⟨rfl, rfl⟩; rw [hb])
        go_ret
        exact ⟨by rw [HN.out]; rfl, one_alloc _ _ _⟩
    · have hd : decide ((k : Int) < v.size) = false := decide_eq_false (by omega)
      rw [List.take_of_length_le (by rw [HZ.out]; omega)] at hall
      have HN := hide (may_not (f := (n, v)) (ctl_not hall.out))
      simp only at HN
      clear hall
      cases ht : tokB n
      · rw [ht] at HN
        go_wp2_with fail
        go_quiet (first | (go_at_call 32; refine Calls.quiet_of_same (reftoken_is _ _ ht _ h1)))
        go_wp2_with fail
        go_ret
        exact ⟨ret_bool (by rw [HN.out]; simp <;> omega), below_drewN (one_alloc _ _ _) _⟩
      · rw [ht] at HN
        cases hr : ((trimS v).toList == v.toList)
        · rw [hr] at HN
          go_wp2_with fail
          go_quiet (first | (go_at_call 32; refine Calls.quiet_of_same (reftoken_is _ _ ht _ h1)) | (go_at_call 30; refine Calls.quiet_of_same (reftrim_any _ _ h2)))
          go_wp2_with fail
          go_ret
          exact ⟨ret_bool (by rw [HN.out]; simp <;> omega), below_drewN (one_alloc _ _ _) _⟩
        · rw [hr] at HN
          go_wp2_with fail
          go_quiet (first | (go_at_call 32; refine Calls.quiet_of_same (reftoken_is _ _ ht _ h1)) | (go_at_call 30; refine Calls.quiet_of_same (reftrim_any _ _ h2)))
          go_wp2_with fail
          go_ret
          exact ⟨ret_bool (by rw [HN.out]; simp <;> omega), below_drewN (one_alloc _ _ _) _⟩

set_option maxHeartbeats 1000000 in
theorem refsame_any (a b : ByteArray) (w : World) (ha : a.size ≤ 1000000) (hb : b.size ≤ 1000000) :
    Calls Tryz.prog 106 #[.string a, .string b] w fun e w' => e = .returned (.bool (sameB a b)) ∧ Below w.heap.size w w' := by
  go_enter Tryz.func106, Tryz.ntmps106
  go_wp2_with fail
  refine (reflower_any a w ha).mono ?_
  rintro e w1 ⟨rfl, hb1⟩
  go_wp2_with fail
  refine (reflower_any b _ hb).mono ?_
  rintro e w2 ⟨rfl, hb2⟩
  go_wp2_with fail
  go_ret
  exact ⟨rfl, hb1.trans (hb2.mono hb1.size)⟩

/-- Whether a field has a name. -/
def nm (n : ByteArray) (f : Fd) : Bool := sameB f.1 n

set_option maxHeartbeats 1000000 in
theorem named1_any (f : Fd) (n : ByteArray) (N : Nat) (w : World) (h1 : f.1.size ≤ 1000000) (h2 : n.size ≤ 1000000) (hc : w.cell? ⟨N, 0, none⟩ = some (.string n)) :
    Calls Tryz.prog 136 #[fv f, .pointer (some ⟨N, 0, none⟩)] w fun e w' => e = .returned (.bool (nm n f)) ∧ Below w.heap.size w w' := by
  have hN : N < w.heap.size := block_lt_of_cell (a := ⟨N, 0, none⟩) hc
  have c1 : (w.alloc (.cells #[.string f.1, .string f.2] 68)).cell? ⟨N, 0, none⟩ = some (.string n) := by
    rw [(stays (one_alloc _ _ _)).1 _ _ hN]; exact hc
  unfold fv
  go_enter Tryz.func136, Tryz.ntmps136
  go_wp2_with fail
  refine (same_any _ _ _ h1 h2).mono ?_
  rintro e w1 ⟨rfl, hb1⟩
  go_wp2_with fail
  go_ret
  exact ⟨rfl, (one_alloc _ _ _).trans (hb1.mono (by simp))⟩

set_option maxHeartbeats 1000000 in
theorem named_any (n : ByteArray) (w : World) :
    Calls Tryz.prog 112 #[.string n] w fun e w' => e = .returned (.func (.func 136) #[] #[.pointer (some ⟨w.heap.size, 0, none⟩)]) ∧ w' = w.alloc (.cells #[.string n] 9) := by
  go_enter Tryz.func112, Tryz.ntmps112
  go_wp2_with fail
  go_ret
  exact ⟨rfl, rfl⟩

end Go.Proofs.YtmpijlaidnhpnaaGreat

namespace Go.Proofs.YtmpijlaidnhpnaaGreat
set_option linter.unusedVariables false
set_option linter.unusedSimpArgs false
set_option maxRecDepth 100000
open Go.RowKit

/-- A row of fields that can be read. -/
def Row (w : World) (v : Value) (L : List Fd) : Prop := ∃ (a : Option Addr) (cap : Nat), v = .slice a L.length cap ∧ L.length ≤ cap ∧
  ∀ k (h : k < L.length), ∃ g off, a = some ⟨g, off, none⟩ ∧ g < w.heap.size ∧ w.cell? ⟨g, off + k * 2, none⟩ = some (.string L[k].1) ∧ w.cell? ⟨g, off + k * 2 + 1, none⟩ = some (.string L[k].2)
theorem Row.below {w w' : World} {v : Value} {L : List Fd} (h : Row w v L) (hb : Below w.heap.size w w') : Row w' v L := by
  obtain ⟨a, cap, h1, h2, h3⟩ := h
  refine ⟨a, cap, h1, h2, fun k hk => ?_⟩
  obtain ⟨g, off, e, hg, c0, c1⟩ := h3 k hk
  exact ⟨g, off, e, Nat.lt_of_lt_of_le hg hb.size, ((stays hb).1 _ _ hg).trans c0, ((stays hb).1 _ _ hg).trans c1⟩
theorem Row.nil (w : World) : Row w (.slice none 0 0) [] := ⟨none, 0, rfl, Nat.le_refl _, fun k hk => absurd hk (Nat.not_lt_zero _)⟩

/-- All texts of a row are short. -/
def Sh (L : List Fd) : Prop := ∀ f ∈ L, f.1.size ≤ 10000 ∧ f.2.size ≤ 10000

/-- The place of the first one that is asked for. -/
def ixF (p : Fd → Bool) (L : List Fd) : Int := if L.any p then (L.findIdx p : Int) else -1
theorem ix_hit {p : Fd → Bool} {L : List Fd} {k : Nat} (h : k < L.length) (hp : p L[k] = true) (ha : ∀ f ∈ L.take k, p f = false) : ixF p L = k := by
  have h1 : L.any p = true := List.any_eq_true.2 ⟨_, List.getElem_mem h, hp⟩
  have h2 : L.findIdx p = k := by
    rw [List.findIdx_eq h]
    refine ⟨hp, fun j hj => ha _ ?_⟩
    rw [List.mem_take_iff_getElem]
    exact ⟨j, by omega, rfl⟩
  rw [ixF, if_pos h1, h2]
theorem ix_miss {p : Fd → Bool} {L : List Fd} (ha : ∀ f ∈ L, p f = false) : ixF p L = -1 := by
  have h1 : L.any p = false := List.any_eq_false.2 fun f hf => by rw [ha f hf]; decide
  rw [ixF, if_neg (by rw [h1]; decide)]
theorem take_next {α : Type} {L : List α} {k : Nat} (h : k < L.length) {p : α → Prop} (ha : ∀ f ∈ L.take k, p f) (hp : p L[k]) : ∀ f ∈ L.take (k + 1), p f := by
  intro f hf
  rw [List.take_succ_eq_append_getElem h] at hf
  rcases List.mem_append.1 hf with hf | hf
  · exact ha f hf
  · obtain rfl : f = L[k] := by simpa using hf
    exact hp
theorem ix_ge (p : Fd → Bool) (L : List Fd) : decide (0 ≤ ixF p L) = L.any p := by
  unfold ixF
  cases h : L.any p
  · simp
  · simp

set_option maxHeartbeats 2000000 in
theorem index_wrong (L : List Fd) (v : Value) (w : World) (hr : Row w v L) (hl : L.length ≤ 1000000) (hs : Sh L) :
    Calls Tryz.prog 131 #[v, .func (.func 110) #[] #[]] w fun e w' => e = .returned (.int .i64 (ixF (fun f => !mayF f) L)) ∧ Below w.heap.size w w' := by
  obtain ⟨a, cap, rfl, hcap, hR⟩ := hr
  have HR := hide hR
  have HS := hide hs
  clear hR hs
  go_enter Tryz.func131, Tryz.ntmps131
  go_wp2_with fail
  go_loopw [5, 8] (fun _ i wr => ∃ k : Nat, k ≤ L.length ∧ i = .int .i64 k ∧ Below w.heap.size w wr ∧ Hid (∀ f ∈ L.take k, (fun f => !mayF f) f = false)) (fun _ i _ => L.length - (intOf i).toNat)
  case atStart => exact ⟨0, Nat.zero_le _, rfl, Below.refl _ _, by simp [Hid]⟩
  case round =>
    obtain ⟨k, hk, rfl, hbr, hall⟩ := hrel
    by_cases hlt : k < L.length
    · have hltz : (k : Int) < L.length := by omega
      obtain ⟨g, off, rfl, hg, c0, c1⟩ := HR.out k hlt
      rw [← (stays hbr).1 _ _ hg] at c0 c1
      have hsh := HS.out _ (List.getElem_mem hlt)
      have HIT := hide (ix_hit (p := (fun f => !mayF f)) hlt)
      have NXT := hide (take_next (p := fun f => (fun f => !mayF f) f = false) hlt hall.out)
      have HALL := hide hall.out
      obtain ⟨x, hx⟩ : ∃ x, L[k]'hlt = x := ⟨_, rfl⟩
      rw [hx] at c0 c1 hsh HIT NXT
      clear hx hall HR
      go_wp2_with fail
      refine (wrong_any x wr (by omega) (by omega)).mono ?_
      rintro e w1 ⟨rfl, hb1⟩
      have hB1 := hbr.trans (hb1.mono hbr.size)
      cases hp : (fun f => !mayF f) x
      · have hq : (!mayF x) = _ := hp
        rw [hq]
        go_wp2_with fail
        exact ⟨⟨k + 1, by omega, by go_num, hB1, NXT.out hp⟩, by simp [intOf]; omega⟩
      · have hq : (!mayF x) = _ := hp
        rw [hq]
        go_wp2_with fail
        go_ret
        refine ⟨?_, hB1⟩
        rw [HIT.out hp HALL.out]
        rfl
    · have hd : decide ((k : Int) < L.length) = false := decide_eq_false (by omega)
      rw [List.take_of_length_le (by omega)] at hall
      have HN := hide (ix_miss hall.out)
      go_wp2_with fail
      go_ret
      refine ⟨?_, hbr⟩
      rw [HN.out]
      rfl

/-- Whether a row may be. -/
def rightF (L : List Fd) : Bool := decide (L.length ≤ 40) && L.all mayF

set_option maxHeartbeats 1000000 in
theorem contains_wrong (L : List Fd) (v : Value) (w : World) (hr : Row w v L) (hl : L.length ≤ 1000000) (hs : Sh L) :
    Calls Tryz.prog 109 #[v, .func (.func 110) #[] #[]] w fun e w' => e = .returned (.bool (L.any fun f => !mayF f)) ∧ Below w.heap.size w w' := by
  have HI := hide (ix_ge (fun f => !mayF f) L)
  go_enter Tryz.func109, Tryz.ntmps109
  go_wp2_with fail
  refine (index_wrong L v w hr hl hs).mono ?_
  rintro e w1 ⟨rfl, hb1⟩
  generalize ixF (fun f => !mayF f) L = I at HI ⊢
  go_wp2_with fail
  go_ret
  exact ⟨ret_bool HI.out, hb1⟩

theorem all_any (L : List Fd) : L.all mayF = !(L.any fun f => !mayF f) := by
  induction L with
  | nil => rfl
  | cons f L ih => rw [List.all_cons, List.any_cons, ih]; simp

set_option maxHeartbeats 1000000 in
theorem right_any (L : List Fd) (v : Value) (w : World) (hr : Row w v L) (hl : L.length ≤ 1000000) (hs : Sh L) :
    Calls Tryz.prog 90 #[v] w fun e w' => e = .returned (.bool (rightF L)) ∧ Below w.heap.size w w' := by
  have HV : Hid (rightF L = (decide (L.length ≤ 40) && !(L.any fun f => !mayF f))) := by unfold Hid rightF; rw [all_any]
  have HR := hide hr
  obtain ⟨a, cap, rfl, hcap, -⟩ := hr
  have HS := hide hs
  clear hs
  by_cases h40 : L.length ≤ 40
  · have h40d : decide ((L.length : Int) ≤ 40) = true := decide_eq_true (by omega)
    have h40z : (L.length : Int) ≤ 40 := by omega
    rw [decide_eq_true h40] at HV
    go_enter Tryz.func90, Tryz.ntmps90
    go_wp2_with fail
    refine (contains_wrong L _ w HR.out hl HS.out).mono ?_
    rintro e w1 ⟨rfl, hb1⟩
    go_wp2_with fail
    go_ret
    exact ⟨ret_bool (by rw [HV.out]; simp), hb1⟩
  · have h40d : decide ((L.length : Int) ≤ 40) = false := decide_eq_false (by omega)
    rw [decide_eq_false h40] at HV
    go_enter Tryz.func90, Tryz.ntmps90
    go_wp2_with fail
    go_ret
    exact ⟨ret_bool (by rw [HV.out]; simp), Below.refl _ _⟩

set_option maxHeartbeats 2000000 in
theorem refright_any (L : List Fd) (v : Value) (w : World) (hr : Row w v L) (hl : L.length ≤ 1000000) (hs : Sh L) :
    Calls Tryz.prog 18 #[v] w fun e w' => e = .returned (.bool (rightF L)) ∧ Below w.heap.size w w' := by
  obtain ⟨a, cap, rfl, hcap, hR⟩ := hr
  have HR := hide hR
  have HS := hide hs
  clear hR hs
  have HV : Hid (rightF L = (decide (L.length ≤ 40) && L.all mayF)) := rfl
  go_enter Tryz.func18, Tryz.ntmps18
  go_wp2_with fail
  go_loopw [4, 7] (fun _ i wr => ∃ k : Nat, k ≤ L.length ∧ i = .int .i64 k ∧ Below w.heap.size w wr ∧ Hid (∀ f ∈ L.take k, mayF f = true)) (fun _ i _ => L.length - (intOf i).toNat)
  case atStart => exact ⟨0, Nat.zero_le _, rfl, Below.refl _ _, by simp [Hid]⟩
  case round =>
    obtain ⟨k, hk, rfl, hbr, hall⟩ := hrel
    by_cases hlt : k < L.length
    · have hltz : (k : Int) < L.length := by omega
      obtain ⟨g, off, rfl, hg, c0, c1⟩ := HR.out k hlt
      rw [← (stays hbr).1 _ _ hg] at c0 c1
      have hsh := HS.out _ (List.getElem_mem hlt)
      have NXT := hide (take_next (p := fun f => mayF f = true) hlt hall.out)
      have HMEM := hide (List.getElem_mem hlt)
      obtain ⟨x, hx⟩ : ∃ x, L[k]'hlt = x := ⟨_, rfl⟩
      rw [hx] at c0 c1 hsh NXT HMEM
      clear hx hall HR
      go_wp2_with fail
      refine (may_any x _ (by omega) (by omega)).mono ?_
      rintro e w1 ⟨rfl, hb1⟩
      have hB1 := (hbr.alloc hbr.size (.cells #[.string x.1, .string x.2] 68)).trans (hb1.mono (by have := hbr.size; simp; omega))
      cases hp : mayF x
      · have HF : Hid (L.all mayF = false) := by unfold Hid; rw [List.all_eq_false]; exact ⟨x, HMEM.out, by rw [hp]; decide⟩
        try rw [hp]
        go_wp2_with fail
        go_ret
        exact ⟨ret_bool (by rw [HV.out, HF.out]; simp), hB1⟩
      · try rw [hp]
        go_wp2_with fail
        exact ⟨⟨k + 1, by omega, by go_num, hB1, NXT.out hp⟩, by simp [intOf]; omega⟩
    · have hd : decide ((k : Int) < L.length) = false := decide_eq_false (by omega)
      rw [List.take_of_length_le (by omega)] at hall
      have HN : Hid (L.all mayF = true) := List.all_eq_true.2 hall.out
      go_wp2_with fail
      go_ret
      exact ⟨ret_bool (by rw [HV.out, HN.out]; simp <;> omega), hbr⟩

set_option maxHeartbeats 2000000 in
theorem like_same (L : List Fd) (va vb : Value) (w : World) (ha : Row w va L) (hb : Row w vb L) (hl : L.length ≤ 1000000) :
    Calls Tryz.prog 28 #[va, vb] w fun e w' => e = .returned (.bool true) ∧ Below w.heap.size w w' := by
  obtain ⟨a, ca, rfl, hca, hA⟩ := ha
  obtain ⟨b, cb, rfl, hcb, hB⟩ := hb
  have HA := hide hA
  have HB := hide hB
  clear hA hB
  go_enter Tryz.func28, Tryz.ntmps28
  go_wp2_with fail
  go_loopw [5, 13] (fun _ i wr => ∃ k n : Nat, k ≤ L.length ∧ i = .int .i64 k ∧ wr = w.drewN n) (fun _ i _ => L.length - (intOf i).toNat)
  case atStart => exact ⟨0, 0, Nat.zero_le _, rfl, by simp [World.drewN]⟩
  case round =>
    obtain ⟨k, n, hk, rfl, rfl⟩ := hrel
    by_cases hlt : k < L.length
    · have hltz : (k : Int) < L.length := by omega
      obtain ⟨g, off, rfl, hg, c0, c1⟩ := HA.out k hlt
      obtain ⟨j, off2, rfl, hj, d0, d1⟩ := HB.out k hlt
      obtain ⟨x, hx⟩ : ∃ x, L[k]'hlt = x := ⟨_, rfl⟩
      rw [hx] at c0 c1 d0 d1
      clear hx HA HB
      go_wp2_with fail
      go_quiet (fail)
      go_wp2_with fail
      exact ⟨⟨k + 1, n + nq, by omega, by go_num, rfl⟩, by simp [intOf]; omega⟩
    · have hd : decide ((k : Int) < L.length) = false := decide_eq_false (by omega)
      go_wp2_with fail
      go_ret
      exact ⟨rfl, below_drewN (Below.refl _ _) n⟩

end Go.Proofs.YtmpijlaidnhpnaaGreat
