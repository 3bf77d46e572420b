/- The walks of the document's own: whether a word is there, whether a name is for the next one alone, whether a connection stays. -/
import Derived.Test.YtojoidhjlbcijaaDoorRe
namespace Go.Proofs.YtojoidhjlbcijaaDoor
set_option linter.unusedVariables false
set_option linter.unusedSimpArgs false
set_option maxRecDepth 100000
open Go.RowKit

theorem any_eq (A : List ByteArray) (s : ByteArray) (k : Nat) (hlt : k < A.length) : (A.take (k + 1)).any (fun x => x.toList == s.toList) = ((A.take k).any (fun x => x.toList == s.toList) || (A[k].toList == s.toList)) := by
  rw [List.take_succ_eq_append_getElem hlt, List.any_append]; simp
theorem any_bs (D : List (List UInt8)) (s : ByteArray) : (D.map bs).any (fun x => x.toList == s.toList) = decide (s.data.toList ∈ D) := by
  rw [Bool.eq_iff_iff, List.any_eq_true, decide_eq_true_eq]
  constructor
  · rintro ⟨x, hx, h⟩
    obtain ⟨p, hp, rfl⟩ := List.mem_map.1 hx
    rw [bs_toList, ByteArray.toList_eq, beq_iff_eq] at h
    exact h ▸ hp
  · intro h
    exact ⟨_, List.mem_map.2 ⟨_, h, rfl⟩, by rw [bs_back]; exact beq_self_eq_true _⟩

theorem hasrow_any (A : List ByteArray) (a : Option Addr) (cap : Nat) (s : ByteArray) (w : World) (hcap : A.length ≤ cap) (hl : A.length ≤ 1000000)
    (hR : ∀ k (h : k < A.length), ∃ g, a = some ⟨g, 0, none⟩ ∧ g < w.heap.size ∧ w.cell? ⟨g, k, none⟩ = some (.string A[k])) :
    Calls Tryd.prog 31 #[.slice a A.length cap, .string s] w fun e w' => e = .returned (.bool (A.any fun x => x.toList == s.toList)) ∧ w' = w := by
  have HR := hide hR
  clear hR
  go_enter Tryd.func31, Tryd.ntmps31
  go_wp2_with fail
  go_loop [6, 9] (fun _ i => ∃ k : Nat, k ≤ A.length ∧ i = .int .i64 k ∧ Hid ((A.take k).any (fun x => x.toList == s.toList) = false)) (fun _ i => A.length - (intOf i).toNat)
  case atStart => exact ⟨0, Nat.zero_le _, rfl, by unfold Hid; rw [List.take_zero]; rfl⟩
  case round =>
    obtain ⟨k, hk, rfl, hn⟩ := hrel
    by_cases hlt : k < A.length
    · have hltz : (k : Int) < A.length := by omega
      obtain ⟨g, rfl, hg, c0⟩ := HR.out k hlt
      have HA : Hid ((A.take (k + 1)).any (fun x => x.toList == s.toList) = (A[k].toList == s.toList)) := by unfold Hid; rw [any_eq A s k hlt, hn.out, Bool.false_or]
      have HM : Hid (A.any (fun x => x.toList == s.toList) = ((A.take (k + 1)).any (fun x => x.toList == s.toList) || (A.drop (k + 1)).any (fun x => x.toList == s.toList))) := by unfold Hid; rw [← List.any_append, List.take_append_drop]
      obtain ⟨x, hx⟩ : ∃ x, A[k]'hlt = x := ⟨_, rfl⟩
      rw [hx] at c0 HA
      clear hx HR hn
      cases he : (x.toList == s.toList)
      · rw [he] at HA
        go_wp2_with fail
        exact ⟨⟨k + 1, by omega, by go_num, HA⟩, by simp [intOf]; omega⟩
      · rw [he] at HA
        rw [HA.out] at HM
        go_wp2_with fail
        go_ret
        exact ⟨by rw [HM.out]; rfl, rfl⟩
    · have hd : decide ((k : Int) < A.length) = false := decide_eq_false (by omega)
      rw [List.take_of_length_le (by omega)] at hn
      go_wp2_with fail
      go_ret
      exact ⟨by rw [hn.out]; rfl, rfl⟩

/-- A row of words that is told. -/
def RowW (w : World) (v : Value) (D : List (List UInt8)) : Prop := ∃ (a : Option Addr) (cap : Nat), v = .slice a D.length cap ∧ D.length ≤ cap ∧
  ∀ k (h : k < (D.map bs).length), ∃ g, a = some ⟨g, 0, none⟩ ∧ g < w.heap.size ∧ w.cell? ⟨g, k, none⟩ = some (.string (D.map bs)[k])
theorem OwnS.rowW {w : World} {base : Nat} {v : Value} {D : List (List UInt8)} (h : OwnS w base v (D.map bs)) : RowW w v D := by
  obtain ⟨a, cap, rfl, hc, hR⟩ := h.row
  rw [List.length_map] at hc ⊢
  exact ⟨a, cap, rfl, hc, hR⟩
theorem RowW.below {w w' : World} {v : Value} {D : List (List UInt8)} (h : RowW w v D) (hb : Below w.heap.size w w') : RowW w' v D := by
  obtain ⟨a, cap, rfl, hc, hR⟩ := h
  refine ⟨a, cap, rfl, hc, fun k hk => ?_⟩
  obtain ⟨g, rfl, hg, c⟩ := hR k hk
  exact ⟨g, rfl, Nat.lt_of_lt_of_le hg hb.size, ((stays hb).1 _ _ hg).trans c⟩
theorem hasW_any (D : List (List UInt8)) (v : Value) (s : ByteArray) (w : World) (hr : RowW w v D) (hl : D.length ≤ 1000000) :
    Calls Tryd.prog 31 #[v, .string s] w fun e w' => e = .returned (.bool (decide (s.data.toList ∈ D))) ∧ w' = w := by
  obtain ⟨a, cap, rfl, hc, hR⟩ := hr
  have h := hasrow_any (D.map bs) a cap s w (by rw [List.length_map]; exact hc) (by rw [List.length_map]; exact hl) hR
  rw [List.length_map, any_bs] at h
  exact h

/-- The eight names in small letters as a block of texts. -/
def smallC : Array Value := #[.string ⟨#[99, 111, 110, 110, 101, 99, 116, 105, 111, 110]⟩, .string ⟨#[107, 101, 101, 112, 45, 97, 108, 105, 118, 101]⟩, .string ⟨#[112, 114, 111, 120, 121, 45, 99, 111, 110, 110, 101, 99, 116, 105, 111, 110]⟩, .string ⟨#[116, 101]⟩, .string ⟨#[116, 114, 97, 105, 108, 101, 114]⟩, .string ⟨#[116, 114, 97, 110, 115, 102, 101, 114, 45, 101, 110, 99, 111, 100, 105, 110, 103]⟩, .string ⟨#[117, 112, 103, 114, 97, 100, 101]⟩, .string ⟨#[99, 111, 110, 116, 101, 110, 116, 45, 108, 101, 110, 103, 116, 104]⟩]
theorem small_at : ∀ k (h : k < (fixW.map bs).length), smallC[k]? = some (.string (fixW.map bs)[k]) := by
  intro k hk
  match k, hk with
  | 0, _ => rfl
  | 1, _ => rfl
  | 2, _ => rfl
  | 3, _ => rfl
  | 4, _ => rfl
  | 5, _ => rfl
  | 6, _ => rfl
  | 7, _ => rfl
  | k + 8, hk => exact absurd hk (by simp [fixW])
theorem small_row (w : World) : RowW (w.alloc (.cells smallC 9)) (.slice (some ⟨w.heap.size, 0, none⟩) 8 8) fixW :=
  ⟨_, 8, rfl, Nat.le_refl _, fun k hk => ⟨w.heap.size, rfl, by simp, by rw [World.cell?_alloc_new]; exact small_at k hk⟩⟩

set_option maxHeartbeats 4000000 in
theorem refalone_any (D : List (List UInt8)) (v : Value) (n : ByteArray) (w : World) (hr : RowW w v D) (hl : D.length ≤ 1000000) (hn : n.size ≤ 1000000) :
    Calls Tryd.prog 21 #[v, .string n] w fun e w' => e = .returned (.bool (aloneB D n.data.toList)) ∧ Below w.heap.size w w' := by
  have HN : Hid (aloneB D n.data.toList = (decide ((lowS n).data.toList ∈ fixW) || decide ((lowS n).data.toList ∈ D))) := by unfold Hid aloneB; rw [lowS_list]
  have HR := hide hr
  clear hr
  go_enter Tryd.func21, Tryd.ntmps21
  go_wp2_with fail
  refine (reflower_any n w hn).mono ?_
  rintro e w1 ⟨rfl, hb1⟩
  generalize lowS n = s at *
  have HR1 := hide (HR.out.below hb1)
  clear HR
  have hal : Below w1.heap.size w1 (w1.alloc (.cells smallC 9)) := (Below.refl _ _).alloc (Nat.le_refl _) _
  have hBa := hb1.trans (hal.mono hb1.size)
  have HS := hide (small_row w1)
  have HR2 := hide (HR1.out.below hal)
  unfold smallC at hBa HS HR2
  clear hal
  go_wp2_with fail
  refine (hasW_any fixW _ s _ HS.out (by decide)).mono ?_
  rintro e w2 ⟨rfl, rfl⟩
  cases hp : decide (s.data.toList ∈ fixW)
  · rw [hp] at HN
    go_wp2_with fail
    refine (hasW_any D v s _ HR2.out hl).mono ?_
    rintro e w3 ⟨rfl, rfl⟩
    go_wp2_with fail
    go_ret
    exact ⟨by rw [HN.out]; rfl, hBa⟩
  · rw [hp] at HN
    go_wp2_with fail
    go_ret
    exact ⟨by rw [HN.out]; rfl, hBa⟩

end Go.Proofs.YtojoidhjlbcijaaDoor
