/- The walks of what gives the first value of a name, and all of them, parted by commas: the program's and the document's own. -/
import Derived.Test.YtojoidhjlbcijaaDoorWn
import Derived.Test.YtojoidhjlbcijaaDoorShelf
namespace Go.Proofs.YtojoidhjlbcijaaDoor
set_option linter.unusedVariables false
set_option linter.unusedSimpArgs false
set_option maxRecDepth 100000
open Go.RowKit

theorem OwnS.row {w : World} {base : Nat} {v : Value} {L : List ByteArray} (h : OwnS w base v L) : ∃ (a : Option Addr) (cap : Nat), v = .slice a L.length cap ∧ L.length ≤ cap ∧
    ∀ k (h : k < L.length), ∃ g, a = some ⟨g, 0, none⟩ ∧ g < w.heap.size ∧ w.cell? ⟨g, k, none⟩ = some (.string L[k]) := by
  rcases h.2 with ⟨rfl, h0⟩ | ⟨g, cap, cur, rfl, h2, h3, h4, h5, h6, h7⟩
  · exact ⟨none, 0, by rw [h0], by omega, fun k hk => by omega⟩
  · refine ⟨some ⟨g, 0, none⟩, cap, rfl, h4, fun k hk => ⟨g, rfl, (Array.getElem?_eq_some_iff.1 h3).1, ?_⟩⟩
    rw [cell_of_row w g k cur 9 (0, 0) h3]
    have : (scells L)[k]? = some (.string L[k]) := by simp [scells, hk]
    rw [← h7, List.getElem?_take, if_pos (by omega)] at this
    simpa using this

/-- Texts, parted by commas. -/
def joinS (L : List ByteArray) : ByteArray := ⟨(Lib.join (L.map (·.data.toList)) [44, 32]).toArray⟩
theorem joinS_nil : joinS [] = ⟨#[]⟩ := rfl
theorem joinS_one (x : ByteArray) : joinS [x] = x := by
  unfold joinS
  rw [List.map_cons, List.map_nil, Lib.join_one]
theorem join_snoc (x : List UInt8) (r : List (List UInt8)) (y sep : List UInt8) : Lib.join (x :: r ++ [y]) sep = Lib.join (x :: r) sep ++ (sep ++ y) := by
  rw [List.cons_append, Lib.join_cons, Lib.join_cons]
  simp [Lib.joinTail, List.append_assoc]
theorem joinS_snoc {L : List ByteArray} (h : L ≠ []) (y : ByteArray) : joinS (L ++ [y]) = joinS L ++ ⟨#[44, 32]⟩ ++ y := by
  cases L with
  | nil => exact absurd rfl h
  | cons x r =>
    apply bytes_ext
    rw [app_list, app_list]
    simp only [joinS]
    rw [List.map_append, List.map_cons, List.map_cons, List.map_nil, join_snoc]
    simp
theorem joinS_size {L : List ByteArray} (h : ∀ s ∈ L, s.size ≤ 100000) : (joinS L).size ≤ L.length * 100002 := by
  have key : ∀ L : List ByteArray, (∀ s ∈ L, s.size ≤ 100000) → Lib.lens (L.map (·.data.toList)) ≤ L.length * 100000 := by
    intro L
    induction L with
    | nil => intro _; simp [Lib.lens]
    | cons x r ih =>
      intro h
      have h1 := h x (by simp)
      have h2 := ih fun s hs => h s (by simp [hs])
      have h3 : x.data.toList.length = x.size := by simp
      simp [Lib.lens] at h2 ⊢
      omega
  rw [← size_list]
  cases L with
  | nil => simp [joinS, Lib.join_nil]
  | cons x r =>
    have hk := key (x :: r) h
    simp only [joinS, List.map_cons]
    rw [Lib.join_length]
    simp only [List.map_cons] at hk
    simp at hk ⊢
    omega

theorem joinS_small {L : List ByteArray} (h : ∀ s ∈ L, s.size ≤ 1010) : (joinS L).size ≤ L.length * 1012 := by
  have key : ∀ L : List ByteArray, (∀ s ∈ L, s.size ≤ 1010) → Lib.lens (L.map (·.data.toList)) ≤ L.length * 1010 := by
    intro L
    induction L with
    | nil => intro _; simp [Lib.lens]
    | cons x r ih =>
      intro h
      have h1 := h x (by simp)
      have h2 := ih fun s hs => h s (by simp [hs])
      have h3 : x.data.toList.length = x.size := by simp
      simp [Lib.lens] at h2 ⊢
      omega
  rw [← size_list]
  cases L with
  | nil => simp [joinS, Lib.join_nil]
  | cons x r =>
    have hk := key (x :: r) h
    simp only [joinS, List.map_cons]
    rw [Lib.join_length]
    simp only [List.map_cons] at hk
    simp at hk ⊢
    omega

def VSh (L : List ByteArray) : Prop := ∀ s ∈ L, s.size ≤ 100000
theorem all_short {n : ByteArray} {L : List Fd} (h : Sh L) : VSh (allF n L) := by
  intro s hs
  obtain ⟨f, hf, rfl⟩ := List.mem_map.1 hs
  exact (h f (List.mem_filter.1 hf).1).2
theorem del_short {n : ByteArray} {L : List Fd} (h : Sh L) : Sh (delF n L) := fun f hf => h f (List.mem_filter.1 hf).1

/-- The first value of a name, and whether there is one. -/
def getS (n : ByteArray) (L : List Fd) : ByteArray := (allF n L).headD ⟨#[]⟩
def hasB (n : ByteArray) (L : List Fd) : Bool := decide (0 < (allF n L).length)

theorem ret_two {a c : ByteArray} {b d : Bool} (h : a = c) (g : b = d) : Ending.returned (.tuple #[.string a, .bool b]) = .returned (.tuple #[.string c, .bool d]) := by rw [h, g]

theorem Below.one {w : World} : Below w.heap.size w w := Below.refl _ _

theorem join_call (A : List ByteArray) (a : Option Addr) (cap : Nat) (w : World) (hcap : A.length ≤ cap) (hl : A.length ≤ 1000000) (hs : VSh A)
    (hR : ∀ k (h : k < A.length), ∃ g, a = some ⟨g, 0, none⟩ ∧ g < w.heap.size ∧ w.cell? ⟨g, k, none⟩ = some (.string A[k])) :
    Calls Tryd.prog 48 #[.slice a A.length cap, .string ⟨#[44, 32]⟩] w fun e w' => e = .returned (.string (joinS A)) ∧ Below w.heap.size w w' := by
  cases A with
  | nil => exact (Tryd.strings_Join_none a cap _ w).mono fun e w' ⟨he, hw⟩ => ⟨he, hw ▸ Below.refl _ _⟩
  | cons x r =>
    obtain ⟨g, rfl, hg, -⟩ := hR 0 (by simp)
    have hsz := joinS_size hs
    rw [← size_list] at hsz
    refine Tryd.strings_Join g 0 cap (x :: r) ⟨#[44, 32]⟩ w (fun j y hj => ?_) hg (by omega) hcap ?_
    · obtain ⟨hjl, hje⟩ := List.getElem?_eq_some_iff.1 hj
      obtain ⟨g', he, -, hc⟩ := hR j hjl
      cases he
      rw [Nat.zero_add, hc, hje]
    · have : (Lib.join ((x :: r).map (·.data.toList)) [44, 32]).length ≤ (x :: r).length * 100002 := by simpa [joinS] using hsz
      exact Nat.le_trans this (by omega)

set_option maxHeartbeats 1000000 in
theorem joined_any (L : List Fd) (v : Value) (n : ByteArray) (w : World) (hr : Row w v L) (hl : L.length ≤ 1000000) (hs : Sh L) (hn : n.size ≤ 1000000) :
    Calls Tryd.prog 27 #[v, .string n] w fun e w' => e = .returned (.tuple #[.string (joinS (allF n L)), .bool (hasB n L)]) ∧ Below w.heap.size w w' := by
  have HV : Hid (hasB n L = decide (0 < (allF n L).length)) := rfl
  have HL : Hid ((allF n L).length ≤ 1000000) := Nat.le_trans (all_le n L) hl
  have HS := hide (all_short (n := n) hs)
  go_enter Tryd.func27, Tryd.ntmps27
  go_wp2_with fail
  refine (values_any L v n w hr hl hs hn).mono ?_
  rintro e w1 ⟨r, rfl, ho, hb⟩
  obtain ⟨A, hA⟩ : ∃ A, allF n L = A := ⟨_, rfl⟩
  rw [hA] at ho HV HL HS
  have HA := hide hA
  have hAl := HL.out
  clear hA hr hs
  obtain ⟨a, cap, rfl, hcap, hR⟩ := ho.row
  have HR := hide hR
  clear hR ho
  go_wp2_with fail
  refine (join_call A a cap w1 hcap hAl HS.out HR.out).mono ?_
  rintro e w2 ⟨rfl, hb2⟩
  obtain ⟨J, hJ⟩ : ∃ J, joinS A = J := ⟨_, rfl⟩
  have HJ := hide hJ
  rw [hJ]
  clear hJ
  go_wp2_with fail
  go_ret2
  exact ⟨ret_two (by rw [HA.out, HJ.out]) (by rw [HV.out]; try (simp <;> omega)), hb.trans (hb2.mono hb.size)⟩

set_option maxHeartbeats 2000000 in
theorem refjoined_any (A : List ByteArray) (a : Option Addr) (cap : Nat) (w : World) (hcap : A.length ≤ cap) (hl : A.length ≤ 1000000) (hs : VSh A)
    (hR : ∀ k (h : k < A.length), ∃ g, a = some ⟨g, 0, none⟩ ∧ g < w.heap.size ∧ w.cell? ⟨g, k, none⟩ = some (.string A[k])) :
    Calls Tryd.prog 36 #[.slice a A.length cap] w fun e w' => e = .returned (.string (joinS A)) ∧ w' = w := by
  have HR := hide hR
  have HS := hide hs
  clear hR hs
  go_enter Tryd.func36, Tryd.ntmps36
  go_wp2_with fail
  go_loop [3, 4, 5, 8] (fun o _ _ i => ∃ k : Nat, k ≤ A.length ∧ i = .int .i64 k ∧ o = .string (joinS (A.take k))) (fun _ _ _ i => A.length - (intOf i).toNat)
  case atStart => exact ⟨0, Nat.zero_le _, rfl, by rw [List.take_zero, joinS_nil]⟩
  case round =>
    obtain ⟨k, hk, rfl, rfl⟩ := hrel
    by_cases hlt : k < A.length
    · have hltz : (k : Int) < A.length := by omega
      obtain ⟨g, rfl, hg, c0⟩ := HR.out k hlt
      have hx := HS.out _ (List.getElem_mem hlt)
      have hsz : (joinS (A.take k)).size ≤ k * 100002 := by
        refine Nat.le_trans (joinS_size fun s hs => HS.out s (List.mem_of_mem_take hs)) ?_
        rw [List.length_take]; exact Nat.mul_le_mul_right _ (by omega)
      have HT := hide (List.take_succ_eq_append_getElem hlt)
      obtain ⟨x, hxe⟩ : ∃ x, A[k]'hlt = x := ⟨_, rfl⟩
      rw [hxe] at c0 hx HT
      clear hxe HR
      by_cases h0 : 0 < k
      · have h0z : (0 : Int) < k := by omega
        have HJ : Hid (joinS (A.take (k + 1)) = joinS (A.take k) ++ ⟨#[44, 32]⟩ ++ x) := by
          unfold Hid; rw [HT.out, joinS_snoc]; intro he; rcases List.take_eq_nil_iff.1 he with he | he; · omega
          · rw [he] at hlt; simp at hlt
        obtain ⟨J, hJ⟩ : ∃ J, joinS (A.take k) = J := ⟨_, rfl⟩
        rw [hJ] at HJ hsz ⊢
        clear hJ HT
        have hs2 : (J ++ ⟨#[44, 32]⟩).size = J.size + 2 := by rw [ByteArray.size_append]; rfl
        go_wp2_with fail
        exact ⟨⟨k + 1, by omega, by go_num, by rw [HJ.out]⟩, by simp [intOf]; omega⟩
      · obtain rfl : k = 0 := by omega
        have HJ : Hid (joinS (A.take 1) = x) := by
          unfold Hid
          have := HT.out
          rw [Nat.zero_add, List.take_zero, List.nil_append] at this
          rw [this, joinS_one]
        rw [List.take_zero, joinS_nil]
        clear HT hsz
        have he : (⟨#[]⟩ : ByteArray) ++ x = x := by apply bytes_ext; rw [app_list]; simp
        go_wp2_with fail
        exact ⟨⟨1, by omega, by go_num, by rw [HJ.out]⟩, by simp [intOf]; omega⟩
    · have hd : decide ((k : Int) < A.length) = false := decide_eq_false (by omega)
      rw [List.take_of_length_le (by omega)]
      go_wp2_with fail
      go_ret
      exact ⟨rfl, rfl⟩

end Go.Proofs.YtojoidhjlbcijaaDoor
