/- The walks of what removes a name's fields, and of what gives a name's values: the program's and the document's own. The walks of what gives the first value of a name, and all of them, parted by commas: the program's and the document's own. What several lengths say, read one by one: the document's own way comes to the same. By plain reckoning. -/
import Derived.Test.YtmpijlaidnhpnaaGreatJWl
import Derived.Laws.EntriesVeiled
import Derived.Test.YtmpijlaidnhpnaaGreatJWo
import Derived.Test.YtmpijlaidnhpnaaGreatJShelf
import Derived.Test.YtmpijlaidnhpnaaGreatJMt
namespace Go.Proofs.YtmpijlaidnhpnaaGreat.Rf
set_option linter.unusedVariables false
set_option linter.unusedSimpArgs false
set_option maxRecDepth 100000
open Go.RowKit

set_option maxHeartbeats 2000000 in
theorem values_any (L : List Fd) (v : Value) (n : ByteArray) (w : World) (hr : Row w v L) (hl : L.length ≤ 1000000) (hs : Sh L) (hn : n.size ≤ 1000000) :
    Calls Tryz.prog 92 #[v, .string n] w fun e w' => ∃ r, e = .returned r ∧ OwnS w' w.heap.size r (allF n L) ∧ Below w.heap.size w w' := by
  have hbA : Below w.heap.size w ((w.alloc (.cells #[.string n] 9)).alloc (.cells #[.func (.func 136) #[] #[.pointer (some ⟨w.heap.size, 0, none⟩)]] 71)) := (one_alloc _ _ _).alloc (by simp) _
  have hr1 := hr.below hbA
  have n0 : ((w.alloc (.cells #[.string n] 9)).alloc (.cells #[.func (.func 136) #[] #[.pointer (some ⟨w.heap.size, 0, none⟩)]] 71)).cell? ⟨w.heap.size, 0, none⟩ = some (.string n) := by go_simp
  have s0 : ((w.alloc (.cells #[.string n] 9)).alloc (.cells #[.func (.func 136) #[] #[.pointer (some ⟨w.heap.size, 0, none⟩)]] 71)).cell? ⟨w.heap.size + 1, 0, none⟩ = some (.func (.func 136) #[] #[.pointer (some ⟨w.heap.size, 0, none⟩)]) := by go_simp
  have HX := hide (And.intro hr1 (And.intro n0 (And.intro s0 (And.intro hbA hs))))
  clear hbA hr1 n0 s0 hr hs
  go_enter Tryz.func92, Tryz.ntmps92
  go_wp2_with fail
  refine (named_any n _).mono ?_
  rintro e w1 ⟨rfl, rfl⟩
  go_wp2_with fail
  refine (chosen_text L v n w.heap.size (w.heap.size + 1) _ HX.out.1 hl HX.out.2.2.2.2 hn HX.out.2.1 HX.out.2.2.1).mono ?_
  rintro e w2 ⟨r, rfl, ho, hb⟩
  go_wp2_with fail
  go_ret
  exact ⟨_, rfl, ho.mono HX.out.2.2.2.1.size, HX.out.2.2.2.1.trans (hb.mono HX.out.2.2.2.1.size)⟩

set_option maxHeartbeats 4000000 in
theorem refall_any (L : List Fd) (v : Value) (n : ByteArray) (w : World) (hr : Row w v L) (hl : L.length ≤ 1000000) (hs : Sh L) (hn : n.size ≤ 1000000) :
    Calls Tryz.prog 86 #[v, .string n] w fun e w' => ∃ r, e = .returned r ∧ OwnS w' w.heap.size r (allF n L) ∧ Below w.heap.size w w' := by
  obtain ⟨a, cap, rfl, hcap, hR⟩ := hr
  have HR := hide hR
  have HS := hide hs
  clear hR hs
  obtain ⟨i0, hi0, hz0, hz1, hz2⟩ := info_parts Tryz.info9
  go_enter Tryz.func86, Tryz.ntmps86
  go_wp2_with fail
  go_loopw [5, 7, 11] (fun v _ i wr => ∃ k : Nat, k ≤ L.length ∧ i = .int .i64 k ∧ Below w.heap.size w wr ∧ OwnS wr w.heap.size v (allF n (L.take k))) (fun _ _ i _ => L.length - (intOf i).toNat)
  case atStart => exact ⟨0, Nat.zero_le _, rfl, one_alloc _ _ _, by rw [List.take_zero]; exact World.ownsRow_lit w #[] 0 (Nat.le_refl _) (by decide) rfl⟩
  case round =>
    obtain ⟨k, hk, rfl, hbr, hown⟩ := hrel
    have hsz := hbr.size
    by_cases hlt : k < L.length
    · have hltz : (k : Int) < L.length := by omega
      obtain ⟨g, off, rfl, hg, c0, c1⟩ := HR.out k hlt
      rw [← (stays hbr).1 _ _ hg] at c0 c1
      have hsh := HS.out _ (List.getElem_mem hlt)
      have HT := hide (List.take_succ_eq_append_getElem hlt)
      have HLE : Hid ((allF n (L.take k)).length ≤ k) := by
        unfold Hid; refine Nat.le_trans (all_le n (L.take k)) ?_; rw [List.length_take]; omega
      obtain ⟨x, hx⟩ : ∃ x, L[k]'hlt = x := ⟨_, rfl⟩
      rw [hx] at c0 c1 hsh HT
      have HX : Hid (allF n (L.take (k + 1)) = allF n (L.take k) ++ (if nm n x then [x.2] else [])) := by unfold Hid; rw [HT.out, all_snoc]
      obtain ⟨D, hD⟩ : ∃ D, allF n (L.take k) = D := ⟨_, rfl⟩
      rw [hD] at hown HLE HX
      clear hx hD HR HT
      go_wp2_with fail
      refine (refsame_any x.1 n _ (by omega) hn).mono ?_
      rintro e w1 ⟨rfl, hb1⟩
      have hB1 := (hbr.alloc hsz (.cells #[.string x.1, .string x.2] 68)).trans (hb1.mono (by simp; omega))
      have hs1 := hB1.size
      have ho1 := (hown.alloc (.cells #[.string x.1, .string x.2] 68)).below hb1
      have d0 : w1.cell? ⟨wr.heap.size, 0, none⟩ = some (.string x.1) := by rw [(stays hb1).1 _ _ (by simp)]; go_simp
      have d1 : w1.cell? ⟨wr.heap.size, 1, none⟩ = some (.string x.2) := by rw [(stays hb1).1 _ _ (by simp)]; go_simp
      have hwl : wr.heap.size < w1.heap.size := by have := hb1.size; simp at this; omega
      clear hb1 hown hbr c0 c1
      have hq : sameB x.1 n = nm n x := rfl
      rw [hq]
      clear hq
      cases hp : nm n x
      · rw [hp] at HX
        try rw [hp]
        go_wp2_with fail
        refine ⟨⟨k + 1, by omega, by go_num, hB1, ?_⟩, by simp [intOf]; omega⟩
        rw [HX.out, if_neg (by simp), List.append_nil]
        exact ho1
      · rw [hp] at HX
        try unfold fv
        try rw [hp]
        have hBx := hB1
        have hsx := hs1
        have hox := ho1
        have hla := hBx.alloc hsx (.cells #[.string x.2] 9)
        have hoa := hox.alloc (.cells #[.string x.2] 9)
        have h63 : D.length + 1 ≤ maxLen := maxLen_of (by have := HLE.out; omega)
        have hby : (D.length + 1) * 16 ≤ 140737488355328 := by have := HLE.out; omega
        have hba : w.heap.size ≤ (w1.alloc (.cells #[.string x.2] 9)).heap.size := by simp at hsx ⊢; omega
        have hce := cell_one_new w1 (.string x.2) 9
        have HXX := hide (And.intro h63 (And.intro hby (And.intro hba (And.intro hce (And.intro hla hoa)))))
        clear h63 hby hba hce hla hoa hBx hox ho1 hB1
        go_wp2_with (at_builtin; refine wpList_append_own _ rfl (.tmp 19) (.tmp 22) 118 rfl w.heap.size 9 i0 (.string ⟨#[]⟩) 1 16 Tryz.underlying118 hi0 hz0 hz1 hz2 rfl (by decide) _ _ _ rfl HXX.out.2.2.2.2.2 _ 1 1 [.string x.2] rfl rfl HXX.out.2.2.2.1 (by intro u hu; simp at hu; subst hu; rfl) HXX.out.1 HXX.out.2.1 HXX.out.2.2.1 ?_; intro v' w2 ho2 hg2 _)
        have hl2 := HXX.out.2.2.2.2.1.grown hg2 HXX.out.2.2.1 (fun j hj => (HXX.out.2.2.2.2.2.lt j hj).1)
        refine ⟨⟨k + 1, by omega, by go_num, hl2, ?_⟩, by simp [intOf]; omega⟩
        rw [HX.out, if_pos (by simp)]
        unfold OwnS
        rw [List.length_append, scells_append]
        exact ho2

    · have hd : decide ((k : Int) < L.length) = false := decide_eq_false (by omega)
      rw [List.take_of_length_le (by omega)] at hown
      go_wp2_with fail
      go_ret
      exact ⟨_, rfl, hown, hbr⟩

end Go.Proofs.YtmpijlaidnhpnaaGreat.Rf

namespace Go.Proofs.YtmpijlaidnhpnaaGreat.Rf
set_option linter.unusedVariables false
set_option linter.unusedSimpArgs false
set_option maxRecDepth 100000
open Go.RowKit

theorem OwnS.row {w : World} {base : Nat} {v : Value} {L : List ByteArray} (h : OwnS w base v L) : ∃ (a : Option Addr) (cap : Nat), v = .slice a L.length cap ∧ L.length ≤ cap ∧
    ∀ k (h : k < L.length), ∃ g, a = some ⟨g, 0, none⟩ ∧ g < w.heap.size ∧ w.cell? ⟨g, k, none⟩ = some (.string L[k]) := by
  rcases h.2 with ⟨rfl, h0⟩ | ⟨g, cap, cur, rfl, h2, h3, h4, h5, h6, h7⟩
  · exact ⟨none, 0, by rw [h0], by omega, fun k hk => by omega⟩
  · refine ⟨some ⟨g, 0, none⟩, cap, rfl, h4, fun k hk => ⟨g, rfl, (Array.getElem?_eq_some_iff.1 h3).1, ?_⟩⟩
    rw [cell_of_row w g k cur 9 (0, 0) h3]
    have : (scells L)[k]? = some (.string L[k]) := by simp [scells, hk]
    rw [← h7, List.getElem?_take, if_pos (by omega)] at this
    simpa using this

/-- Texts, parted by commas. -/
def joinS (L : List ByteArray) : ByteArray := ⟨(Lib.join (L.map (·.data.toList)) [44, 32]).toArray⟩
theorem joinS_nil : joinS [] = ⟨#[]⟩ := rfl
theorem joinS_one (x : ByteArray) : joinS [x] = x := by
  unfold joinS
  rw [List.map_cons, List.map_nil, Lib.join_one]
theorem join_snoc (x : List UInt8) (r : List (List UInt8)) (y sep : List UInt8) : Lib.join (x :: r ++ [y]) sep = Lib.join (x :: r) sep ++ (sep ++ y) := by
  rw [List.cons_append, Lib.join_cons, Lib.join_cons]
  simp [Lib.joinTail, List.append_assoc]
theorem joinS_snoc {L : List ByteArray} (h : L ≠ []) (y : ByteArray) : joinS (L ++ [y]) = joinS L ++ ⟨#[44, 32]⟩ ++ y := by
  cases L with
  | nil => exact absurd rfl h
  | cons x r =>
    apply bytes_ext
    rw [app_list, app_list]
    simp only [joinS]
    rw [List.map_append, List.map_cons, List.map_cons, List.map_nil, join_snoc]
    simp
theorem joinS_size {L : List ByteArray} (h : ∀ s ∈ L, s.size ≤ 10000) : (joinS L).size ≤ L.length * 10002 := by
  have key : ∀ L : List ByteArray, (∀ s ∈ L, s.size ≤ 10000) → Lib.lens (L.map (·.data.toList)) ≤ L.length * 10000 := by
    intro L
    induction L with
    | nil => intro _; simp [Lib.lens]
    | cons x r ih =>
      intro h
      have h1 := h x (by simp)
      have h2 := ih fun s hs => h s (by simp [hs])
      have h3 : x.data.toList.length = x.size := by simp
      simp [Lib.lens] at h2 ⊢
      omega
  rw [← size_list]
  cases L with
  | nil => simp [joinS, Lib.join_nil]
  | cons x r =>
    have hk := key (x :: r) h
    simp only [joinS, List.map_cons]
    rw [Lib.join_length]
    simp only [List.map_cons] at hk
    simp at hk ⊢
    omega

def VSh (L : List ByteArray) : Prop := ∀ s ∈ L, s.size ≤ 10000
theorem all_short {n : ByteArray} {L : List Fd} (h : Sh L) : VSh (allF n L) := by
  intro s hs
  obtain ⟨f, hf, rfl⟩ := List.mem_map.1 hs
  exact (h f (List.mem_filter.1 hf).1).2
def hasB (n : ByteArray) (L : List Fd) : Bool := decide (0 < (allF n L).length)

theorem ret_two {a c : ByteArray} {b d : Bool} (h : a = c) (g : b = d) : Ending.returned (.tuple #[.string a, .bool b]) = .returned (.tuple #[.string c, .bool d]) := by rw [h, g]

theorem Below.one {w : World} : Below w.heap.size w w := Below.refl _ _

theorem join_call (A : List ByteArray) (a : Option Addr) (cap : Nat) (w : World) (hcap : A.length ≤ cap) (hl : A.length ≤ 1000000) (hs : VSh A)
    (hR : ∀ k (h : k < A.length), ∃ g, a = some ⟨g, 0, none⟩ ∧ g < w.heap.size ∧ w.cell? ⟨g, k, none⟩ = some (.string A[k])) :
    Calls Tryz.prog 111 #[.slice a A.length cap, .string ⟨#[44, 32]⟩] w fun e w' => e = .returned (.string (joinS A)) ∧ Below w.heap.size w w' := by
  cases A with
  | nil => exact (Tryz.strings_Join_none a cap _ w).mono fun e w' ⟨he, hw⟩ => ⟨he, hw ▸ Below.refl _ _⟩
  | cons x r =>
    obtain ⟨g, rfl, hg, -⟩ := hR 0 (by simp)
    have hsz := joinS_size hs
    rw [← size_list] at hsz
    refine Tryz.strings_Join g 0 cap (x :: r) ⟨#[44, 32]⟩ w (fun j y hj => ?_) hg (by omega) hcap ?_
    · obtain ⟨hjl, hje⟩ := List.getElem?_eq_some_iff.1 hj
      obtain ⟨g', he, -, hc⟩ := hR j hjl
      cases he
      rw [Nat.zero_add, hc, hje]
    · have : (Lib.join ((x :: r).map (·.data.toList)) [44, 32]).length ≤ (x :: r).length * 10002 := by simpa [joinS] using hsz
      exact Nat.le_trans this (by omega)

set_option maxHeartbeats 1000000 in
theorem joined_any (L : List Fd) (v : Value) (n : ByteArray) (w : World) (hr : Row w v L) (hl : L.length ≤ 1000000) (hs : Sh L) (hn : n.size ≤ 1000000) :
    Calls Tryz.prog 91 #[v, .string n] w fun e w' => e = .returned (.tuple #[.string (joinS (allF n L)), .bool (hasB n L)]) ∧ Below w.heap.size w w' := by
  have HV : Hid (hasB n L = decide (0 < (allF n L).length)) := rfl
  have HL : Hid ((allF n L).length ≤ 1000000) := Nat.le_trans (all_le n L) hl
  have HS := hide (all_short (n := n) hs)
  go_enter Tryz.func91, Tryz.ntmps91
  go_wp2_with fail
  refine (values_any L v n w hr hl hs hn).mono ?_
  rintro e w1 ⟨r, rfl, ho, hb⟩
  obtain ⟨A, hA⟩ : ∃ A, allF n L = A := ⟨_, rfl⟩
  rw [hA] at ho HV HL HS
  have HA := hide hA
  have hAl := HL.out
  clear hA hr hs
  obtain ⟨a, cap, rfl, hcap, hR⟩ := ho.row
  have HR := hide hR
  clear hR ho
  go_wp2_with fail
  refine (join_call A a cap w1 hcap hAl HS.out HR.out).mono ?_
  rintro e w2 ⟨rfl, hb2⟩
  obtain ⟨J, hJ⟩ : ∃ J, joinS A = J := ⟨_, rfl⟩
  have HJ := hide hJ
  rw [hJ]
  clear hJ
  go_wp2_with fail
  go_ret2
  exact ⟨ret_two (by rw [HA.out, HJ.out]) (by rw [HV.out]; try (simp <;> omega)), hb.trans (hb2.mono hb.size)⟩

set_option maxHeartbeats 2000000 in
theorem refjoined_any (A : List ByteArray) (a : Option Addr) (cap : Nat) (w : World) (hcap : A.length ≤ cap) (hl : A.length ≤ 1000000) (hs : VSh A)
    (hR : ∀ k (h : k < A.length), ∃ g, a = some ⟨g, 0, none⟩ ∧ g < w.heap.size ∧ w.cell? ⟨g, k, none⟩ = some (.string A[k])) :
    Calls Tryz.prog 88 #[.slice a A.length cap] w fun e w' => e = .returned (.string (joinS A)) ∧ w' = w := by
  have HR := hide hR
  have HS := hide hs
  clear hR hs
  go_enter Tryz.func88, Tryz.ntmps88
  go_wp2_with fail
  go_loop [3, 4, 5, 8] (fun o _ _ i => ∃ k : Nat, k ≤ A.length ∧ i = .int .i64 k ∧ o = .string (joinS (A.take k))) (fun _ _ _ i => A.length - (intOf i).toNat)
  case atStart => exact ⟨0, Nat.zero_le _, rfl, by rw [List.take_zero, joinS_nil]⟩
  case round =>
    obtain ⟨k, hk, rfl, rfl⟩ := hrel
    by_cases hlt : k < A.length
    · have hltz : (k : Int) < A.length := by omega
      obtain ⟨g, rfl, hg, c0⟩ := HR.out k hlt
      have hx := HS.out _ (List.getElem_mem hlt)
      have hsz : (joinS (A.take k)).size ≤ k * 10002 := by
        refine Nat.le_trans (joinS_size fun s hs => HS.out s (List.mem_of_mem_take hs)) ?_
        rw [List.length_take]; exact Nat.mul_le_mul_right _ (by omega)
      have HT := hide (List.take_succ_eq_append_getElem hlt)
      obtain ⟨x, hxe⟩ : ∃ x, A[k]'hlt = x := ⟨_, rfl⟩
      rw [hxe] at c0 hx HT
      clear hxe HR
      by_cases h0 : 0 < k
      · have h0z : (0 : Int) < k := by omega
        have HJ : Hid (joinS (A.take (k + 1)) = joinS (A.take k) ++ ⟨#[44, 32]⟩ ++ x) := by
          unfold Hid; rw [HT.out, joinS_snoc]; intro he; rcases List.take_eq_nil_iff.1 he with he | he; · omega
          · rw [he] at hlt; simp at hlt
        obtain ⟨J, hJ⟩ : ∃ J, joinS (A.take k) = J := ⟨_, rfl⟩
        rw [hJ] at HJ hsz ⊢
        clear hJ HT
        have hs2 : (J ++ ⟨#[44, 32]⟩).size = J.size + 2 := by rw [ByteArray.size_append]; rfl
        go_wp2_with fail
        exact ⟨⟨k + 1, by omega, by go_num, by rw [HJ.out]⟩, by simp [intOf]; omega⟩
      · obtain rfl : k = 0 := by omega
        have HJ : Hid (joinS (A.take 1) = x) := by
          unfold Hid
          have := HT.out
          rw [Nat.zero_add, List.take_zero, List.nil_append] at this
          rw [this, joinS_one]
        rw [List.take_zero, joinS_nil]
        clear HT hsz
        have he : (⟨#[]⟩ : ByteArray) ++ x = x := by apply bytes_ext; rw [app_list]; simp
        go_wp2_with fail
        exact ⟨⟨1, by omega, by go_num, by rw [HJ.out]⟩, by simp [intOf]; omega⟩
    · have hd : decide ((k : Int) < A.length) = false := decide_eq_false (by omega)
      rw [List.take_of_length_le (by omega)]
      go_wp2_with fail
      go_ret
      exact ⟨rfl, rfl⟩

end Go.Proofs.YtmpijlaidnhpnaaGreat.Rf

namespace Go.Proofs.YtmpijlaidnhpnaaGreat
set_option linter.unusedVariables false
set_option linter.unusedSimpArgs false
set_option maxRecDepth 100000
open Go.RowKit

/-- A length's number: the greatest of all for one that is longer than may be. -/
def numF (v : ByteArray) : Nat := if rdE 10 v.data.toList = 2 then 18446744073709551615 else rdN 10 v.data.toList
theorem ls_bad {v : ByteArray} (h : rdE 10 v.data.toList = 10) : lsF v = (0, 0, 32) := by
  unfold lsF; rw [h]; rfl
theorem ls_num {v : ByteArray} (h : rdE 10 v.data.toList ≠ 10) : lsF v = if numF v = 18446744073709551615 then (0, 0, 2) else (1, numF v, 0) := by
  have hle := rdN_le 10 v.data.toList
  rcases rdE_three v.data.toList with e | e | e
  · have hne : ¬ rdN 10 v.data.toList = 18446744073709551615 := by omega
    simp [lsF, numF, e, hne]
  · exact absurd e h
  · simp [lsF, numF, e]
theorem num_ls {a b : ByteArray} (ha : rdE 10 a.data.toList ≠ 10) (hb : rdE 10 b.data.toList ≠ 10) : lsF a = lsF b ↔ numF a = numF b := by
  rw [ls_num ha, ls_num hb]
  constructor
  · intro h
    split at h <;> split at h
    · omega
    · simp at h
    · simp at h
    · exact (Prod.mk.inj (Prod.mk.inj h).2).1
  · intro h; rw [h]

theorem lenA_bad {A : List ByteArray} {y : ByteArray} (hy : y ∈ A) (h : rdE 10 y.data.toList = 10) : lenA A = (0, 0, 32) := by
  cases A with
  | nil => cases hy
  | cons x r =>
    show lensF x r = _
    by_cases hall : ∀ z ∈ r, lsF z = lsF x
    · have hx : lsF x = (0, 0, 32) := by
        rcases List.mem_cons.1 hy with rfl | hr
        · exact ls_bad h
        · rw [← hall y hr]; exact ls_bad h
      rw [lens_yes hall, hx]; rfl
    · have : ∃ z, z ∈ r ∧ lsF z ≠ lsF x := by
        by_cases e : ∃ z, z ∈ r ∧ lsF z ≠ lsF x
        · exact e
        · exact absurd (fun z hz => by
            by_cases g : lsF z = lsF x
            · exact g
            · exact absurd ⟨z, hz, g⟩ e) hall
      obtain ⟨z, hz, hne⟩ := this
      exact lens_no hz hne
theorem lenA_two {A : List ByteArray} {a b : ByteArray} (ha : a ∈ A) (hb : b ∈ A) (h : lsF a ≠ lsF b) : lenA A = (0, 0, 32) := by
  cases A with
  | nil => cases ha
  | cons x r =>
    show lensF x r = _
    by_cases e : lsF a = lsF x
    · rcases List.mem_cons.1 hb with rfl | hr
      · exact absurd e h
      · exact lens_no hr (fun g => h (e.trans g.symm))
    · rcases List.mem_cons.1 ha with rfl | hr
      · exact absurd rfl e
      · exact lens_no hr e
theorem lenA_one {A : List ByteArray} {c : Nat} (h0 : 0 < A.length) (h : ∀ y ∈ A, rdE 10 y.data.toList ≠ 10 ∧ numF y = c) :
    (20000 < c → lenA A = (0, 0, 2)) ∧ (¬ 20000 < c → lenA A = (1, c, 0)) := by
  cases A with
  | nil => simp at h0
  | cons x r =>
    have hx := h x (by simp)
    have hl : lenA (x :: r) = ls2 (lsF x) := lens_yes fun y hy => (num_ls (h y (by simp [hy])).1 hx.1).2 ((h y (by simp [hy])).2.trans hx.2.symm)
    have hv := ls_num hx.1
    rw [hx.2] at hv
    rw [hl, hv]
    refine ⟨fun g => ?_, fun g => ?_⟩
    · split
      · rfl
      · exact ls2_no g
    · rw [if_neg (by omega)]; exact ls2_yes g

/-- What Say tells, where nothing is -1. -/
theorem else_neg {y : Sy} (k : Int) (h : (elseF y (-1)).1 < 0) : elseF y k = (k, 0, 0) ∧ (elseF y (-1)).2.2 = 0 := by
  by_cases e : y = (0, 0, 0)
  · exact ⟨else_no e, by rw [else_no e]⟩
  · rw [else_yes e] at h; exact absurd h (by simp only; omega)
theorem else_pos {y : Sy} (k : Int) (h : ¬ (elseF y (-1)).1 < 0) : elseF y k = elseF y (-1) := by
  by_cases e : y = (0, 0, 0)
  · rw [else_no e] at h; exact absurd (by decide) h
  · rw [else_yes e, else_yes e]

end Go.Proofs.YtmpijlaidnhpnaaGreat
