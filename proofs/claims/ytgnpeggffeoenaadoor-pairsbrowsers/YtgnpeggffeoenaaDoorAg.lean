/- The walks of what tells a browser, its version and its system. -/
import Derived.Test.YtgnpeggffeoenaaDoorPb
import Derived.Test.YtgnpeggffeoenaaDoorFp
import Derived.Lib.SlTrimSet
import Derived.Lib.IndexMore
namespace Go.Proofs.YtgnpeggffeoenaaDoor
set_option linter.unusedVariables false
set_option linter.unusedSimpArgs false
open Go.RowKit

def verL : List UInt8 := [48, 49, 50, 51, 52, 53, 54, 55, 56, 57, 46]
def isD (c : UInt8) : Bool := verL.contains c
theorem isD_int (c : UInt8) : isD c = ((decide ((48 : Int) ≤ c.toNat) && decide ((c.toNat : Int) ≤ 57)) || decide ((c.toNat : Int) = 46)) := by
  have := u8_all (fun c => isD c == ((decide ((48 : Int) ≤ c.toNat) && decide ((c.toNat : Int) ≤ 57)) || decide ((c.toNat : Int) = 46))) (by decide +kernel) c
  simpa using this
/-- The digits and points behind a word. -/
def verS (s word : List UInt8) : List UInt8 := if 0 ≤ Lib.index s word then (s.drop ((Lib.index s word).toNat + word.length)).takeWhile isD else []
theorem ver_cut (s word : List UInt8) : (Lib.cut s word).2.1.takeWhile isD = verS s word := by
  unfold Lib.cut verS
  by_cases h : 0 ≤ Lib.index s word
  · rw [if_pos h, if_pos h]
  · rw [if_neg h, if_neg h]; rfl
theorem cut_le (s word : List UInt8) : (Lib.cut s word).2.1.length ≤ s.length := by
  unfold Lib.cut; split
  · simp
  · simp

set_option maxHeartbeats 1000000 in
theorem version_any (s word : ByteArray) (w : World) (hs : s.size ≤ 10000) (hT : Tabs w) :
    Calls Tryd.prog 59 #[.string s, .string word] w fun e w' => e = .returned (.string (bs (verS s.data.toList word.data.toList))) ∧ Below w.heap.size w w' := by
  obtain ⟨mx, hmx⟩ := hT.ml
  have hc := Tryd.strings_Cut s word mx w (by omega) hmx
  have hle := cut_le s.data.toList word.data.toList
  rw [size_list] at hle
  have hv := ver_cut s.data.toList word.data.toList
  obtain ⟨b, hb⟩ : ∃ b : ByteArray, (⟨(Lib.cut s.data.toList word.data.toList).2.1.toArray⟩ : ByteArray) = b := ⟨_, rfl⟩
  have hbl : b.data.toList = (Lib.cut s.data.toList word.data.toList).2.1 := by rw [← hb]
  have hbz : b.size ≤ 10000 := by rw [← size_list, hbl]; omega
  rw [← hbl] at hv
  rw [hb] at hc
  have ht := fun W => Tryd.strings_TrimLeft_set b ⟨#[48, 49, 50, 51, 52, 53, 54, 55, 56, 57, 46]⟩ W (by decide) (ascii_of_all (by decide))
  obtain ⟨t, htt⟩ : ∃ t : ByteArray, (⟨(Lib.trimLeftS b.data.toList (⟨#[48, 49, 50, 51, 52, 53, 54, 55, 56, 57, 46]⟩ : ByteArray).data.toList).toArray⟩ : ByteArray) = t := ⟨_, rfl⟩
  have htl : t.data.toList = b.data.toList.dropWhile isD := by rw [← htt]; rfl
  rw [htt] at ht
  have hsplit := List.takeWhile_append_dropWhile (p := isD) (l := b.data.toList)
  have hlen : (b.data.toList.takeWhile isD).length + t.size = b.size := by
    rw [← size_list t, htl, ← size_list b, ← List.length_append, hsplit]
  obtain ⟨n, hn⟩ : ∃ n, (b.data.toList.takeWhile isD).length = n := ⟨_, rfl⟩
  have hnz : (b.size : Int) - (t.size : Int) = (n : Int) := by omega
  have hnb : (n : Int) ≤ b.size := by omega
  have HR : Hid (b.extract 0 n = bs (verS s.data.toList word.data.toList)) := by
    unfold Hid
    apply bytes_ext
    rw [ext_take, bs_list, ← hv, ← hn]
    exact (List.prefix_iff_eq_take.1 (List.takeWhile_prefix isD)).symm
  generalize (Lib.cut s.data.toList word.data.toList).2.2 = x3 at *
  generalize (⟨(Lib.cut s.data.toList word.data.toList).1.toArray⟩ : ByteArray) = x1 at *
  have HTL := hide ht
  clear ht hv hle hb hbl htt htl hsplit hlen hn hmx
  go_enter Tryd.func59, Tryd.ntmps59
  go_wp2_with fail
  refine hc.mono ?_
  rintro e w1 ⟨rfl, k, rfl⟩
  go_wp2_with fail
  refine (HTL.out _).mono ?_
  rintro e w2 ⟨rfl, hb2⟩
  go_wp2_with fail
  go_ret
  exact ⟨by rw [HR.out]; rfl, (below_drewN (Below.refl w.heap.size w) k).trans (hb2.mono (Nat.le_refl _))⟩

def cn (s : ByteArray) (t : List UInt8) : Bool := Lib.contains s.data.toList t
def MSIE : List UInt8 := [77, 83, 73, 69]
def MSIEb : List UInt8 := [77, 83, 73, 69, 32]
def Mozi : List UInt8 := [77, 111, 122, 105, 108, 108, 97]
def Mozs : List UInt8 := [77, 111, 122, 105, 108, 108, 97, 47]
def MOZI : List UInt8 := [77, 79, 90, 73, 76, 76, 65]
def OTHE : List UInt8 := [79, 84, 72, 69, 82]
def brS (s : ByteArray) : ByteArray × ByteArray :=
  if cn s MSIE then (bs MSIE, bs (verS s.data.toList MSIEb)) else if cn s Mozi then (bs MOZI, bs (verS s.data.toList Mozs)) else (bs OTHE, bs [])
def syS (s : ByteArray) : ByteArray :=
  if cn s [87, 105, 110, 100, 111, 119, 115] then bs [87, 73, 78] else if cn s [77, 97, 99] then bs [77, 65, 67] else if cn s [88, 49, 49] then bs [85, 78, 73, 88] else bs OTHE

theorem contains_any (s t : ByteArray) (w : World) (hs : s.size ≤ 10000) (hT : Tabs w) :
    Calls Tryd.prog 58 #[.string s, .string t] w fun e w' => e = .returned (.bool (cn s t.data.toList)) ∧ w' = w := by
  obtain ⟨mx, hmx⟩ := hT.ml
  exact Tryd.strings_Contains s t mx w (by omega) hmx

set_option maxHeartbeats 1000000 in
theorem browser_any (s : ByteArray) (w : World) (hs : s.size ≤ 10000) (hT : Tabs w) :
    Calls Tryd.prog 39 #[.string s] w fun e w' => e = .returned (.tuple #[.string (brS s).1, .string (brS s).2]) ∧ Below w.heap.size w w' := by
  have h1 := contains_any s ⟨#[77, 83, 73, 69]⟩ w hs hT
  have h2 := contains_any s ⟨#[77, 111, 122, 105, 108, 108, 97]⟩ w hs hT
  have v1 := version_any s ⟨#[77, 83, 73, 69, 32]⟩ w hs hT
  have v2 := version_any s ⟨#[77, 111, 122, 105, 108, 108, 97, 47]⟩ w hs hT
  change Calls _ _ _ _ (fun e w' => e = .returned (.bool (cn s MSIE)) ∧ w' = w) at h1
  change Calls _ _ _ _ (fun e w' => e = .returned (.bool (cn s Mozi)) ∧ w' = w) at h2
  change Calls _ _ _ _ (fun e w' => e = .returned (.string (bs (verS s.data.toList MSIEb))) ∧ _) at v1
  change Calls _ _ _ _ (fun e w' => e = .returned (.string (bs (verS s.data.toList Mozs))) ∧ _) at v2
  have HB : Hid (brS s = if cn s MSIE then (bs MSIE, bs (verS s.data.toList MSIEb)) else if cn s Mozi then (bs MOZI, bs (verS s.data.toList Mozs)) else (bs OTHE, bs [])) := rfl
  generalize bs (verS s.data.toList MSIEb) = y1 at *
  generalize bs (verS s.data.toList Mozs) = y2 at *
  generalize cn s MSIE = c1 at *
  generalize cn s Mozi = c2 at *
  generalize brS s = r at *
  cases c1 with
  | true =>
    have HB2 : Hid (r = (bs MSIE, y1)) := HB.out
    clear HB
    go_enter Tryd.func39, Tryd.ntmps39
    go_wp2_with fail
    refine h1.mono ?_
    rintro e w1 ⟨rfl, rfl⟩
    go_wp2_with fail
    refine v1.mono ?_
    rintro e w2 ⟨rfl, hb⟩
    go_wp2_with fail
    go_ret2
    exact ⟨by rw [HB2.out]; rfl, hb⟩
  | false =>
    cases c2 with
    | true =>
      have HB2 : Hid (r = (bs MOZI, y2)) := HB.out
      clear HB
      go_enter Tryd.func39, Tryd.ntmps39
      go_wp2_with fail
      refine h1.mono ?_
      rintro e w1 ⟨rfl, rfl⟩
      go_wp2_with fail
      refine h2.mono ?_
      rintro e w1 ⟨rfl, rfl⟩
      go_wp2_with fail
      refine v2.mono ?_
      rintro e w2 ⟨rfl, hb⟩
      go_wp2_with fail
      go_ret2
      exact ⟨by rw [HB2.out]; rfl, hb⟩
    | false =>
      have HB2 : Hid (r = (bs OTHE, bs [])) := HB.out
      clear HB
      go_enter Tryd.func39, Tryd.ntmps39
      go_wp2_with fail
      refine h1.mono ?_
      rintro e w1 ⟨rfl, rfl⟩
      go_wp2_with fail
      refine h2.mono ?_
      rintro e w1 ⟨rfl, rfl⟩
      go_wp2_with fail
      go_ret2
      exact ⟨by rw [HB2.out]; rfl, Below.refl _ _⟩

set_option maxHeartbeats 1000000 in
theorem system_any (s : ByteArray) (w : World) (hs : s.size ≤ 10000) (hT : Tabs w) :
    Calls Tryd.prog 40 #[.string s] w fun e w' => e = .returned (.string (syS s)) ∧ w' = w := by
  have h1 := contains_any s ⟨#[87, 105, 110, 100, 111, 119, 115]⟩ w hs hT
  have h2 := contains_any s ⟨#[77, 97, 99]⟩ w hs hT
  have h3 := contains_any s ⟨#[88, 49, 49]⟩ w hs hT
  change Calls _ _ _ _ (fun e w' => e = .returned (.bool (cn s [87, 105, 110, 100, 111, 119, 115])) ∧ w' = w) at h1
  change Calls _ _ _ _ (fun e w' => e = .returned (.bool (cn s [77, 97, 99])) ∧ w' = w) at h2
  change Calls _ _ _ _ (fun e w' => e = .returned (.bool (cn s [88, 49, 49])) ∧ w' = w) at h3
  have HB : Hid (syS s = if cn s [87, 105, 110, 100, 111, 119, 115] then bs [87, 73, 78] else if cn s [77, 97, 99] then bs [77, 65, 67] else if cn s [88, 49, 49] then bs [85, 78, 73, 88] else bs OTHE) := rfl
  generalize cn s [87, 105, 110, 100, 111, 119, 115] = c1 at *
  generalize cn s [77, 97, 99] = c2 at *
  generalize cn s [88, 49, 49] = c3 at *
  generalize syS s = r at *
  cases c1 with
  | true =>
    have HB2 : Hid (r = bs [87, 73, 78]) := HB.out
    clear HB
    go_enter Tryd.func40, Tryd.ntmps40
    go_wp2_with fail
    refine h1.mono ?_
    rintro e w1 ⟨rfl, rfl⟩
    go_wp2_with fail
    go_ret
    exact ⟨by rw [HB2.out]; rfl, rfl⟩
  | false =>
    cases c2 with
    | true =>
      have HB2 : Hid (r = bs [77, 65, 67]) := HB.out
      clear HB
      go_enter Tryd.func40, Tryd.ntmps40
      go_wp2_with fail
      refine h1.mono ?_
      rintro e w1 ⟨rfl, rfl⟩
      go_wp2_with fail
      refine h2.mono ?_
      rintro e w1 ⟨rfl, rfl⟩
      go_wp2_with fail
      go_ret
      exact ⟨by rw [HB2.out]; rfl, rfl⟩
    | false =>
      cases c3 with
      | true =>
        have HB2 : Hid (r = bs [85, 78, 73, 88]) := HB.out
        clear HB
        go_enter Tryd.func40, Tryd.ntmps40
        go_wp2_with fail
        refine h1.mono ?_
        rintro e w1 ⟨rfl, rfl⟩
        go_wp2_with fail
        refine h2.mono ?_
        rintro e w1 ⟨rfl, rfl⟩
        go_wp2_with fail
        refine h3.mono ?_
        rintro e w1 ⟨rfl, rfl⟩
        go_wp2_with fail
        go_ret
        exact ⟨by rw [HB2.out]; rfl, rfl⟩
      | false =>
        have HB2 : Hid (r = bs OTHE) := HB.out
        clear HB
        go_enter Tryd.func40, Tryd.ntmps40
        go_wp2_with fail
        refine h1.mono ?_
        rintro e w1 ⟨rfl, rfl⟩
        go_wp2_with fail
        refine h2.mono ?_
        rintro e w1 ⟨rfl, rfl⟩
        go_wp2_with fail
        refine h3.mono ?_
        rintro e w1 ⟨rfl, rfl⟩
        go_wp2_with fail
        go_ret
        exact ⟨by rw [HB2.out]; rfl, rfl⟩

set_option maxHeartbeats 1000000 in
theorem agent_any (s : ByteArray) (w : World) (hs : s.size ≤ 10000) (hT : Tabs w) :
    Calls Tryd.prog 17 #[.string s] w fun e w' => e = .returned (.tuple #[.string (brS s).1, .string (brS s).2, .string (syS s)]) ∧ Below w.heap.size w w' := by
  have HT := hide hT
  have HB := hide (browser_any s w hs hT)
  have HS := hide (fun W hW => system_any s W hs hW)
  clear hT
  generalize (brS s).1 = x at *
  generalize (brS s).2 = y at *
  generalize syS s = z at *
  go_enter Tryd.func17, Tryd.ntmps17
  go_wp2_with fail
  refine HB.out.mono ?_
  rintro e w1 ⟨rfl, hb⟩
  go_wp2_with fail
  refine (HS.out _ (HT.out.below hb)).mono ?_
  rintro e w2 ⟨rfl, rfl⟩
  go_wp2_with fail
  go_ret3
  exact ⟨rfl, hb⟩

end Go.Proofs.YtgnpeggffeoenaaDoor
