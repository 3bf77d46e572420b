/- The walks of what takes a part of a query as it is meant. -/
import Derived.Test.YtgnpeggffeoenaaDoorPa
import Derived.Test.YtgnpeggffeoenaaDoorWi
namespace Go.Proofs.YtgnpeggffeoenaaDoor
set_option linter.unusedVariables false
set_option linter.unusedSimpArgs false
open Go.RowKit

/-- What the variables of the library hold: any number, any error. -/
structure Tabs (w : World) : Prop where
  ml : ∃ m, w.cell? ⟨0, 0, none⟩ = some (.int .i64 m)
  es : ∃ ev, w.cell? ⟨3, 0, none⟩ = some ev ∧ (ev = .nilIface ∨ ∃ te pe, ev = .iface te pe)
theorem Tabs.below {w w' : World} (h : Tabs w) (hb : Below w.heap.size w w') : Tabs w' := by
  obtain ⟨m, hm⟩ := h.ml
  obtain ⟨ev, hv, he⟩ := h.es
  exact ⟨⟨m, (hb.cell (p := ⟨0, 0, none⟩) (Lib.lt_of_cell hm)).trans hm⟩, ⟨ev, (hb.cell (p := ⟨3, 0, none⟩) (Lib.lt_of_cell hv)).trans hv, he⟩⟩

set_option maxHeartbeats 1000000 in
set_option maxRecDepth 100000 in
theorem parse16_any (t : ByteArray) (ht : t.size = 2) (w : World) (hT : Tabs w) :
    Calls Tryd.prog 65 #[.string t, .int .i64 16, .int .i64 8] w fun e w' => ((∃ v, pu16 0 t.data.toList = some v ∧ e = .returned (.tuple #[.int .u64 (v : Int), .nilIface])) ∨ (pu16 0 t.data.toList = none ∧ ∃ N, e = .returned (.tuple #[.int .u64 0, .iface 101 (.pointer (some ⟨N, 0, none⟩))]))) ∧ Below w.heap.size w w' := by
  have hb := Lib.bytesWorld_below w 5 t
  have hI := inner16_any t ht w
  obtain ⟨W1, hW1⟩ : ∃ W1, Lib.bytesWorld w 5 t = W1 := ⟨_, rfl⟩
  rw [hW1] at hb hI
  obtain ⟨ev, hv, he⟩ := (hT.below hb).es
  cases hp : pu16 0 t.data.toList with
  | some v =>
    rw [hp] at hI
    have hI : Calls Tryd.prog 75 #[.string t, .int .i64 16, .int .i64 8] w fun e w' => e = .returned (.tuple #[.int .u64 (v : Int), .nilIface]) ∧ w' = W1 := hI
    clear hp
    go_enter Tryd.func65, Tryd.ntmps65
    go_wp2_with fail
    refine hI.mono ?_
    rintro e w1 ⟨rfl, rfl⟩
    go_wp2_with fail
    go_ret2
    exact ⟨.inl ⟨v, rfl, rfl⟩, hb⟩
  | none =>
    rw [hp] at hI
    have hI : Calls Tryd.prog 75 #[.string t, .int .i64 16, .int .i64 8] w fun e w' => e = .returned (.tuple #[.int .u64 0, .iface 99 (.int .i64 2)]) ∧ w' = W1 := hI
    have hE := Tryd.strconv_toError_syntax ⟨#[80, 97, 114, 115, 101, 85, 105, 110, 116]⟩ t 16 8 ev W1 (by omega) hv he
    clear hp
    go_enter Tryd.func65, Tryd.ntmps65
    go_wp2_with fail
    refine hI.mono ?_
    rintro e w1 ⟨rfl, rfl⟩
    go_wp2_with fail
    refine hE.mono ?_
    rintro e w2 ⟨N, rfl, h1, h2, h3⟩
    go_wp2_with fail
    go_ret2
    exact ⟨.inr ⟨trivial, N, rfl⟩, hb.trans (h3.mono hb.size)⟩

theorem below_drewN {B : Nat} {a w : World} (h : Below B a w) (n : Nat) : Below B a (w.drewN n) := ⟨h.os, h.tape, h.output, h.size, h.block⟩
def nbV (l : List UInt8) : Int := match pct l with | some v => (v.toNat : Int) | none => 0
theorem pct_pu (a b : UInt8) (r : List UInt8) : (pct (a :: b :: r) = none ∧ pu16 0 [a, b] = none) ∨ ∃ n : Nat, n < 256 ∧ pct (a :: b :: r) = some (UInt8.ofNat n) ∧ pu16 0 [a, b] = some n := by
  rw [pct, pu16, pu16]
  by_cases ha : hxN a < 16
  · by_cases hb : hxN b < 16
    · refine .inr ⟨16 * hxN a + hxN b, by omega, by rw [if_pos ⟨ha, hb⟩], ?_⟩
      rw [if_pos ha, if_pos hb, pu16]
      congr 1; omega
    · exact .inl ⟨by rw [if_neg (fun h => hb h.2)], by rw [if_pos ha, if_neg hb]⟩
  · exact .inl ⟨by rw [if_neg (fun h => ha h.1)], by rw [if_neg ha]⟩
theorem pct_short {l : List UInt8} (h : l.length < 2) : pct l = none := by
  match l with
  | [] => rfl
  | [a] => rfl
  | a :: b :: r => simp at h; omega

set_option maxHeartbeats 1000000 in
set_option maxRecDepth 100000 in
theorem numbered_any (s : ByteArray) (w : World) (hs : s.size ≤ 1000000) (hT : Tabs w) :
    Calls Tryd.prog 49 #[.string s] w fun e w' => e = .returned (.tuple #[.int .u8 (nbV s.data.toList), .bool (pct s.data.toList).isSome]) ∧ Below w.heap.size w w' := by
  by_cases h2 : s.size < 2
  · have h2z : (s.size : Int) < 2 := by omega
    have HP : Hid (nbV s.data.toList = 0 ∧ (pct s.data.toList).isSome = false) := by
      have := pct_short (l := s.data.toList) (by rw [size_list]; exact h2)
      unfold Hid nbV; rw [this]; exact ⟨rfl, rfl⟩
    go_enter Tryd.func49, Tryd.ntmps49
    go_wp2_with fail
    go_ret2
    exact ⟨by rw [HP.out.1, HP.out.2]; rfl, Below.refl _ _⟩
  · have h2z : ¬ (s.size : Int) < 2 := by omega
    have h3z : (2 : Int) ≤ (s.size : Int) := by omega
    obtain ⟨t, ht⟩ : ∃ t, s.extract 0 2 = t := ⟨_, rfl⟩
    have hts : t.size = 2 := by rw [← ht, ByteArray.size_extract]; omega
    have htl : t.data.toList = s.data.toList.take 2 := by rw [← ht, ext_take]
    have hP : (pct s.data.toList = none ∧ pu16 0 t.data.toList = none) ∨ ∃ n : Nat, n < 256 ∧ pct s.data.toList = some (UInt8.ofNat n) ∧ pu16 0 t.data.toList = some n := by
      have hl := size_list s
      rw [htl]
      match s.data.toList, hl with
      | [], hl => simp at hl; omega
      | [a], hl => simp at hl; omega
      | a :: b :: r, hl => exact pct_pu a b r
    have HP := hide hP
    have HC := hide (parse16_any t hts w hT)
    clear htl hP
    go_enter Tryd.func49, Tryd.ntmps49
    go_wp2_with fail
    refine HC.out.mono ?_
    rintro e w1 ⟨⟨v, hv, rfl⟩ | ⟨hv, N, rfl⟩, hb⟩
    · obtain ⟨-, h⟩ | ⟨n, hn, h1, h3⟩ := HP.out
      · rw [h] at hv; cases hv
      obtain rfl : v = n := by rw [hv] at h3; exact Option.some.inj h3
      have hn0 : (0 : Int) ≤ (v : Int) := by omega
      have hn1 : (v : Int) ≤ 255 := by omega
      have HV : Hid (nbV s.data.toList = (v : Int) ∧ (pct s.data.toList).isSome = true) := by
        unfold Hid nbV; rw [h1]; refine ⟨?_, rfl⟩
        show (((UInt8.ofNat v).toNat : Nat) : Int) = v
        rw [UInt8.toNat_ofNat', Nat.mod_eq_of_lt hn]
      clear h1 h3 hv hn HC HP
      go_wp2_with fail
      go_region
      go_wp2_with fail
      go_ret2
      exact ⟨by rw [HV.out.1, HV.out.2]; rfl, below_drewN hb _⟩
    · have HV : Hid (nbV s.data.toList = 0 ∧ (pct s.data.toList).isSome = false) := by
        obtain ⟨h, -⟩ | ⟨n, hn, h1, h3⟩ := HP.out
        · unfold Hid nbV; rw [h]; exact ⟨rfl, rfl⟩
        · rw [hv] at h3; cases h3
      clear hv HC HP
      go_wp2_with fail
      go_region
      go_wp2_with fail
      go_ret2
      exact ⟨by rw [HV.out.1, HV.out.2]; rfl, below_drewN hb _⟩


/-- A text of which what stands behind k is still to be taken. -/
theorem ext_at {s : ByteArray} {k : Nat} (h : k < s.size) : s.data.toList.drop k = s[k] :: s.data.toList.drop (k + 1) := by
  rw [List.drop_eq_getElem_cons (by rw [size_list]; exact h), get_at s k h]

set_option maxHeartbeats 4000000 in
set_option maxRecDepth 100000 in
theorem decoded_any (s : ByteArray) (w : World) (hs : s.size ≤ 100000) (hT : Tabs w) :
    Calls Tryd.prog 28 #[.string s] w fun e w' => e = .returned (.string ⟨(decL s.data.toList).toArray⟩) ∧ Below w.heap.size w w' := by
  obtain ⟨i0, hi0, hz0, hz1, hz2⟩ := info_parts Tryd.info5
  have HT := hide hT
  go_enter Tryd.func28, Tryd.ntmps28
  go_wp2_with fail
  go_loopw [3, 4] (fun v i wr => ∃ (k : Nat) (F : List UInt8), k ≤ s.size ∧ i = .int .i64 k ∧ F.length ≤ k ∧ wr.ownsRow w.heap.size 5 1 v F.length (u8s F) ∧ Below w.heap.size w wr ∧ Hid (decL s.data.toList = F ++ decL (s.data.toList.drop k))) (fun _ i _ => s.size - (intOf i).toNat)
  case atStart => exact ⟨0, [], Nat.zero_le _, rfl, Nat.le_refl _, World.ownsRow_nil _ _ _ _, Below.refl _ _, by simp [Hid]⟩
  case round =>
    obtain ⟨k, F, hk, rfl, hF, hown, hbr, hun⟩ := hrel
    have hsz := hbr.size
    by_cases hlt : k < s.size
    · have hltz : (k : Int) < s.size := by omega
      have HA := hide (ext_at hlt)
      by_cases h43 : s[k]'hlt = 43
      · have hb43 : (((s[k]'hlt).toNat : Int) == 43) = true := by have := u8_beq (s[k]'hlt) 43; rw [decide_eq_true h43] at this; exact this
        have HU : Hid (decL s.data.toList = (F ++ [32]) ++ decL (s.data.toList.drop (k + 1))) := by
          unfold Hid; rw [hun.out, HA.out, h43, dec_plus]; simp
        clear h43 HA
        have hla := hbr.alloc hsz (.cells #[.int .u8 32] 5)
        have hoa := hown.alloc (.cells #[.int .u8 32] 5)
        have h63 : F.length + 1 ≤ maxLen := maxLen_of (by omega)
        have hby : (F.length + 1) * 1 ≤ 140737488355328 := by omega
        have hba : w.heap.size ≤ (wr.alloc (.cells #[.int .u8 32] 5)).heap.size := by simp; omega
        have hce : ∀ j u, [Value.int .u8 32][j]? = some u → (wr.alloc (.cells #[.int .u8 32] 5)).cell? ((⟨wr.heap.size, 0, none⟩ : Addr).add j) = some u := by
          intro j u hj
          rw [add_none, Nat.zero_add, World.cell?_alloc_new]
          simpa using hj
        have HX := hide (And.intro h63 (And.intro hby (And.intro hba (And.intro hce (And.intro hla hoa)))))
        clear h63 hby hba hce hla hoa hown hbr
        go_wp2_with (at_builtin; refine wpList_append_own _ rfl (.tmp 34) (.tmp 36) 39 rfl w.heap.size 5 i0 (.int .u8 0) 1 1 Tryd.underlying39 hi0 hz0 hz1 hz2 rfl (by decide) _ _ _ rfl HX.out.2.2.2.2.2 ⟨wr.heap.size, 0, none⟩ 1 1 [.int .u8 32] rfl rfl HX.out.2.2.2.1 (by intro u hu; simp at hu; subst hu; rfl) HX.out.1 HX.out.2.1 HX.out.2.2.1 ?_; intro v' w2 ho2 hg2 _)
        have hl2 := HX.out.2.2.2.2.1.grown hg2 HX.out.2.2.1 (fun j hj => (HX.out.2.2.2.2.2.lt j hj).1)
        refine ⟨⟨k + 1, F ++ [32], by omega, by go_num, by simp; omega, ?_, hl2, HU⟩, by simp [intOf]; omega⟩
        rw [List.length_append, u8s_append]; exact ho2
      · have hb43 : (((s[k]'hlt).toNat : Int) == 43) = false := by have := u8_beq (s[k]'hlt) 43; rw [decide_eq_false h43] at this; exact this
        by_cases h37 : s[k]'hlt = 37
        · have hb37 : (((s[k]'hlt).toNat : Int) == 37) = true := by have := u8_beq (s[k]'hlt) 37; rw [decide_eq_true h37] at this; exact this
          obtain ⟨d, hd⟩ : ∃ d, s.extract (k + 1) s.size = d := ⟨_, rfl⟩
          have hdl : d.data.toList = s.data.toList.drop (k + 1) := by rw [← hd, ext_drop]
          have hds : d.size ≤ 1000000 := by rw [← hd, ByteArray.size_extract]; omega
          have hkz : (k : Int) + 1 ≤ s.size := by omega
          cases hp : pct d.data.toList with
          | some n =>
            have hk3 : k + 3 ≤ s.size := by
              have := pct_some hp
              rw [hdl, List.length_drop, size_list] at this; omega
            have HU : Hid (decL s.data.toList = (F ++ [n]) ++ decL (s.data.toList.drop (k + 2 + 1))) := by
              unfold Hid; rw [hun.out, HA.out, h37, dec_yes (by rw [← hdl]; exact hp), List.drop_drop]; simp
            have HN := hide (numbered_any d wr hds (HT.out.below hbr))
            rw [show nbV d.data.toList = (n.toNat : Int) by unfold nbV; rw [hp], hp] at HN
            clear h37 h43 HA hdl hp
            go_wp2_with fail
            refine HN.out.mono ?_
            rintro e wq ⟨rfl, hbq⟩
            have hown := owns_below hown hbq
            have hbr := hbr.trans (hbq.mono hbr.size)
            have hsz := hbr.size
            clear HN
            have hla := hbr.alloc hsz (.cells #[.int .u8 (n.toNat : Int)] 5)
            have hoa := hown.alloc (.cells #[.int .u8 (n.toNat : Int)] 5)
            have h63 : F.length + 1 ≤ maxLen := maxLen_of (by omega)
            have hby : (F.length + 1) * 1 ≤ 140737488355328 := by omega
            have hba : w.heap.size ≤ (wq.alloc (.cells #[.int .u8 (n.toNat : Int)] 5)).heap.size := by simp; omega
            have hce : ∀ j u, [Value.int .u8 (n.toNat : Int)][j]? = some u → (wq.alloc (.cells #[.int .u8 (n.toNat : Int)] 5)).cell? ((⟨wq.heap.size, 0, none⟩ : Addr).add j) = some u := by
              intro j u hj
              rw [add_none, Nat.zero_add, World.cell?_alloc_new]
              simpa using hj
            have HX := hide (And.intro h63 (And.intro hby (And.intro hba (And.intro hce (And.intro hla hoa)))))
            clear h63 hby hba hce hla hoa hown hbr
            go_wp2_with (at_builtin; refine wpList_append_own _ rfl (.tmp 34) (.tmp 36) 39 rfl w.heap.size 5 i0 (.int .u8 0) 1 1 Tryd.underlying39 hi0 hz0 hz1 hz2 rfl (by decide) _ _ _ rfl HX.out.2.2.2.2.2 ⟨wq.heap.size, 0, none⟩ 1 1 [.int .u8 (n.toNat : Int)] rfl rfl HX.out.2.2.2.1 (by intro u hu; simp at hu; subst hu; rfl) HX.out.1 HX.out.2.1 HX.out.2.2.1 ?_; intro v' w2 ho2 hg2 _)
            have hl2 := HX.out.2.2.2.2.1.grown hg2 HX.out.2.2.1 (fun j hj => (HX.out.2.2.2.2.2.lt j hj).1)
            refine ⟨⟨k + 2 + 1, F ++ [n], by omega, by go_num, by simp; omega, ?_, hl2, HU⟩, by simp [intOf]; omega⟩
            rw [List.length_append, u8s_append]; exact ho2
          | none =>
            have HU : Hid (decL s.data.toList = (F ++ [37]) ++ decL (s.data.toList.drop (k + 1))) := by
              unfold Hid; rw [hun.out, HA.out, h37, dec_no (by rw [← hdl]; exact hp)]; simp
            have HN := hide (numbered_any d wr hds (HT.out.below hbr))
            rw [show nbV d.data.toList = 0 by unfold nbV; rw [hp], hp] at HN
            have h37z : ((s[k]'hlt).toNat : Int) = 37 := by rw [h37]; rfl
            clear h37 h43 HA hdl hp
            go_wp2_with fail
            refine HN.out.mono ?_
            rintro e wq ⟨rfl, hbq⟩
            have hown := owns_below hown hbq
            have hbr := hbr.trans (hbq.mono hbr.size)
            have hsz := hbr.size
            clear HN
            have hla := hbr.alloc hsz (.cells #[.int .u8 37] 5)
            have hoa := hown.alloc (.cells #[.int .u8 37] 5)
            have h63 : F.length + 1 ≤ maxLen := maxLen_of (by omega)
            have hby : (F.length + 1) * 1 ≤ 140737488355328 := by omega
            have hba : w.heap.size ≤ (wq.alloc (.cells #[.int .u8 37] 5)).heap.size := by simp; omega
            have hce : ∀ j u, [Value.int .u8 37][j]? = some u → (wq.alloc (.cells #[.int .u8 37] 5)).cell? ((⟨wq.heap.size, 0, none⟩ : Addr).add j) = some u := by
              intro j u hj
              rw [add_none, Nat.zero_add, World.cell?_alloc_new]
              simpa using hj
            have HX := hide (And.intro h63 (And.intro hby (And.intro hba (And.intro hce (And.intro hla hoa)))))
            clear h63 hby hba hce hla hoa hown hbr
            go_wp2_with (at_builtin; refine wpList_append_own _ rfl (.tmp 34) (.tmp 36) 39 rfl w.heap.size 5 i0 (.int .u8 0) 1 1 Tryd.underlying39 hi0 hz0 hz1 hz2 rfl (by decide) _ _ _ rfl HX.out.2.2.2.2.2 ⟨wq.heap.size, 0, none⟩ 1 1 [.int .u8 37] rfl rfl HX.out.2.2.2.1 (by intro u hu; simp at hu; subst hu; rfl) HX.out.1 HX.out.2.1 HX.out.2.2.1 ?_; intro v' w2 ho2 hg2 _)
            have hl2 := HX.out.2.2.2.2.1.grown hg2 HX.out.2.2.1 (fun j hj => (HX.out.2.2.2.2.2.lt j hj).1)
            refine ⟨⟨k + 1, F ++ [37], by omega, by go_num, by simp; omega, ?_, hl2, HU⟩, by simp [intOf]; omega⟩
            rw [List.length_append, u8s_append]; exact ho2
        · have hb37 : (((s[k]'hlt).toNat : Int) == 37) = false := by have := u8_beq (s[k]'hlt) 37; rw [decide_eq_false h37] at this; exact this
          have HU : Hid (decL s.data.toList = (F ++ [s[k]'hlt]) ++ decL (s.data.toList.drop (k + 1))) := by
            unfold Hid; rw [hun.out, HA.out, dec_else _ h43 h37]; simp
          clear h43 h37 HA
          obtain ⟨c, hc⟩ : ∃ c : UInt8, s[k]'hlt = c := ⟨_, rfl⟩
          rw [hc] at HU hb43 hb37
          have hla := hbr.alloc hsz (.cells #[.int .u8 (c.toNat : Int)] 5)
          have hoa := hown.alloc (.cells #[.int .u8 (c.toNat : Int)] 5)
          have h63 : F.length + 1 ≤ maxLen := maxLen_of (by omega)
          have hby : (F.length + 1) * 1 ≤ 140737488355328 := by omega
          have hba : w.heap.size ≤ (wr.alloc (.cells #[.int .u8 (c.toNat : Int)] 5)).heap.size := by simp; omega
          have hce : ∀ j u, [Value.int .u8 (c.toNat : Int)][j]? = some u → (wr.alloc (.cells #[.int .u8 (c.toNat : Int)] 5)).cell? ((⟨wr.heap.size, 0, none⟩ : Addr).add j) = some u := by
            intro j u hj
            rw [add_none, Nat.zero_add, World.cell?_alloc_new]
            simpa using hj
          have HX := hide (And.intro h63 (And.intro hby (And.intro hba (And.intro hce (And.intro hla hoa)))))
          clear h63 hby hba hce hla hoa hown hbr
          go_wp2_with (at_builtin; refine wpList_append_own _ rfl (.tmp 34) (.tmp 36) 39 rfl w.heap.size 5 i0 (.int .u8 0) 1 1 Tryd.underlying39 hi0 hz0 hz1 hz2 rfl (by decide) _ _ _ rfl HX.out.2.2.2.2.2 ⟨wr.heap.size, 0, none⟩ 1 1 [.int .u8 (c.toNat : Int)] rfl rfl HX.out.2.2.2.1 (by intro u hu; simp at hu; subst hu; rfl) HX.out.1 HX.out.2.1 HX.out.2.2.1 ?_; intro v' w2 ho2 hg2 _)
          have hl2 := HX.out.2.2.2.2.1.grown hg2 HX.out.2.2.1 (fun j hj => (HX.out.2.2.2.2.2.lt j hj).1)
          refine ⟨⟨k + 1, F ++ [c], by omega, by go_num, by simp; omega, ?_, hl2, HU⟩, by simp [intOf]; omega⟩
          rw [List.length_append, u8s_append]; exact ho2
    · have hd : decide ((k : Int) < s.size) = false := decide_eq_false (by omega)
      have hcv := conv_own hown
      have HF : Hid (decL s.data.toList = F) := by
        unfold Hid
        rw [hun.out, List.drop_eq_nil_of_le (by rw [size_list]; omega), dec_nil, List.append_nil]
      clear hown
      go_wp2_with fail
      go_ret
      exact ⟨by rw [HF.out]; rfl, hbr⟩

end Go.Proofs.YtgnpeggffeoenaaDoor
