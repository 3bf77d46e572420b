/- The walks of the document's own answers: bytes, cutting, which may be. The walk of the document's own answer to which first lines may be. -/
import Derived.Test.YtmpijlaidnhpnaaGreatJSa
namespace Go.Proofs.YtmpijlaidnhpnaaGreat
set_option linter.unusedVariables false
set_option linter.unusedSimpArgs false
set_option maxRecDepth 100000
open Go.RowKit

theorem hasL_false (c : UInt8) (l : List UInt8) : hasL c l = false ↔ c ∉ l := by
  rw [← hasL_iff, Bool.not_eq_true]
def bar9 : List UInt8 := [34, 35, 60, 62, 92, 94, 123, 124, 125]
theorem addr_no {c : UInt8} (h : c.toNat < 33 ∨ 126 < c.toNat ∨ c = 96 ∨ hasL c bar9 = true) : addrB c = false := by
  unfold addrB
  rcases h with h | h | h | h
  · rw [decide_eq_false (by omega)]; rfl
  · rw [decide_eq_false (show ¬ c.toNat ≤ 126 by omega)]; simp
  · subst h; rfl
  · rw [hasL_iff] at h
    have : barL.contains c = true := by
      rw [List.contains_iff_mem]
      unfold bar9 at h
      unfold barL
      simp only [List.mem_cons, List.mem_nil_iff, or_false] at h ⊢
      rcases h with h | h | h | h | h | h | h | h | h <;> simp [h]
    rw [this]; simp
theorem addr_yes {c : UInt8} (h1 : ¬ c.toNat < 33) (h2 : ¬ 126 < c.toNat) (h3 : ¬ c = 96) (h4 : hasL c bar9 = false) : addrB c = true := by
  unfold addrB
  rw [decide_eq_true (show 33 ≤ c.toNat by omega), decide_eq_true (show c.toNat ≤ 126 by omega)]
  rw [hasL_false] at h4
  have : barL.contains c = false := by
    cases e : barL.contains c with
    | false => rfl
    | true =>
      rw [List.contains_iff_mem] at e
      unfold barL at e
      unfold bar9 at h4
      simp only [List.mem_cons, List.mem_nil_iff, or_false, not_or] at e h4
      rcases e with e | e | e | e | e | e | e | e | e | e <;> simp_all
  rw [this]; rfl

theorem findBar (c : UInt8) (w : World) : Calls Tryz.prog 43 #[.string ⟨#[34, 35, 60, 62, 92, 94, 123, 124, 125]⟩, .int .u8 (c.toNat : Int)] w fun e w' => e = .returned (.int .i64 (ixI c bar9)) ∧ w' = w := by
  have h := find_any ⟨#[34, 35, 60, 62, 92, 94, 123, 124, 125]⟩ c w (by decide)
  exact h
theorem allB_yes {p : UInt8 → Bool} {l : List UInt8} (h : ∀ x ∈ l, p x = true) : allB p l = true := List.all_eq_true.2 h
theorem allB_no {p : UInt8 → Bool} {s : ByteArray} {k : Nat} (hk : k < s.size) (h : p s[k] = false) : allB p s.data.toList = false := by
  unfold allB
  rw [List.all_eq_false]
  refine ⟨s[k], ?_, by simp [h]⟩
  rw [← get_at s k hk]
  exact List.getElem_mem _
theorem allB_more {p : UInt8 → Bool} {s : ByteArray} {k : Nat} (hk : k < s.size) (h : ∀ x ∈ s.data.toList.take k, p x = true) (g : p s[k] = true) : ∀ x ∈ s.data.toList.take (k + 1), p x = true := by
  rw [take_snoc _ k (by rw [size_list]; exact hk), get_at s k hk]
  intro x hx
  rcases List.mem_append.1 hx with hx | hx
  · exact h x hx
  · obtain rfl : x = s[k] := by simpa using hx
    exact g

set_option maxRecDepth 100000 in
set_option maxHeartbeats 1000000 in
theorem refbytes_any (s : ByteArray) (w : World) (hs : s.size ≤ 1000000) :
    Calls Tryz.prog 31 #[.string s] w fun e w' => e = .returned (.bool (allB addrB s.data.toList)) ∧ w' = w := by
  go_enter Tryz.func31, Tryz.ntmps31
  go_wp2_with fail
  go_loop [3] (fun i => ∃ k : Nat, k ≤ s.size ∧ i = .int .i64 k ∧ Hid (∀ x ∈ s.data.toList.take k, addrB x = true)) (fun i => s.size - (intOf i).toNat)
  case atStart => exact ⟨0, Nat.zero_le _, rfl, by simp [Hid]⟩
  case round =>
    obtain ⟨k, hk, rfl, hall⟩ := hrel
    by_cases hlt : k < s.size
    · have hltz : (k : Int) < s.size := by omega
      by_cases h1 : (s[k]).toNat < 33
      · have HN := hide (allB_no hlt (addr_no (Or.inl h1)))
        go_wp2_with fail
        go_ret
        exact ⟨by rw [HN.out]; rfl, rfl⟩
      have h1d : decide (((s[k]).toNat : Int) < 33) = false := decide_eq_false (by omega)
      by_cases h2 : 126 < (s[k]).toNat
      · have HN := hide (allB_no hlt (addr_no (Or.inr (Or.inl h2))))
        go_wp2_with fail
        go_ret
        exact ⟨by rw [HN.out]; rfl, rfl⟩
      have h2d : decide (126 < ((s[k]).toNat : Int)) = false := decide_eq_false (by omega)
      by_cases h3 : s[k] = 96
      · have HN := hide (allB_no hlt (addr_no (Or.inr (Or.inr (Or.inl h3)))))
        have h3d : (((s[k]).toNat : Int) == 96) = true := by rw [h3]; rfl
        clear h3
        go_wp2_with fail
        go_ret
        exact ⟨by rw [HN.out]; rfl, rfl⟩
      have h3d : (((s[k]).toNat : Int) == 96) = false := by
        rw [beq_eq_false_iff_ne]
        intro e
        have h96 : (96 : UInt8).toNat = 96 := rfl
        exact h3 (UInt8.toNat_inj.1 (by omega))
      have H3 := hide h3
      clear h3
      have hix := ixI_ge s[k] bar9
      cases h4 : hasL s[k] bar9
      · rw [h4] at hix
        have HY := hide (allB_more hlt hall.out (addr_yes h1 h2 H3.out h4))
        have HX := hide hix
        clear h4 hix
        go_wp2_with fail
        refine (findBar s[k] _).mono ?_
        rintro e w1 ⟨rfl, hw1⟩
        subst hw1
        have hixd := HX.out
        go_wp2_with fail
        exact ⟨⟨k + 1, by omega, by go_num, HY⟩, by simp [intOf]; omega⟩
      · rw [h4] at hix
        have HN := hide (allB_no hlt (addr_no (Or.inr (Or.inr (Or.inr h4)))))
        have HX := hide hix
        clear h4 hix
        go_wp2_with fail
        refine (findBar s[k] _).mono ?_
        rintro e w1 ⟨rfl, hw1⟩
        subst hw1
        have hixd := HX.out
        go_wp2_with fail
        go_ret
        exact ⟨by rw [HN.out]; rfl, rfl⟩
    · have hd : decide ((k : Int) < s.size) = false := decide_eq_false (by omega)
      have HN : Hid (allB addrB s.data.toList = true) := by
        have := hall.out
        rw [List.take_of_length_le (by rw [size_list]; omega)] at this
        exact allB_yes this
      go_wp2_with fail
      go_ret
      exact ⟨by rw [HN.out]; rfl, rfl⟩

theorem at_here {s : ByteArray} {k : Nat} (hk : k < s.size) (h : ∀ x ∈ s.data.toList.take k, neB 32 x = true) (g : s[k] = 32) : atN 32 s.data.toList = k := by
  unfold atN
  exact takeWhile_at (by rw [size_list]; exact hk) h (by rw [get_at s k hk, g]; rfl)

theorem say_no {s : ByteArray} {k : Nat} (hk : k < s.size) (h : ctrlB s[k] = true) : rsnB s = false := rsn_bad (allB_no hk (by unfold sayB; rw [h]; rfl))
theorem tgt_nil {s : ByteArray} (h : s.data.toList = []) : tgtB s = false := by unfold tgtB tgtL; rw [h]; rfl
theorem tgt_long {s : ByteArray} (h : s.data.toList ≠ [42]) (g : ¬ s.size ≤ 500) : tgtB s = false := by rw [tgt_else h rfl, decide_eq_false g]; simp
theorem tgt_bad {s : ByteArray} (h : s.data.toList ≠ [42]) (g : allB addrB s.data.toList = false) : tgtB s = false := by rw [tgt_else h rfl, g]; simp
theorem tgt_good {s : ByteArray} {b : Bool} (h : s.data.toList ≠ [42]) (k : s.size ≤ 500) (g : allB addrB s.data.toList = true) (hb : (pre [47] s.data.toList || pre httpL s.data.toList) = b) : tgtB s = b := by
  rw [tgt_else h hb, decide_eq_true k, g]; simp
theorem pre_slash {s : ByteArray} (h : 0 < s.size) : pre [47] s.data.toList = decide (s[0] = 47) := by
  have hl : 0 < s.data.toList.length := by rw [size_list]; exact h
  have e := get_at s 0 h
  cases hd : s.data.toList with
  | nil => rw [hd] at hl; cases hl
  | cons a l =>
    have : s[0] = a := by rw [← e]; simp [hd]
    rw [this]
    unfold pre
    rw [Bool.eq_iff_iff]
    simp [List.isPrefixOf]
    exact ⟨fun h => h.symm, fun h => h.symm⟩
theorem pre_http {s : ByteArray} (h : 7 ≤ s.size) : pre httpL s.data.toList = ((s.extract 0 7).toList == [104, 116, 116, 112, 58, 47, 47]) := by
  rw [ByteArray.toList_eq, ext_take]
  unfold pre
  rw [Bool.eq_iff_iff, List.isPrefixOf_iff_prefix, List.prefix_iff_eq_take, beq_iff_eq]
  exact ⟨fun h => h.symm, fun h => h.symm⟩
theorem pre_http_no {s : ByteArray} (h : ¬ 7 ≤ s.size) : pre httpL s.data.toList = false := by
  cases e : pre httpL s.data.toList
  · rfl
  · unfold pre at e
    rw [List.isPrefixOf_iff_prefix] at e
    have := e.length_le
    rw [size_list] at this
    exact absurd this h

end Go.Proofs.YtmpijlaidnhpnaaGreat

namespace Go.Proofs.YtmpijlaidnhpnaaGreat
set_option linter.unusedVariables false
set_option linter.unusedSimpArgs false
set_option maxRecDepth 100000
open Go.RowKit

theorem rt_of_sta {s : St} (hn : s.n = 0 ∨ s.n = 1) (hc : s.c ≠ 0) : rtB s = staB s := by
  unfold rtB
  rw [req_is, decide_eq_false hc]
  rcases hn with h | h <;> rw [h] <;> simp
theorem rt_of_req {s : St} (hn : s.n = 0 ∨ s.n = 1) (hc : s.c = 0) : rtB s = reqB s := by
  unfold rtB
  rw [sta_is, decide_eq_false (show ¬ 100 ≤ s.c by omega)]
  rcases hn with h | h <;> rw [h] <;> simp
theorem rt_minor_no {s : St} (hn : ¬ (s.n = 0 ∨ s.n = 1)) : rtB s = false := by
  unfold rtB
  rw [decide_eq_false (fun e => hn (Or.inl e)), decide_eq_false (fun e => hn (Or.inr e))]; rfl
theorem sta_no_say {s : St} {k : Nat} (hk : k < s.r.size) (h : ctrlB s.r[k] = true) : staB s = false := by rw [sta_is, say_no hk h]; simp
theorem below_quiet {B : Nat} {w W : World} (h : Below B w W) (n : Nat) : Below B w (W.drewN n) := ⟨h.1, h.2, h.3, h.4, h.5⟩

set_option maxRecDepth 100000 in
set_option maxHeartbeats 2000000 in
theorem refright_sta (s : St) (w : World) (hs : Short s) (hn : s.n = 0 ∨ s.n = 1) (hc : s.c ≠ 0) :
    Calls Tryz.prog 17 #[s.v] w fun e w' => e = .returned (.bool (rtB s)) ∧ Below w.heap.size w w' := by
  have hnew := Five.new w s
  have hbn : Below w.heap.size w (w.alloc (.cells s.cs.toArray 23)) := (Below.refl _ _).alloc (Nat.le_refl _) _
  unfold St.cs at hnew hbn
  have f3 := hs.r
  have HR0 := hide (rt_of_sta hn hc)
  have hn0 : decide (s.n < 0) = false := decide_eq_false (by omega)
  have hn1 : decide (1 < s.n) = false := decide_eq_false (by omega)
  have hcd : (s.c != 0) = true := by simpa using hc
  clear hn hc
  unfold St.v
  go_enter Tryz.func17, Tryz.ntmps17
  go_wp2_with fail
  generalize w.alloc _ = W1 at hnew hbn ⊢
  obtain ⟨c0, c1, c2, c3, c4, -, -⟩ := id hnew
  go_loop [3] (fun i => ∃ k : Nat, k ≤ s.r.size ∧ i = .int .i64 k ∧ Hid (∀ x ∈ s.r.data.toList.take k, sayB x = true)) (fun i => s.r.size - (intOf i).toNat)
  case atStart => exact ⟨0, Nat.zero_le _, rfl, by simp [Hid]⟩
  case round =>
    obtain ⟨k, hk, rfl, hall⟩ := hrel
    by_cases hlt : k < s.r.size
    · have hltz : (k : Int) < s.r.size := by omega
      cases hb : ctrlB s.r[k]
      · have HB := hide hb
        have HY := hide (allB_more hlt hall.out (show sayB s.r[k] = true by unfold sayB; rw [hb]; rfl))
        clear hb
        go_wp2_with fail
        refine (control_any s.r[k] _).mono ?_
        rintro e w1 ⟨rfl, hw1⟩
        subst hw1
        rw [HB.out]
        go_wp2_with fail
        exact ⟨⟨k + 1, by omega, by go_num, HY⟩, by simp [intOf]; omega⟩
      · have HB := hide hb
        have HN := hide (sta_no_say hlt hb)
        clear hb
        go_wp2_with fail
        refine (control_any s.r[k] _).mono ?_
        rintro e w1 ⟨rfl, hw1⟩
        subst hw1
        rw [HB.out]
        go_wp2_with fail
        go_ret
        exact ⟨by rw [HR0.out, HN.out]; rfl, hbn⟩
    · have hd : decide ((k : Int) < s.r.size) = false := decide_eq_false (by omega)
      have hA : allB sayB s.r.data.toList = true := by
        have := hall.out
        rw [List.take_of_length_le (by rw [size_list]; omega)] at this
        exact allB_yes this
      have HA := hide hA
      clear hA
      by_cases h1 : 100 ≤ s.c
      · have hd1 : decide (100 ≤ s.c) = true := decide_eq_true h1
        by_cases h2 : s.c < 600
        · have hd2 : decide (s.c < 600) = true := decide_eq_true h2
          by_cases h3 : s.m.data.toList = []
          · have he3 := empty_of h3
            by_cases h4 : s.t.data.toList = []
            · have he4 := empty_of h4
              by_cases h5 : s.r.size ≤ 100
              · have hd5 : decide ((s.r.size : Int) ≤ 100) = true := decide_eq_true (by omega)
                have HN : Hid (staB s = ((trimS s.r).toList == s.r.toList)) := by
                  unfold Hid
                  rw [sta_is, decide_eq_true h1, decide_eq_true (show s.c ≤ 599 by omega), decide_eq_true h3, decide_eq_true h4, rsn_trim h5 HA.out]; rfl
                clear h3 h4
                go_wp2_with fail
                go_quiet (first | (go_at_call 30; refine Calls.quiet_of_same (reftrim_any _ _ (by omega))))
                go_wp2_with fail
                go_ret
                exact ⟨by rw [HR0.out, HN.out]; rfl, below_quiet hbn _⟩
              · have hd5 : decide ((s.r.size : Int) ≤ 100) = false := decide_eq_false (by omega)
                have HN : Hid (staB s = false) := by unfold Hid; rw [sta_is, rsn_long h5]; simp
                clear h3 h4
                go_wp2_with fail
                go_quiet (fail)
                go_wp2_with fail
                go_ret
                exact ⟨by rw [HR0.out, HN.out]; rfl, below_quiet hbn _⟩
            · have he4 := empty_not h4
              have HN : Hid (staB s = false) := by unfold Hid; rw [sta_is, decide_eq_false h4]; simp
              clear h3 h4
              go_wp2_with fail
              go_quiet (fail)
              go_wp2_with fail
              go_ret
              exact ⟨by rw [HR0.out, HN.out]; rfl, below_quiet hbn _⟩
          · have he3 := empty_not h3
            have HN : Hid (staB s = false) := by unfold Hid; rw [sta_is, decide_eq_false h3]; simp
            clear h3
            go_wp2_with fail
            go_quiet (fail)
            go_wp2_with fail
            go_ret
            exact ⟨by rw [HR0.out, HN.out]; rfl, below_quiet hbn _⟩
        · have hd2 : decide (s.c < 600) = false := decide_eq_false h2
          have HN : Hid (staB s = false) := by unfold Hid; rw [sta_is, decide_eq_false (show ¬ s.c ≤ 599 by omega)]; simp
          go_wp2_with fail
          go_quiet (fail)
          go_wp2_with fail
          go_ret
          exact ⟨by rw [HR0.out, HN.out]; rfl, below_quiet hbn _⟩
      · have hd1 : decide (100 ≤ s.c) = false := decide_eq_false h1
        have HN : Hid (staB s = false) := by unfold Hid; rw [sta_is, decide_eq_false h1]; simp
        go_wp2_with fail
        go_quiet (fail)
        go_wp2_with fail
        go_ret
        exact ⟨by rw [HR0.out, HN.out]; rfl, below_quiet hbn _⟩

set_option maxRecDepth 100000 in
set_option maxHeartbeats 2000000 in
theorem refright_req (m t r : ByteArray) (n : Int) (w : World) (hs : Short ⟨m, t, 0, r, n⟩) (hn : n = 0 ∨ n = 1) :
    Calls Tryz.prog 17 #[.agg #[.string m, .string t, .int .i64 0, .string r, .int .i64 n]] w fun e w' => e = .returned (.bool (reqB ⟨m, t, 0, r, n⟩)) ∧ Below w.heap.size w w' := by
  have hnew := Five.new w ⟨m, t, 0, r, n⟩
  have hbn : Below w.heap.size w (w.alloc (.cells (St.cs ⟨m, t, 0, r, n⟩).toArray 23)) := (Below.refl _ _).alloc (Nat.le_refl _) _
  unfold St.cs at hnew hbn
  dsimp only at hnew hbn
  have f1 : m.size ≤ 10000 := hs.m
  have f2 : t.size ≤ 10000 := hs.t
  have f3 : r.size ≤ 10000 := hs.r
  have HQ := hide (req_is ⟨m, t, 0, r, n⟩)
  dsimp only at HQ
  generalize reqB ⟨m, t, 0, r, n⟩ = R at HQ ⊢
  have hn0 : decide (n < 0) = false := decide_eq_false (by omega)
  have hn1 : decide (1 < n) = false := decide_eq_false (by omega)
  clear hn hs
  go_enter Tryz.func17, Tryz.ntmps17
  go_upto_region 11 with fail
  generalize w.alloc _ = W1 at hnew hbn ⊢
  obtain ⟨c0, c1, c2, c3, c4, -, -⟩ := hnew
  dsimp only at c0 c1 c2 c3 c4
  go_cut [5] (fun x wd => wd = W1 ∧ x = .bool (tgtB t))
  case first =>
    cases h0 : (t.toList == [42])
    · have H0 := hide (ne_of_beq h0)
      by_cases h1 : 0 < t.size
      · have hd1 : decide (0 < (t.size : Int)) = true := decide_eq_true (by omega)
        by_cases h2 : t.size ≤ 500
        · have hd2 : decide ((t.size : Int) ≤ 500) = true := decide_eq_true (by omega)
          cases h3 : allB addrB t.data.toList
          · have HT := hide (tgt_bad H0.out h3)
            have H3 := hide h3
            clear h3
            go_wp2_with fail
            refine (refbytes_any t _ (by omega)).mono ?_
            rintro e w1 ⟨rfl, hw1⟩
            subst hw1
            rw [H3.out]
            go_wp2_with fail
            go_meet
            exact ⟨rfl, by rw [HT.out]⟩
          · have H3 := hide h3
            clear h3
            have hps := pre_slash h1
            by_cases h4 : t[0] = 47
            · have HT := hide (tgt_good (b := true) H0.out h2 H3.out (by rw [hps, decide_eq_true h4]; rfl))
              have hd4 : (((t[0]).toNat : Int) == 47) = true := by rw [h4]; rfl
              clear h4 hps
              go_wp2_with fail
              refine (refbytes_any t _ (by omega)).mono ?_
              rintro e w1 ⟨rfl, hw1⟩
              subst hw1
              rw [H3.out]
              go_wp2_with fail
              go_meet
              exact ⟨rfl, by rw [HT.out]⟩
            · have hd4 : (((t[0]).toNat : Int) == 47) = false := by
                rw [beq_eq_false_iff_ne]
                intro e
                have h47 : (47 : UInt8).toNat = 47 := rfl
                exact h4 (UInt8.toNat_inj.1 (by omega))
              rw [decide_eq_false h4] at hps
              clear h4
              by_cases h5 : 7 ≤ t.size
              · have hd5 : decide (7 ≤ (t.size : Int)) = true := decide_eq_true (by omega)
                have h5z : (7 : Int) ≤ (t.size : Int) := by omega
                have HT : Hid (tgtB t = ((t.extract 0 7).toList == [104, 116, 116, 112, 58, 47, 47])) := by
                  unfold Hid
                  exact tgt_good H0.out h2 H3.out (by rw [hps, pre_http h5, Bool.false_or])
                clear hps
                go_wp2_with fail
                refine (refbytes_any t _ (by omega)).mono ?_
                rintro e w1 ⟨rfl, hw1⟩
                subst hw1
                rw [H3.out]
                go_wp2_with fail
                go_meet
                exact ⟨rfl, by rw [HT.out]⟩
              · have hd5 : decide (7 ≤ (t.size : Int)) = false := decide_eq_false (by omega)
                have HT := hide (tgt_good (b := false) H0.out h2 H3.out (by rw [hps, pre_http_no h5]; rfl))
                clear hps
                go_wp2_with fail
                refine (refbytes_any t _ (by omega)).mono ?_
                rintro e w1 ⟨rfl, hw1⟩
                subst hw1
                rw [H3.out]
                go_wp2_with fail
                go_meet
                exact ⟨rfl, by rw [HT.out]⟩
        · have hd2 : decide ((t.size : Int) ≤ 500) = false := decide_eq_false (by omega)
          have HT := hide (tgt_long H0.out h2)
          go_wp2_with fail
          go_meet
          exact ⟨rfl, by rw [HT.out]⟩
      · have hd1 : decide (0 < (t.size : Int)) = false := decide_eq_false (by omega)
        have HT := hide (tgt_nil (s := t) (List.eq_nil_of_length_eq_zero (by rw [size_list]; omega)))
        go_wp2_with fail
        go_meet
        exact ⟨rfl, by rw [HT.out]⟩
    · have HT := hide (tgt_star (eq_of_beq h0))
      go_wp2_with fail
      go_meet
      exact ⟨rfl, by rw [HT.out]⟩
  case rest =>
    obtain ⟨rfl, rfl⟩ := hcut
    cases h1 : tgtB t
    · have HR : Hid (R = false) := by unfold Hid; rw [HQ.out, h1]; simp
      go_wp2_with fail
      go_ret
      exact ⟨by rw [HR.out]; rfl, hbn⟩
    · by_cases h2 : r.data.toList = []
      · have he2 := empty_of h2
        cases h3 : tokB m
        · have HR : Hid (R = false) := by unfold Hid; rw [HQ.out, h3]; simp
          have H3 := hide h3
          clear h3 h2
          go_wp2_with fail
          refine (reftoken_any m _ (by omega)).mono ?_
          rintro e w1 ⟨rfl, hw1⟩
          subst hw1
          rw [H3.out]
          go_wp2_with fail
          go_ret
          exact ⟨by rw [HR.out]; rfl, hbn⟩
        · have HR : Hid (R = decide ((m.size : Int) ≤ 20)) := by
            unfold Hid; rw [HQ.out, h3, h1, decide_eq_true h2]
            rw [Bool.eq_iff_iff]; simp; omega
          have H3 := hide h3
          clear h3 h2
          go_wp2_with fail
          refine (reftoken_any m _ (by omega)).mono ?_
          rintro e w1 ⟨rfl, hw1⟩
          subst hw1
          rw [H3.out]
          go_wp2_with fail
          go_ret
          exact ⟨by rw [HR.out]; rfl, hbn⟩
      · have he2 := empty_not h2
        have HR : Hid (R = false) := by unfold Hid; rw [HQ.out, decide_eq_false h2]; simp
        clear h2
        go_wp2_with fail
        go_ret
        exact ⟨by rw [HR.out]; rfl, hbn⟩

set_option maxRecDepth 100000 in
set_option maxHeartbeats 1000000 in
theorem srefright_any (s : St) (w : World) (hs : Short s) :
    Calls Tryz.prog 17 #[s.v] w fun e w' => e = .returned (.bool (rtB s)) ∧ Below w.heap.size w w' := by
  by_cases hn : s.n = 0 ∨ s.n = 1
  · by_cases hc : s.c = 0
    · rw [rt_of_req hn hc]
      obtain ⟨m, t, c, r, n⟩ := s
      obtain rfl : c = 0 := hc
      exact refright_req m t r n w hs hn
    · exact refright_sta s w hs hn hc
  · have hbn : Below w.heap.size w (w.alloc (.cells s.cs.toArray 23)) := (Below.refl _ _).alloc (Nat.le_refl _) _
    unfold St.cs at hbn
    have HR := hide (rt_minor_no hn)
    unfold St.v
    by_cases h0 : s.n < 0
    · have hd0 : decide (s.n < 0) = true := decide_eq_true h0
      clear hn
      go_enter Tryz.func17, Tryz.ntmps17
      go_wp2_with fail
      go_ret
      exact ⟨by rw [HR.out]; rfl, hbn⟩
    · have hd0 : decide (s.n < 0) = false := decide_eq_false h0
      have hd1 : decide (1 < s.n) = true := decide_eq_true (by omega)
      clear hn
      go_enter Tryz.func17, Tryz.ntmps17
      go_wp2_with fail
      go_ret
      exact ⟨by rw [HR.out]; rfl, hbn⟩

end Go.Proofs.YtmpijlaidnhpnaaGreat
