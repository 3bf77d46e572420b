/- The walk of the document's own reading of sixteens. The walk of what leaves out empty lines, as the document goes. The walk of what a whole line of chunks does, as the document goes. The walks of chunks byte by byte, as the document goes. The walk of bytes in chunks, as the document goes. The walks of the document's own line, and of what leaves out empty lines. -/
import Derived.Test.YtmpijlaidnhpnaaGreatJNd
import Derived.Test.YtmpijlaidnhpnaaGreatJHr
import Derived.Test.YtmpijlaidnhpnaaGreatJXb
import Derived.Test.YtmpijlaidnhpnaaGreatJKf
import Derived.Test.YtmpijlaidnhpnaaGreatJHc
import Derived.Test.YtmpijlaidnhpnaaGreatJWd
namespace Go.Proofs.YtmpijlaidnhpnaaGreat
set_option linter.unusedVariables false
set_option linter.unusedSimpArgs false
set_option maxRecDepth 100000
open Go.RowKit

set_option maxHeartbeats 1000000 in
theorem refRead16 (s : ByteArray) (w : World) (hs : s.size ≤ maxLen) :
    Calls Tryz.prog 66 #[.string s, .int .u64 16] w fun e w' => e = .returned (.tuple #[.int .u64 (rdN 16 s.data.toList : Nat), .int .i64 (rdE 16 s.data.toList : Nat)]) ∧ w' = w := by
  unfold maxLen at hs
  have HZ : Hid (s.data.toList.length = s.size) := by unfold Hid; simp
  by_cases h0 : s.data.toList = []
  · have he := empty_of h0
    have H0 : Hid (s.data.toList = []) := h0
    clear h0
    go_enter Tryz.func66, Tryz.ntmps66
    go_wp2
    go_ret2
    exact ⟨ret_ii (by rw [rdN_bad (Or.inl H0.out)]; rfl) (by rw [rdE_bad (Or.inl H0.out)]; rfl), rfl⟩
  · have he := empty_not h0
    have H0 : Hid (s.data.toList ≠ []) := h0
    clear h0
    go_enter Tryz.func66, Tryz.ntmps66
    go_wp2
    go_loop [6] (fun i => ∃ k : Nat, k ≤ s.size ∧ i = .int .i64 k ∧ Hid (okay 16 (s.data.toList.take k) = true)) (fun i => s.size - (intOf i).toNat)
    case atStart => exact ⟨0, Nat.zero_le _, rfl, by simp [Hid, okay]⟩
    case round =>
      obtain ⟨k, hk, rfl, hok⟩ := hrel
      by_cases hlt : k < s.size
      · have HT : Hid (s.data.toList.take (k + 1) = s.data.toList.take k ++ [s[k]]) := by
          unfold Hid; rw [take_snoc _ k (by rw [HZ.out]; exact hlt), get_at s k hlt]
        have hv := vr_le s[k]
        by_cases hd : vr s[k] < 16
        · go_wp2_with (go_at_call 85; refine (value_any _ _).mono ?_; rintro e w' ⟨rfl, rfl⟩)
          refine ⟨⟨k + 1, by omega, by go_num, ?_⟩, by simp [intOf]; omega⟩
          unfold Hid; rw [HT.out, okay_snoc, hok.out, decide_eq_true ((vr_lt _ _ (by omega)).1 hd)]; rfl
        · go_wp2_with (go_at_call 85; refine (value_any _ _).mono ?_; rintro e w' ⟨rfl, rfl⟩)
          go_ret2
          have hf : okay 16 s.data.toList = false := okay_at_false (k := k) (by rw [HZ.out]; exact hlt) (by rw [get_at s k hlt]; exact fun e => hd ((vr_lt _ _ (by omega)).2 e))
          exact ⟨ret_ii (by rw [rdN_bad (Or.inr hf)]; rfl) (by rw [rdE_bad (Or.inr hf)]; rfl), rfl⟩
      · have HK : Hid (okay 16 s.data.toList = true) := by
          have := hok.out
          rw [List.take_of_length_le (by rw [HZ.out]; omega)] at this
          exact this
        clear hok
        go_wp2
        go_loop [7, 8] (fun n i => ∃ k : Nat, k ≤ s.size ∧ i = .int .i64 k ∧ n = .int .u64 (val 16 (s.data.toList.take k) : Nat) ∧ val 16 (s.data.toList.take k) ≤ 1099511627776) (fun _ i => s.size - (intOf i).toNat)
        case atStart => exact ⟨0, Nat.zero_le _, rfl, by simp [val_nil], by simp [val_nil]⟩
        case round =>
          obtain ⟨k, hk, rfl, rfl, hn⟩ := hrel
          by_cases hlt : k < s.size
          · have HT : Hid (val 16 (s.data.toList.take (k + 1)) = val 16 (s.data.toList.take k) * 16 + vl s[k]) := by
              unfold Hid; rw [take_snoc _ k (by rw [HZ.out]; exact hlt), get_at s k hlt, val_snoc]
            have hv : vl s[k] < 16 := by
              have := okay_at HK.out k (by rw [HZ.out]; exact hlt)
              rw [get_at s k hlt] at this
              exact this
            have HR : Hid (vr s[k] = vl s[k]) := vr_of (by omega) hv
            have hG := val_grows 16 (by omega) (s.data.toList.take (k + 1)) (s.data.toList.drop (k + 1))
            rw [List.take_append_drop] at hG
            by_cases hg : 1099511627776 < val 16 (s.data.toList.take k) * 16 + vl s[k]
            · have HG : Hid (1099511627776 < val 16 s.data.toList) := by unfold Hid; rw [HT.out] at hG; omega
              clear hG
              go_wp2_with (go_at_call 85; refine (value_any _ _).mono ?_; rintro e w' ⟨rfl, rfl⟩; rw [HR.out])
              go_ret2
              exact ⟨ret_ii (by rw [rdN_long HG.out]; rfl) (by rw [rdE_long H0.out HK.out HG.out]; rfl), rfl⟩
            · clear hG
              go_wp2_with (go_at_call 85; refine (value_any _ _).mono ?_; rintro e w' ⟨rfl, rfl⟩; rw [HR.out])
              all_goals first
                | (exfalso; omega)
                | (refine ⟨⟨k + 1, by omega, by go_num, ?_, ?_⟩, by simp [intOf]; omega⟩
                   · rw [HT.out]; congr 1; omega
                   · rw [HT.out]; omega)
          · have HE : Hid (s.data.toList.take k = s.data.toList) := by
              unfold Hid; rw [List.take_of_length_le (by rw [HZ.out]; omega)]
            go_wp2
            go_ret2
            rw [HE.out] at hn
            exact ⟨ret_ii (by rw [rdN_fine H0.out HK.out (by omega), HE.out]) (by rw [rdE_fine H0.out HK.out (by omega)]; rfl), rfl⟩

end Go.Proofs.YtmpijlaidnhpnaaGreat

namespace Go.Proofs.YtmpijlaidnhpnaaGreat
set_option linter.unusedVariables false
set_option linter.unusedSimpArgs false
set_option maxRecDepth 100000
open Go.RowKit

theorem nat_is (c : UInt8) (n : Nat) (hn : n < 256) : ((c.toNat : Int) == (n : Int)) = decide (c = UInt8.ofNat n) := by
  by_cases h : c = UInt8.ofNat n
  · subst h
    rw [decide_eq_true rfl, UInt8.toNat_ofNat']
    simp
    omega
  · rw [decide_eq_false h]
    have : (c.toNat : Int) ≠ (n : Int) := by
      intro e
      apply h
      apply UInt8.toNat_inj.1
      rw [UInt8.toNat_ofNat']
      omega
    simpa using this
/-- What a text begins with. -/
structure Beg (S : ByteArray) (q : List UInt8) : Prop where
  z : S.size = q.length
  a : ∀ (h : 0 < S.size) c r, q = c :: r → S[0]'h = c
  b : ∀ (h : 1 < S.size) c d r, q = c :: d :: r → S[1]'h = d
  x1 : ∀ c r, q = c :: r → S.extract 1 S.size = Ck.bs r
  x2 : ∀ c d r, q = c :: d :: r → S.extract 2 S.size = Ck.bs r
theorem beg (q : List UInt8) : Beg (Ck.bs q) q := by
  refine ⟨Ck.bs_size q, ?_, ?_, ?_, ?_⟩
  · intro h c r e; subst e; rfl
  · intro h c d r e; subst e; rfl
  · intro c r e
    apply bytes_ext
    rw [Ck.bs_size, ByteArray.data_extract, Ck.bs_list]
    subst e
    simp [Ck.bs, List.extract_eq_take_drop]
  · intro c d r e
    apply bytes_ext
    rw [Ck.bs_size, ByteArray.data_extract, Ck.bs_list]
    subst e
    simp [Ck.bs, List.extract_eq_take_drop]

set_option maxHeartbeats 4000000 in
theorem refskip_any (l : List UInt8) (w : World) (hl : l.length ≤ 100000) :
    Calls Tryz.prog 21 #[.string (Ck.bs l)] w fun e w' => e = .returned (.string (Ck.bs (skL l))) ∧ w' = w := by
  go_enter Tryz.func21, Tryz.ntmps21
  go_wp2_with fail
  go_loop [0] (fun x => ∃ q, x = .string (Ck.bs q) ∧ Hid (skL q = skL l) ∧ q.length ≤ l.length) (fun x => strN x)
  case atStart => exact ⟨l, rfl, rfl, Nat.le_refl _⟩
  case round =>
    obtain ⟨q, rfl, hq, hlq⟩ := hrel
    have hb := beg q
    have HK := hide (Ck.bs_size q)
    generalize hS : Ck.bs q = S at hb HK ⊢
    have HSS := hide hS
    clear hS
    match q, hb, hq, hlq, HK, HSS with
    | [], hb, hq, hlq, HK, HSS =>
      have hz : S.size = 0 := hb.z
      clear hb
      go_wp2_with fail
      go_ret
      exact ⟨ret_str (HSS.out.symm.trans (by rw [← hq.out]; rfl)), rfl⟩
    | [c], hb, hq, hlq, HK, HSS =>
      have hz : S.size = 1 := hb.z
      have h0 : 0 < S.size := by omega
      have ha := hb.a h0 c [] rfl
      have hx := hb.x1 c [] rfl
      clear hb
      by_cases hc : c = 10
      · have t10 : (((S[0]'h0).toNat : Int) == 10) = true := by rw [ha, hc]; decide
        have HX := hide hx
        clear hx ha
        go_wp2_with fail
        exact ⟨⟨[], rfl, by rw [hc, sk_ten] at hq; exact hq, by simp⟩, by simp only [strN]; rw [hz]; decide⟩
      · have t10 : (((S[0]'h0).toNat : Int) == 10) = false := by rw [ha]; have := nat_is c 10 (by decide); rw [show ((10 : Nat) : Int) = 10 from rfl] at this; rw [this]; exact decide_eq_false hc
        clear hx ha
        go_wp2_with fail
        go_ret
        exact ⟨ret_str (HSS.out.symm.trans (by rw [← hq.out, skL, if_neg hc])), rfl⟩
    | c :: d :: r, hb, hq, hlq, HK, HSS =>
      have hz : S.size = r.length + 2 := hb.z
      have h0 : 0 < S.size := by omega
      have h1 : 1 < S.size := by omega
      have ha := hb.a h0 c (d :: r) rfl
      have hbb := hb.b h1 c d r rfl
      have hx1 := hb.x1 c (d :: r) rfl
      have hx2 := hb.x2 c d r rfl
      have hzz : (S.size : Int) ≤ 100000 := by have : (c :: d :: r).length ≤ l.length := hlq; simp at this; omega
      have h0z : (0 : Int) < (S.size : Int) := by omega
      have h1z : (1 : Int) < (S.size : Int) := by omega
      have HZ := hide hz
      clear hb hz
      by_cases hc : c = 10
      · have t10 : (((S[0]'h0).toNat : Int) == 10) = true := by rw [ha, hc]; decide
        clear ha hbb hx2
        go_wp2_with fail
        exact ⟨⟨d :: r, rfl, by rw [hc, sk_ten] at hq; exact hq, by have := HZ.out; simp at hlq ⊢; omega⟩, by simp only [strN]; rw [HZ.out, Ck.bs_size]; simp⟩
      · have t10 : (((S[0]'h0).toNat : Int) == 10) = false := by rw [ha]; have := nat_is c 10 (by decide); rw [show ((10 : Nat) : Int) = 10 from rfl] at this; rw [this]; exact decide_eq_false hc
        by_cases h13 : c = 13
        · have t13 : (((S[0]'h0).toNat : Int) == 13) = true := by rw [ha, h13]; decide
          by_cases hd : d = 10
          · have u10 : (((S[1]'h1).toNat : Int) == 10) = true := by rw [hbb, hd]; decide
            clear ha hbb hx1
            go_wp2_with fail
            exact ⟨⟨r, rfl, by rw [h13, hd, sk_two] at hq; exact hq, by have := HZ.out; simp at hlq ⊢; omega⟩, by simp only [strN]; rw [HZ.out, Ck.bs_size]; omega⟩
          · have u10 : (((S[1]'h1).toNat : Int) == 10) = false := by rw [hbb]; have := nat_is d 10 (by decide); rw [show ((10 : Nat) : Int) = 10 from rfl] at this; rw [this]; exact decide_eq_false hd
            clear ha hbb hx1 hx2
            go_wp2_with fail
            go_ret
            exact ⟨ret_str (HSS.out.symm.trans (by rw [← hq.out, skL, if_neg hc, if_neg (fun e => hd e.2)])), rfl⟩
        · have t13 : (((S[0]'h0).toNat : Int) == 13) = false := by rw [ha]; have := nat_is c 13 (by decide); rw [show ((13 : Nat) : Int) = 13 from rfl] at this; rw [this]; exact decide_eq_false h13
          clear ha hbb hx1 hx2
          go_wp2_with fail
          go_ret
          exact ⟨ret_str (HSS.out.symm.trans (by rw [← hq.out, skL, if_neg hc, if_neg (fun e => h13 e.1)])), rfl⟩

end Go.Proofs.YtmpijlaidnhpnaaGreat

namespace Go.Proofs.YtmpijlaidnhpnaaGreat.Ck
set_option linter.unusedVariables false
set_option linter.unusedSimpArgs false
set_option maxRecDepth 100000
open Go.RowKit

theorem Four.t1 {w : World} {N : Nat} {k : K} (h : Four w N k) (x : ByteArray) : Four (w.setCell ⟨N, 1, none⟩ (.string x)) N (kl k x) :=
  ⟨(World.cell?_setCell_other _ _ _ _ (by simp)).trans h.c0, World.cell?_setCell_same _ _ _ h.c1, (World.cell?_setCell_other _ _ _ _ (by simp)).trans h.c2, (World.cell?_setCell_other _ _ _ _ (by simp)).trans h.c3, by simpa using h.lt, fun o => by rw [World.frozen?_setCell]; exact h.fz o⟩
theorem Four.t0 {w : World} {N : Nat} {k : K} (h : Four w N k) (x : Int) : Four (w.setCell ⟨N, 0, none⟩ (.int .i64 x)) N ⟨x, k.line, k.left, k.size⟩ :=
  ⟨World.cell?_setCell_same _ _ _ h.c0, (World.cell?_setCell_other _ _ _ _ (by simp)).trans h.c1, (World.cell?_setCell_other _ _ _ _ (by simp)).trans h.c2, (World.cell?_setCell_other _ _ _ _ (by simp)).trans h.c3, by simpa using h.lt, fun o => by rw [World.frozen?_setCell]; exact h.fz o⟩
theorem Four.t2 {w : World} {N : Nat} {k : K} (h : Four w N k) (x : Int) : Four (w.setCell ⟨N, 2, none⟩ (.int .i64 x)) N ⟨k.st, k.line, x, k.size⟩ :=
  ⟨(World.cell?_setCell_other _ _ _ _ (by simp)).trans h.c0, (World.cell?_setCell_other _ _ _ _ (by simp)).trans h.c1, World.cell?_setCell_same _ _ _ h.c2, (World.cell?_setCell_other _ _ _ _ (by simp)).trans h.c3, by simpa using h.lt, fun o => by rw [World.frozen?_setCell]; exact h.fz o⟩
theorem Four.t3 {w : World} {N : Nat} {k : K} (h : Four w N k) (x : Int) : Four (w.setCell ⟨N, 3, none⟩ (.int .i64 x)) N ⟨k.st, k.line, k.left, x⟩ :=
  ⟨(World.cell?_setCell_other _ _ _ _ (by simp)).trans h.c0, (World.cell?_setCell_other _ _ _ _ (by simp)).trans h.c1, (World.cell?_setCell_other _ _ _ _ (by simp)).trans h.c2, World.cell?_setCell_same _ _ _ h.c3, by simpa using h.lt, fun o => by rw [World.frozen?_setCell]; exact h.fz o⟩
theorem ret_ke {a b : K} {x y : Int} (h : a = b) (g : x = y) : Ending.returned (.tuple #[a.v, .int .i64 x]) = .returned (.tuple #[b.v, .int .i64 y]) := by rw [h, g]

theorem tw_whole (f : UInt8 → Bool) : ∀ (l : List UInt8), (∀ c ∈ l, f c = true) → l.takeWhile f = l
  | [], _ => rfl
  | c :: l, h => by rw [List.takeWhile_cons_of_pos (h c (by simp)), tw_whole f l (fun d hd => h d (by simp [hd]))]
theorem tw_until {f : UInt8 → Bool} : ∀ (l : List UInt8) (i : Nat) (hi : i < l.length), (∀ c ∈ l.take i, f c = true) → f (l[i]'hi) = false → l.takeWhile f = l.take i
  | [], i, hi, _, _ => absurd hi (by simp)
  | c :: l, 0, hi, _, h => by
    have : f c = false := h
    rw [List.takeWhile_cons_of_neg (by rw [this]; decide)]; rfl
  | c :: l, i + 1, hi, h, g => by
    rw [List.take_succ_cons] at h ⊢
    rw [List.takeWhile_cons_of_pos (h c (by simp)), tw_until l i (by simpa using hi) (fun d hd => h d (by simp [hd])) (by simpa using g)]
/-- Two blocks: what is gone through, what is told. -/
structure Pair4 (w wr : World) (k q : K) : Prop where
  x : Four wr w.heap.size k
  y : Four wr (w.heap.size + 1) q
  b : Below w.heap.size w wr

set_option maxHeartbeats 4000000 in
theorem refline8_any (k : K) (w : World) (g : Good k) (h1 : k.st ≠ 1) (h4 : k.st ≠ 4) :
    Calls Tryz.prog 68 #[k.v] w fun e w' => e = .returned (.tuple #[(dd (kl k ⟨#[]⟩) (bareL k.line.data.toList)).2.v, .int .i64 ((dd (kl k ⟨#[]⟩) (bareL k.line.data.toList)).1 : Nat)]) ∧ Below w.heap.size w w' := by
  have hX : Four ((w.alloc (.cells #[.int .i64 k.st, .string k.line, .int .i64 k.left, .int .i64 k.size] 30)).alloc (.cells #[.int .i64 0, .string ⟨#[]⟩, .int .i64 0, .int .i64 0] 30)) w.heap.size k := (Four.new w k).below ((Below.refl _ _).alloc (Nat.le_refl _) _)
  have hY : Four ((w.alloc (.cells #[.int .i64 k.st, .string k.line, .int .i64 k.left, .int .i64 k.size] 30)).alloc (.cells #[.int .i64 0, .string ⟨#[]⟩, .int .i64 0, .int .i64 0] 30)) (w.heap.size + 1) k0 := by
    have := Four.new (w.alloc (.cells #[.int .i64 k.st, .string k.line, .int .i64 k.left, .int .i64 k.size] 30)) k0
    rwa [show (w.alloc (.cells #[.int .i64 k.st, .string k.line, .int .i64 k.left, .int .i64 k.size] 30)).heap.size = w.heap.size + 1 by simp] at this
  have hB : Below w.heap.size w ((w.alloc (.cells #[.int .i64 k.st, .string k.line, .int .i64 k.left, .int .i64 k.size] 30)).alloc (.cells #[.int .i64 0, .string ⟨#[]⟩, .int .i64 0, .int .i64 0] 30)) := ((Below.refl _ _).alloc (Nat.le_refl _) _).alloc (by simp) _
  have hP : Pair4 w ((w.alloc (.cells #[.int .i64 k.st, .string k.line, .int .i64 k.left, .int .i64 k.size] 30)).alloc (.cells #[.int .i64 0, .string ⟨#[]⟩, .int .i64 0, .int .i64 0] 30)) k k0 := ⟨hX, hY, hB⟩
  clear hX hY hB
  have hql : (bareL k.line.data.toList).length ≤ 200 := by have := bareL_le k.line.data.toList; rw [size_list] at this; have := g.ln; omega
  generalize hqq : bareL k.line.data.toList = q at hql ⊢
  have hq := hide hqq
  clear hqq
  have HD : ∀ D, D = dd (kl k ⟨#[]⟩) q → Hid (D = dd (kl k ⟨#[]⟩) q) := fun D h => h
  generalize hdd : dd (kl k ⟨#[]⟩) q = D
  have HDD := hide hdd.symm
  clear hdd HD
  unfold K.v
  have hln := g.ln
  obtain ⟨c0, c1, c2, c3, -, cf⟩ := id hP.x
  go_enter Tryz.func68, Tryz.ntmps68
  go_upto_region 2 with fail
  generalize World.alloc _ _ = W0 at hP c0 c1 c2 c3 cf ⊢
  go_cut [20] (fun x wd => x = .bool (decide (k.line.data.toList.getLast? = some 13)) ∧ wd = W0)
  case first =>
    by_cases z : 0 < k.line.size
    · have hk : k.line.size - 1 < k.line.size := by omega
      have zz : (0 : Int) < k.line.size := by omega
      have hkz : ((k.line.size - 1 : Nat) : Int) = (k.line.size : Int) - 1 := by omega
      have hl : Hid (decide (k.line.data.toList.getLast? = some 13) = decide (k.line[k.line.size - 1]'hk = 13)) := by
        unfold Hid
        rw [List.getLast?_eq_getElem?, size_list, List.getElem?_eq_getElem (by rw [size_list]; omega), get_at k.line _ (by omega)]
        simp
      go_wp2_with fail
      go_meet
      have := nat_is (k.line[k.line.size - 1]'hk) 13 (by decide)
      rw [hl.out]
      exact ⟨congrArg Value.bool this, rfl⟩
    · have zz : ¬ (0 : Int) < k.line.size := by omega
      have hl : Hid (k.line.data.toList.getLast? = none) := by
        have : k.line.data.toList = [] := List.eq_nil_of_length_eq_zero (by rw [size_list]; omega)
        unfold Hid; rw [this]; rfl
      go_wp2_with fail
      go_meet
      rw [hl.out]
      exact ⟨rfl, rfl⟩
  case rest =>
    obtain ⟨rfl, rfl⟩ := hcut
    go_upto_if 20 with fail
    go_cut [4] (fun x wd => x = .string (bs q) ∧ wd = wc)
    case first =>
      have HB := hide (bs_list (bareL k.line.data.toList))
      by_cases hl : k.line.data.toList.getLast? = some 13
      · have z : 0 < k.line.size := by
          rw [← size_list]
          cases hh : k.line.data.toList with
          | nil => rw [hh] at hl; exact absurd hl (by simp)
          | cons a b => simp
        have zz : (0 : Int) < k.line.size := by omega
        have HE : Hid (k.line.extract 0 (k.line.size - 1) = bs q) := by
          unfold Hid
          rw [← hq.out]
          apply bytes_ext
          rw [bs_list, bareL, if_pos hl, ext_take, List.dropLast_eq_take, size_list]
        have hkz : ((k.line.size - 1 : Nat) : Int) = (k.line.size : Int) - 1 := by omega
        have hd : decide (k.line.data.toList.getLast? = some 13) = true := decide_eq_true hl
        go_wp2_with fail
        go_meet
        exact ⟨congrArg Value.string HE.out, rfl⟩
      · have hd : decide (k.line.data.toList.getLast? = some 13) = false := decide_eq_false hl
        have HE : Hid (k.line = bs q) := by
          unfold Hid
          rw [← hq.out]
          apply bytes_ext
          rw [bs_list, bareL, if_neg hl]
        go_wp2_with fail
        go_meet
        exact ⟨congrArg Value.string HE.out, rfl⟩
    case rest =>
      obtain ⟨rfl, rfl⟩ := hcut
      have HS := hide (bs_list q)
      have HZS := hide (bs_size q)
      have hSs : (bs q).size ≤ 200 := by rw [bs_size]; exact hql
      generalize bs q = S at HS HZS hSs ⊢
      obtain ⟨d0, d1, d2, d3, -, df⟩ := id hP.y
      have hP1 : Pair4 w (wc.setCell ⟨w.heap.size, 1, none⟩ (.string ⟨#[]⟩)) (kl k ⟨#[]⟩) k0 := ⟨hP.x.t1 _, hP.y.other _ _ _ (by omega), hP.b.setCell (Nat.le_refl _) _⟩
      go_upto_region 5 with fail
      generalize World.setCell _ _ _ = W1 at hP1 ⊢
      clear c0 c1 c2 c3 cf d0 d1 d2 d3 df hP
      obtain ⟨c0, c1, c2, c3, -, cf⟩ := id hP1.x
      obtain ⟨d0, d1, d2, d3, -, df⟩ := id hP1.y
      have hst : k.st = 0 ∨ k.st = 2 ∨ k.st = 3 := by have := g.s0; have := g.s4; omega
      unfold kl at c0 c1 c2 c3
      dsimp only at c0 c1 c2 c3
      have hz0 := g.z0
      have hz1 := g.z1
      have hle := g.lz h1
      rcases hst with hst | hst | hst
      · have s2 : (k.st == 2) = false := by rw [hst]; decide
        have s3 : (k.st == 3) = false := by rw [hst]; decide
        have HDE : Hid (D = if hexE q = 10 then (33, ⟨0, ⟨#[]⟩, 0, k.size⟩) else if hexE q ≠ 0 ∨ 20000 - k.size < (hexN q : Int) then (2, ⟨0, ⟨#[]⟩, 0, k.size⟩)
            else if hexN q = 0 then (0, ⟨3, ⟨#[]⟩, 0, k.size⟩) else (0, ⟨1, ⟨#[]⟩, (hexN q : Int), k.size⟩)) := by
          unfold Hid; rw [HDD.out]; unfold dd kl; simp only; rw [if_pos hst, hle, hst]
        clear HDD
        go_wp2_with fail
        go_loop [4, 5] (fun x y => ∃ (p : List UInt8) (i : Nat), x = .string (bs p) ∧ y = .int .i64 i ∧ i ≤ 300 ∧ Hid ((p = q ∧ i ≤ q.length ∧ ∀ c ∈ q.take i, neB 59 c = true) ∨ (p = q.takeWhile (neB 59) ∧ p.length < i))) (fun x y => strN x + 1 - (intOf y).toNat)
        case atStart => exact ⟨q, 0, congrArg Value.string (bytes_ext (by rw [bs_list]; exact HS.out)), rfl, by omega, Or.inl ⟨rfl, Nat.zero_le _, by simp⟩⟩
        case round =>
          obtain ⟨p, i, rfl, rfl, hi, hrr⟩ := hrel
          have hpz := bs_size p
          have hpl : p.length ≤ 200 := by
            rcases hrr.out with ⟨h, -, -⟩ | ⟨h, -⟩
            · rw [h]; exact hql
            · rw [h]; exact Nat.le_trans (takeWhile_le _ _) hql
          by_cases hlt : i < p.length
          · obtain ⟨hpq, hiq, hno⟩ : p = q ∧ i ≤ q.length ∧ ∀ c ∈ q.take i, neB 59 c = true := by
              rcases hrr.out with h | ⟨-, h⟩
              · exact h
              · omega
            have hzi : i < (bs p).size := by omega
            have hlq : i < q.length := by rw [← hpq]; exact hlt
            have hg : Hid ((bs p)[i]'hzi = q[i]'hlq) := by subst hpq; rfl
            have HX : Hid ((bs p).extract 0 i = bs (q.take i)) := by
              unfold Hid; subst hpq; apply bytes_ext; rw [bs_list, ext_take, bs_list]
            have HPQ := hide hpq
            have HNO := hide hno
            clear hno hpq
            by_cases h59 : q[i]'hlq = 59
            · have hb : ((((bs p)[i]'hzi).toNat : Int) == 59) = true := by rw [hg.out, h59]; decide
              have HTW : Hid (q.take i = q.takeWhile (neB 59)) := (tw_until q i hlq HNO.out (by rw [h59]; decide)).symm
              clear h59
              have hiz : (i : Int) ≤ (bs p).size := by omega
              go_wp2_with fail
              refine ⟨⟨q.take i, i + 1, congrArg Value.string HX.out, by go_num, by omega, Or.inr ⟨HTW.out, by rw [List.length_take]; omega⟩⟩, ?_⟩
              simp only [strN, intOf]
              rw [HX.out, bs_size, bs_size, List.length_take, HPQ.out]
              omega
            · have hb : ((((bs p)[i]'hzi).toNat : Int) == 59) = false := by rw [hg.out]; have := nat_is (q[i]'hlq) 59 (by decide); rw [show ((59 : Nat) : Int) = 59 from rfl] at this; rw [this]; exact decide_eq_false h59
              have HN : Hid (∀ c ∈ q.take (i + 1), neB 59 c = true) := by
                intro c hc
                rw [List.take_succ_eq_append_getElem hlq, List.mem_append] at hc
                rcases hc with hc | hc
                · exact HNO.out c hc
                · have : c = q[i] := by simpa using hc
                  rw [this]; unfold neB; simpa using h59
              clear h59
              go_wp2_with fail
              refine ⟨⟨p, i + 1, rfl, by go_num, by omega, Or.inl ⟨HPQ.out, by omega, HN.out⟩⟩, ?_⟩
              simp only [strN, intOf]
              omega
          · have HT : Hid (p = q.takeWhile (neB 59)) := by
              unfold Hid
              rcases hrr.out with ⟨h, h2, h3⟩ | ⟨h, -⟩
              · subst h
                rw [List.take_of_length_le (by omega)] at h3
                exact (tw_whole _ _ h3).symm
              · exact h
            have hlt' : ¬ ((i : Int) < (bs p).size) := by omega
            have b1 := trimS_size (bs p)
            have HEq : Hid (rdE 16 (trimS (bs p)).data.toList = hexE q) := by unfold Hid; rw [trimS_list, bs_list, HT.out]; rfl
            have HNq : Hid (rdN 16 (trimS (bs p)).data.toList = hexN q) := by unfold Hid; rw [trimS_list, bs_list, HT.out]; rfl
            have hM := rdN_le 16 (trimS (bs p)).data.toList
            rw [HNq.out] at hM
            have hE := hexE_cases q
            clear hlt hrr HT
            go_wp2_with fail
            refine (reftrim_any (bs p) _ (by omega)).mono ?_
            rintro en wx ⟨rfl, rfl⟩
            go_wp2_with fail
            refine (refRead16 (trimS (bs p)) _ (maxLen_of (by omega))).mono ?_
            rintro en wx ⟨rfl, rfl⟩
            rw [HEq.out, HNq.out]
            clear HEq HNq
            generalize hexE q = E at HDE hE ⊢
            generalize hexN q = M at HDE hM ⊢
            rcases hE with rfl | rfl | rfl
            · have HD : Hid (D = (33, ⟨0, ⟨#[]⟩, 0, k.size⟩)) := by unfold Hid; rw [HDE.out, if_pos rfl]
              clear HDE
              go_wp2_with fail
              change bodyPost _ _ _ _ _ (put4 wx (w.heap.size + 1) ⟨0, ⟨#[]⟩, 0, k.size⟩)
              have hZ := put4_four (hP1.y) ⟨0, ⟨#[]⟩, 0, k.size⟩
              have BZ := put4_below (hP1.b) (Nat.le_succ _) ⟨0, ⟨#[]⟩, 0, k.size⟩
              clear c0 c1 c2 c3 cf d0 d1 d2 d3 df
              generalize put4 _ (w.heap.size + 1) _ = W3 at hZ BZ ⊢
              obtain ⟨c0, c1, c2, c3, -, -⟩ := id hZ
              refine bodyPost_ret (v := .tuple #[K.v ⟨0, ⟨#[]⟩, 0, k.size⟩, .int .i64 33]) (by simp [results, Tryz.results68, go_sem, c0, c1, c2, c3, K.v]) rfl ⟨ret_ke (by rw [HD.out]) (by rw [HD.out]; rfl), BZ⟩
            · have HD : Hid (D = (2, ⟨0, ⟨#[]⟩, 0, k.size⟩)) := by unfold Hid; rw [HDE.out, if_neg (by decide), if_pos (Or.inl (by decide))]
              clear HDE
              go_wp2_with fail
              change bodyPost _ _ _ _ _ (put4 wx (w.heap.size + 1) ⟨0, ⟨#[]⟩, 0, k.size⟩)
              have hZ := put4_four (hP1.y) ⟨0, ⟨#[]⟩, 0, k.size⟩
              have BZ := put4_below (hP1.b) (Nat.le_succ _) ⟨0, ⟨#[]⟩, 0, k.size⟩
              clear c0 c1 c2 c3 cf d0 d1 d2 d3 df
              generalize put4 _ (w.heap.size + 1) _ = W3 at hZ BZ ⊢
              obtain ⟨c0, c1, c2, c3, -, -⟩ := id hZ
              refine bodyPost_ret (v := .tuple #[K.v ⟨0, ⟨#[]⟩, 0, k.size⟩, .int .i64 2]) (by simp [results, Tryz.results68, go_sem, c0, c1, c2, c3, K.v]) rfl ⟨ret_ke (by rw [HD.out]) (by rw [HD.out]; rfl), BZ⟩
            · by_cases g1 : 20000 - k.size < (M : Int)
              · have HD : Hid (D = (2, ⟨0, ⟨#[]⟩, 0, k.size⟩)) := by unfold Hid; rw [HDE.out, if_neg (by decide), if_pos (Or.inr g1)]
                clear HDE
                go_wp2_with fail
                change bodyPost _ _ _ _ _ (put4 wx (w.heap.size + 1) ⟨0, ⟨#[]⟩, 0, k.size⟩)
                have hZ := put4_four (hP1.y) ⟨0, ⟨#[]⟩, 0, k.size⟩
                have BZ := put4_below (hP1.b) (Nat.le_succ _) ⟨0, ⟨#[]⟩, 0, k.size⟩
                clear c0 c1 c2 c3 cf d0 d1 d2 d3 df
                generalize put4 _ (w.heap.size + 1) _ = W3 at hZ BZ ⊢
                obtain ⟨c0, c1, c2, c3, -, -⟩ := id hZ
                refine bodyPost_ret (v := .tuple #[K.v ⟨0, ⟨#[]⟩, 0, k.size⟩, .int .i64 2]) (by simp [results, Tryz.results68, go_sem, c0, c1, c2, c3, K.v]) rfl ⟨ret_ke (by rw [HD.out]) (by rw [HD.out]; rfl), BZ⟩
              · have hg1 : decide (20000 - k.size < (M : Int)) = false := decide_eq_false g1
                have hP2 : Pair4 w ((wx.setCell ⟨w.heap.size, 2, none⟩ (.int .i64 (M : Int))).setCell ⟨w.heap.size, 0, none⟩ (.int .i64 1)) ⟨1, ⟨#[]⟩, (M : Int), k.size⟩ k0 := ⟨(hP1.x.t2 _).t0 _, (hP1.y.other _ _ _ (by omega)).other _ _ _ (by omega), (hP1.b.setCell (Nat.le_refl _) _).setCell (Nat.le_refl _) _⟩
                go_upto_region 26 with fail
                generalize World.setCell _ _ _ = W2 at hP2 ⊢
                clear c0 c1 c2 c3 cf d0 d1 d2 d3 df
                obtain ⟨c0, c1, c2, c3, -, cf⟩ := id hP2.x
                obtain ⟨d0, d1, d2, d3, -, df⟩ := id hP2.y
                by_cases g2 : M = 0
                · have HD : Hid (D = (0, ⟨3, ⟨#[]⟩, 0, k.size⟩)) := by unfold Hid; rw [HDE.out, if_neg (by decide), if_neg (by simp; omega), if_pos g2]
                  subst g2
                  clear HDE
                  go_wp2_with fail
                  change bodyPost _ _ _ _ _ (put4 (W2.setCell ⟨w.heap.size, 0, none⟩ (.int .i64 3)) (w.heap.size + 1) ⟨3, ⟨#[]⟩, 0, k.size⟩)
                  have hZ := put4_four (hP2.y.other w.heap.size 0 (.int .i64 3) (by omega)) ⟨3, ⟨#[]⟩, 0, k.size⟩
                  have BZ := put4_below (hP2.b.setCell (p := ⟨w.heap.size, 0, none⟩) (Nat.le_refl _) (.int .i64 3)) (Nat.le_succ _) ⟨3, ⟨#[]⟩, 0, k.size⟩
                  clear c0 c1 c2 c3 cf d0 d1 d2 d3 df
                  generalize put4 _ (w.heap.size + 1) _ = W3 at hZ BZ ⊢
                  obtain ⟨c0, c1, c2, c3, -, -⟩ := id hZ
                  refine bodyPost_ret (v := .tuple #[K.v ⟨3, ⟨#[]⟩, 0, k.size⟩, .int .i64 0]) (by simp [results, Tryz.results68, go_sem, c0, c1, c2, c3, K.v]) rfl ⟨ret_ke (by rw [HD.out]) (by rw [HD.out]; rfl), BZ⟩
                · have HD : Hid (D = (0, ⟨1, ⟨#[]⟩, (M : Int), k.size⟩)) := by unfold Hid; rw [HDE.out, if_neg (by decide), if_neg (by simp; omega), if_neg g2]
                  have hg2 : ((M : Int) == 0) = false := by simpa using g2
                  clear HDE
                  go_wp2_with fail
                  change bodyPost _ _ _ _ _ (put4 W2 (w.heap.size + 1) ⟨1, ⟨#[]⟩, (M : Int), k.size⟩)
                  have hZ := put4_four (hP2.y) ⟨1, ⟨#[]⟩, (M : Int), k.size⟩
                  have BZ := put4_below (hP2.b) (Nat.le_succ _) ⟨1, ⟨#[]⟩, (M : Int), k.size⟩
                  clear c0 c1 c2 c3 cf d0 d1 d2 d3 df
                  generalize put4 _ (w.heap.size + 1) _ = W3 at hZ BZ ⊢
                  obtain ⟨c0, c1, c2, c3, -, -⟩ := id hZ
                  refine bodyPost_ret (v := .tuple #[K.v ⟨1, ⟨#[]⟩, (M : Int), k.size⟩, .int .i64 0]) (by simp [results, Tryz.results68, go_sem, c0, c1, c2, c3, K.v]) rfl ⟨ret_ke (by rw [HD.out]) (by rw [HD.out]; rfl), BZ⟩
      · have s2 : (k.st == 2) = true := by rw [hst]; decide
        by_cases hqe : q = []
        · have he := empty_of (s := S) (by rw [HS.out]; exact hqe)
          have HD : Hid (D = (0, ⟨0, ⟨#[]⟩, 0, k.size⟩)) := by
            unfold Hid; rw [HDD.out]; unfold dd kl; simp only; rw [if_neg (by rw [hst]; decide), if_pos hst, if_pos hqe, hle]
          clear HDD
          go_wp2_with fail
          change bodyPost _ _ _ _ _ (put4 (W1.setCell ⟨w.heap.size, 0, none⟩ (.int .i64 0)) (w.heap.size + 1) ⟨0, ⟨#[]⟩, 0, k.size⟩)
          have hZ := put4_four (hP1.y.other w.heap.size 0 (.int .i64 0) (by omega)) ⟨0, ⟨#[]⟩, 0, k.size⟩
          have BZ := put4_below (hP1.b.setCell (p := ⟨w.heap.size, 0, none⟩) (Nat.le_refl _) (.int .i64 0)) (Nat.le_succ _) ⟨0, ⟨#[]⟩, 0, k.size⟩
          clear c0 c1 c2 c3 cf d0 d1 d2 d3 df
          generalize put4 _ (w.heap.size + 1) _ = W3 at hZ BZ ⊢
          obtain ⟨c0, c1, c2, c3, -, -⟩ := id hZ
          refine bodyPost_ret (v := .tuple #[K.v ⟨0, ⟨#[]⟩, 0, k.size⟩, .int .i64 0]) (by simp [results, Tryz.results68, go_sem, c0, c1, c2, c3, K.v]) rfl ⟨ret_ke (by rw [HD.out]) (by rw [HD.out]; rfl), BZ⟩
        · have he := empty_not (s := S) (by rw [HS.out]; exact hqe)
          have HD : Hid (D = (33, ⟨2, ⟨#[]⟩, 0, k.size⟩)) := by
            unfold Hid; rw [HDD.out]; unfold dd kl; simp only; rw [if_neg (by rw [hst]; decide), if_pos hst, if_neg hqe, hst, hle]
          clear HDD
          go_wp2_with fail
          change bodyPost _ _ _ _ _ (put4 W1 (w.heap.size + 1) ⟨2, ⟨#[]⟩, 0, k.size⟩)
          have hZ := put4_four (hP1.y) ⟨2, ⟨#[]⟩, 0, k.size⟩
          have BZ := put4_below (hP1.b) (Nat.le_succ _) ⟨2, ⟨#[]⟩, 0, k.size⟩
          clear c0 c1 c2 c3 cf d0 d1 d2 d3 df
          generalize put4 _ (w.heap.size + 1) _ = W3 at hZ BZ ⊢
          obtain ⟨c0, c1, c2, c3, -, -⟩ := id hZ
          refine bodyPost_ret (v := .tuple #[K.v ⟨2, ⟨#[]⟩, 0, k.size⟩, .int .i64 33]) (by simp [results, Tryz.results68, go_sem, c0, c1, c2, c3, K.v]) rfl ⟨ret_ke (by rw [HD.out]) (by rw [HD.out]; rfl), BZ⟩
      · have s2 : (k.st == 2) = false := by rw [hst]; decide
        have s3 : (k.st == 3) = true := by rw [hst]; decide
        by_cases hqe : q = []
        · have he := empty_of (s := S) (by rw [HS.out]; exact hqe)
          have HD : Hid (D = (0, ⟨4, ⟨#[]⟩, 0, k.size⟩)) := by
            unfold Hid; rw [HDD.out]; unfold dd kl; simp only; rw [if_neg (by rw [hst]; decide), if_neg (by rw [hst]; decide), if_pos hqe, hle]
          clear HDD
          go_wp2_with fail
          change bodyPost _ _ _ _ _ (put4 (W1.setCell ⟨w.heap.size, 0, none⟩ (.int .i64 4)) (w.heap.size + 1) ⟨4, ⟨#[]⟩, 0, k.size⟩)
          have hZ := put4_four (hP1.y.other w.heap.size 0 (.int .i64 4) (by omega)) ⟨4, ⟨#[]⟩, 0, k.size⟩
          have BZ := put4_below (hP1.b.setCell (p := ⟨w.heap.size, 0, none⟩) (Nat.le_refl _) (.int .i64 4)) (Nat.le_succ _) ⟨4, ⟨#[]⟩, 0, k.size⟩
          clear c0 c1 c2 c3 cf d0 d1 d2 d3 df
          generalize put4 _ (w.heap.size + 1) _ = W3 at hZ BZ ⊢
          obtain ⟨c0, c1, c2, c3, -, -⟩ := id hZ
          refine bodyPost_ret (v := .tuple #[K.v ⟨4, ⟨#[]⟩, 0, k.size⟩, .int .i64 0]) (by simp [results, Tryz.results68, go_sem, c0, c1, c2, c3, K.v]) rfl ⟨ret_ke (by rw [HD.out]) (by rw [HD.out]; rfl), BZ⟩
        · have he := empty_not (s := S) (by rw [HS.out]; exact hqe)
          have HD : Hid (D = (0, ⟨3, ⟨#[]⟩, 0, k.size⟩)) := by
            unfold Hid; rw [HDD.out]; unfold dd kl; simp only; rw [if_neg (by rw [hst]; decide), if_neg (by rw [hst]; decide), if_neg hqe, hst, hle]
          clear HDD
          go_wp2_with fail
          change bodyPost _ _ _ _ _ (put4 W1 (w.heap.size + 1) ⟨3, ⟨#[]⟩, 0, k.size⟩)
          have hZ := put4_four (hP1.y) ⟨3, ⟨#[]⟩, 0, k.size⟩
          have BZ := put4_below (hP1.b) (Nat.le_succ _) ⟨3, ⟨#[]⟩, 0, k.size⟩
          clear c0 c1 c2 c3 cf d0 d1 d2 d3 df
          generalize put4 _ (w.heap.size + 1) _ = W3 at hZ BZ ⊢
          obtain ⟨c0, c1, c2, c3, -, -⟩ := id hZ
          refine bodyPost_ret (v := .tuple #[K.v ⟨3, ⟨#[]⟩, 0, k.size⟩, .int .i64 0]) (by simp [results, Tryz.results68, go_sem, c0, c1, c2, c3, K.v]) rfl ⟨ret_ke (by rw [HD.out]) (by rw [HD.out]; rfl), BZ⟩

end Go.Proofs.YtmpijlaidnhpnaaGreat.Ck

namespace Go.Proofs.YtmpijlaidnhpnaaGreat.Ck
set_option linter.unusedVariables false
set_option linter.unusedSimpArgs false
set_option maxRecDepth 100000
open Go.RowKit

set_option maxHeartbeats 2000000 in
theorem refright8_any (w : World) :
    Calls Tryz.prog 53 #[k0.v] w fun e w' => e = .returned (.bool true) ∧ Below w.heap.size w w' := by
  have hX : Four (w.alloc (.cells #[.int .i64 0, .string ⟨#[]⟩, .int .i64 0, .int .i64 0] 30)) w.heap.size k0 := Four.new w k0
  have hB : Below w.heap.size w (w.alloc (.cells #[.int .i64 0, .string ⟨#[]⟩, .int .i64 0, .int .i64 0] 30)) := (Below.refl _ _).alloc (Nat.le_refl _) _
  unfold K.v k0
  unfold k0 at hX
  obtain ⟨c0, c1, c2, c3, -, cf⟩ := id hX
  dsimp only at c0 c1 c2 c3
  have he : (ByteArray.toList ⟨#[]⟩).isEmpty = true := empty_of (s := ⟨#[]⟩) rfl
  go_enter Tryz.func53, Tryz.ntmps53
  go_upto_region 1 with fail
  generalize World.alloc _ _ = W at hX hB c0 c1 c2 c3 cf ⊢
  go_wp2_with fail
  go_loop [3] (fun i => i = .int .i64 0) (fun i => 0)
  case atStart => rfl
  case round =>
    subst hrel
    have hz : (⟨#[]⟩ : ByteArray).size = 0 := rfl
    go_wp2_with fail
    go_ret
    exact ⟨rfl, hB⟩

/-- What one byte does. -/
def stp (k : K) (b : UInt8) : Nat × K × List UInt8 :=
  if k.st = 1 then (0, kd k 1, [b])
  else if b = 10 then ((dd (kl k ⟨#[]⟩) (bareL k.line.data.toList)).1, (dd (kl k ⟨#[]⟩) (bareL k.line.data.toList)).2, [])
  else if 200 ≤ k.line.size then (33, k, [])
  else (0, kl k (k.line ++ bs [b]), [])
theorem ret_stp {a : K} {x : ByteArray} {y : Int} {q : Nat × K × List UInt8} (h : q.2.1 = a) (g : bs q.2.2 = x) (e : (q.1 : Int) = y) : Ending.returned (.tuple #[a.v, .string x, .int .i64 y]) = .returned (.tuple #[q.2.1.v, .string (bs q.2.2), .int .i64 (q.1 : Nat)]) := by rw [h, g, e]
theorem one_cell (c : UInt8) (W : World) (n : Nat) (h : W.cell? ⟨n, 0, none⟩ = some (.int .u8 (c.toNat : Int))) : Sem.run Tryz.prog (convert 55 9 (.slice (some ⟨n, 0, none⟩) 1 1)) W = .ok (.string ⟨#[c]⟩) W :=
  run_convert_bytes_back (P := Tryz.prog) _ 55 9 5 ⟨n, 0, none⟩ 1 [c] Tryz.underlying55 Tryz.underlying5 Tryz.underlying9 (fun j hj => by
    obtain rfl : j = 0 := by simpa using hj
    simpa [add_none] using h)
set_option maxHeartbeats 4000000 in
theorem refstep_any (k : K) (b : UInt8) (w : World) (g : Good k) (h4 : k.st ≠ 4) :
    Calls Tryz.prog 54 #[k.v, .int .u8 (b.toNat : Int)] w fun e w' => e = .returned (.tuple #[(stp k b).2.1.v, .string (bs (stp k b).2.2), .int .i64 ((stp k b).1 : Nat)]) ∧ Below w.heap.size w w' := by
  have hX : Four ((w.alloc (.cells #[.int .i64 k.st, .string k.line, .int .i64 k.left, .int .i64 k.size] 30)).alloc (.cells #[.int .i64 0, .string ⟨#[]⟩, .int .i64 0, .int .i64 0] 30)) w.heap.size k := (Four.new w k).below ((Below.refl _ _).alloc (Nat.le_refl _) _)
  have hY : Four ((w.alloc (.cells #[.int .i64 k.st, .string k.line, .int .i64 k.left, .int .i64 k.size] 30)).alloc (.cells #[.int .i64 0, .string ⟨#[]⟩, .int .i64 0, .int .i64 0] 30)) (w.heap.size + 1) k0 := by
    have := Four.new (w.alloc (.cells #[.int .i64 k.st, .string k.line, .int .i64 k.left, .int .i64 k.size] 30)) k0
    rwa [show (w.alloc (.cells #[.int .i64 k.st, .string k.line, .int .i64 k.left, .int .i64 k.size] 30)).heap.size = w.heap.size + 1 by simp] at this
  have hB : Below w.heap.size w ((w.alloc (.cells #[.int .i64 k.st, .string k.line, .int .i64 k.left, .int .i64 k.size] 30)).alloc (.cells #[.int .i64 0, .string ⟨#[]⟩, .int .i64 0, .int .i64 0] 30)) := ((Below.refl _ _).alloc (Nat.le_refl _) _).alloc (by simp) _
  have hP : Pair4 w ((w.alloc (.cells #[.int .i64 k.st, .string k.line, .int .i64 k.left, .int .i64 k.size] 30)).alloc (.cells #[.int .i64 0, .string ⟨#[]⟩, .int .i64 0, .int .i64 0] 30)) k k0 := ⟨hX, hY, hB⟩
  clear hX hY hB
  have hz0 := g.z0
  have hz1 := g.z1
  have hln := g.ln
  by_cases h1 : k.st = 1
  · have HS : Hid (stp k b = (0, kd k 1, [b])) := by unfold Hid stp; rw [if_pos h1]
    have hlf := g.lf h1
    unfold K.v
    generalize stp k b = Q at HS ⊢
    obtain ⟨c0, c1, c2, c3, -, cf⟩ := id hP.x
    have HH1 := hide h1
    clear h1
    go_enter Tryz.func54, Tryz.ntmps54
    go_upto_region 1 with fail
    generalize World.alloc _ _ = W0 at hP c0 c1 c2 c3 cf ⊢
    rw [HH1.out] at c0
    have hP1 : Pair4 w (W0.setCell ⟨w.heap.size, 3, none⟩ (.int .i64 (k.size + 1))) ⟨k.st, k.line, k.left, k.size + 1⟩ k0 := ⟨hP.x.t3 _, hP.y.other _ _ _ (by omega), hP.b.setCell (Nat.le_refl _) _⟩
    go_upto_region 3 with fail
    generalize World.setCell _ _ _ = W1 at hP1 ⊢
    clear c0 c1 c2 c3 cf hP
    obtain ⟨c0, c1, c2, c3, -, cf⟩ := id hP1.x
    dsimp only at c0 c1 c2 c3
    have hP2 : Pair4 w (W1.setCell ⟨w.heap.size, 2, none⟩ (.int .i64 (k.left - 1))) ⟨k.st, k.line, k.left - 1, k.size + 1⟩ k0 := ⟨hP1.x.t2 _, hP1.y.other _ _ _ (by omega), hP1.b.setCell (Nat.le_refl _) _⟩
    go_upto_region 4 with fail
    generalize World.setCell _ _ _ = W2 at hP2 ⊢
    clear c0 c1 c2 c3 cf hP1
    obtain ⟨c0, c1, c2, c3, -, cf⟩ := id hP2.x
    dsimp only at c0 c1 c2 c3
    by_cases h0 : k.left - 1 = 0
    · have hk : kd k 1 = ⟨2, k.line, 0, k.size + 1⟩ := by unfold kd; rw [if_pos (by simpa using h0)]; simp; omega
      rw [h0] at hP2
      have hP3 : Pair4 w (W2.setCell ⟨w.heap.size, 0, none⟩ (.int .i64 2)) ⟨2, k.line, 0, k.size + 1⟩ k0 := ⟨hP2.x.t0 _, hP2.y.other _ _ _ (by omega), hP2.b.setCell (Nat.le_refl _) _⟩
      have HK := hide hk
      have hd : (k.left - 1 == 0) = true := by simpa using h0
      clear hk h0
      go_upto_region 6 with fail
      generalize World.setCell _ _ _ = W3 at hP3 ⊢
      clear c0 c1 c2 c3 cf hP2
      obtain ⟨c0, c1, c2, c3, -, cf⟩ := id hP3.x
      obtain ⟨d0, d1, d2, d3, -, df⟩ := id hP3.y
      dsimp only at c0 c1 c2 c3
      unfold k0 at d0 d1 d2 d3
      have hcv := one_cell b
      have hlx := hP3.x.lt
      have hly := hP3.y.lt
      go_region
      go_wp2_with fail
      change bodyPost _ _ _ _ _ (((put4 W3 (w.heap.size + 1) ⟨2, k.line, 0, k.size + 1⟩).alloc (.cells #[.int .u8 (b.toNat : Int)] 5)).drew)
      have hZ := put4_four hP3.y ⟨2, k.line, 0, k.size + 1⟩
      have BZ := put4_below hP3.b (Nat.le_succ _) ⟨2, k.line, 0, k.size + 1⟩
      clear c0 c1 c2 c3 cf d0 d1 d2 d3 df hlx hly
      generalize put4 _ _ _ = W5 at hZ BZ ⊢
      replace hZ := (hZ.below ((Below.refl _ _).alloc (Nat.le_refl _) (.cells #[.int .u8 (b.toNat : Int)] 5))).drew
      replace BZ := (BZ.alloc BZ.size (.cells #[.int .u8 (b.toNat : Int)] 5)).drew
      generalize (World.alloc W5 _).drew = W6 at hZ BZ ⊢
      obtain ⟨c0, c1, c2, c3, -, -⟩ := id hZ
      refine bodyPost_ret (v := .tuple #[K.v ⟨2, k.line, 0, k.size + 1⟩, .string ⟨#[b]⟩, .int .i64 0]) (by simp [results, Tryz.results54, go_sem, c0, c1, c2, c3, K.v]) rfl ⟨ret_stp (by rw [HS.out]; exact HK.out) (by rw [HS.out]; rfl) (by rw [HS.out]; rfl), BZ⟩
    · have hk : kd k 1 = ⟨1, k.line, k.left - 1, k.size + 1⟩ := by unfold kd; rw [if_neg (by simpa using h0)]; rfl
      have HK := hide hk
      have hd : (k.left - 1 == 0) = false := by simpa using h0
      clear hk h0
      rw [HH1.out] at hP2
      go_upto_region 6 with fail
      clear c0 c1 c2 c3 cf
      obtain ⟨c0, c1, c2, c3, -, cf⟩ := id hP2.x
      obtain ⟨d0, d1, d2, d3, -, df⟩ := id hP2.y
      dsimp only at c0 c1 c2 c3
      unfold k0 at d0 d1 d2 d3
      have hcv := one_cell b
      have hlx := hP2.x.lt
      have hly := hP2.y.lt
      go_region
      go_wp2_with fail
      change bodyPost _ _ _ _ _ (((put4 W2 (w.heap.size + 1) ⟨1, k.line, k.left - 1, k.size + 1⟩).alloc (.cells #[.int .u8 (b.toNat : Int)] 5)).drew)
      have hZ := put4_four hP2.y ⟨1, k.line, k.left - 1, k.size + 1⟩
      have BZ := put4_below hP2.b (Nat.le_succ _) ⟨1, k.line, k.left - 1, k.size + 1⟩
      clear c0 c1 c2 c3 cf d0 d1 d2 d3 df hlx hly
      generalize put4 _ _ _ = W5 at hZ BZ ⊢
      replace hZ := (hZ.below ((Below.refl _ _).alloc (Nat.le_refl _) (.cells #[.int .u8 (b.toNat : Int)] 5))).drew
      replace BZ := (BZ.alloc BZ.size (.cells #[.int .u8 (b.toNat : Int)] 5)).drew
      generalize (World.alloc W5 _).drew = W6 at hZ BZ ⊢
      obtain ⟨c0, c1, c2, c3, -, -⟩ := id hZ
      refine bodyPost_ret (v := .tuple #[K.v ⟨1, k.line, k.left - 1, k.size + 1⟩, .string ⟨#[b]⟩, .int .i64 0]) (by simp [results, Tryz.results54, go_sem, c0, c1, c2, c3, K.v]) rfl ⟨ret_stp (by rw [HS.out]; exact HK.out) (by rw [HS.out]; rfl) (by rw [HS.out]; rfl), BZ⟩
  · have hb1 : (k.st == 1) = false := by simpa using h1
    obtain ⟨c0, c1, c2, c3, -, cf⟩ := id hP.x
    obtain ⟨d0, d1, d2, d3, -, df⟩ := id hP.y
    have hlx := hP.x.lt
    have hly := hP.y.lt
    by_cases h10 : b = 10
    · have HS : Hid (stp k b = ((dd (kl k ⟨#[]⟩) (bareL k.line.data.toList)).1, (dd (kl k ⟨#[]⟩) (bareL k.line.data.toList)).2, [])) := by unfold Hid stp; rw [if_neg h1, if_pos h10]
      have t10 : ((b.toNat : Int) == 10) = true := by rw [h10]; decide
      have hln := fun W => refline8_any k W g h1 h4
      generalize stp k b = Q at HS ⊢
      generalize dd (kl k ⟨#[]⟩) (bareL k.line.data.toList) = D at HS hln
      unfold K.v at hln ⊢
      clear h1 h10 h4
      go_enter Tryz.func54, Tryz.ntmps54
      go_upto_region 1 with fail
      generalize World.alloc _ _ = W0 at hP c0 c1 c2 c3 cf d0 d1 d2 d3 df hlx hly ⊢
      go_wp2_with fail
      refine (hln _).mono ?_
      rintro en w3 ⟨rfl, hb3⟩
      have hP3 : Pair4 w w3 k k0 := ⟨hP.x.below hb3, hP.y.below hb3, hP.b.trans (hb3.mono hP.b.size)⟩
      clear hP c0 c1 c2 c3 cf d0 d1 d2 d3 df hlx hly hb3
      obtain ⟨d0, d1, d2, d3, -, df⟩ := id hP3.y
      have hly := hP3.y.lt
      go_upto_region 9 with fail
      have hA := Four.new w3 D.2
      have hP4 : Pair4 w (w3.alloc (.cells D.2.cs.toArray 30)) k k0 := ⟨hP3.x.below ((Below.refl _ _).alloc (Nat.le_refl _) _), hP3.y.below ((Below.refl _ _).alloc (Nat.le_refl _) _), hP3.b.alloc hP3.b.size _⟩
      unfold K.cs at hA hP4
      clear hP3 d0 d1 d2 d3 df
      generalize World.alloc _ _ = W4 at hA hP4 ⊢
      have hne : w.heap.size + 1 ≠ w3.heap.size := by omega
      generalize w3.heap.size = M at hA hne ⊢
      obtain ⟨c0, c1, c2, c3, -, cf⟩ := id hA
      obtain ⟨d0, d1, d2, d3, -, df⟩ := id hP4.y
      go_wp2_with fail
      change bodyPost _ _ _ _ _ (put4 W4 (w.heap.size + 1) D.2)
      have hZ := put4_four hP4.y D.2
      have BZ := put4_below hP4.b (Nat.le_succ _) D.2
      clear c0 c1 c2 c3 cf d0 d1 d2 d3 df
      generalize put4 _ _ _ = W5 at hZ BZ ⊢
      obtain ⟨c0, c1, c2, c3, -, -⟩ := id hZ
      refine bodyPost_ret (v := .tuple #[K.v D.2, .string ⟨#[]⟩, .int .i64 (D.1 : Nat)]) (by simp [results, Tryz.results54, go_sem, c0, c1, c2, c3, K.v]) rfl ⟨ret_stp (by rw [HS.out]) (by rw [HS.out]; rfl) (by rw [HS.out]), BZ⟩
    · have t10 : ((b.toNat : Int) == 10) = false := by have := nat_is b 10 (by decide); rw [show ((10 : Nat) : Int) = 10 from rfl] at this; rw [this]; exact decide_eq_false h10
      by_cases h200 : 200 ≤ k.line.size
      · have HS : Hid (stp k b = (33, k, [])) := by unfold Hid stp; rw [if_neg h1, if_neg h10, if_pos h200]
        have t200 : ((k.line.size : Int) == 200) = true := by simp; omega
        generalize stp k b = Q at HS ⊢
        unfold K.v
        clear h1 h10 h4 h200
        go_enter Tryz.func54, Tryz.ntmps54
        go_upto_region 1 with fail
        generalize World.alloc _ _ = W0 at hP c0 c1 c2 c3 cf d0 d1 d2 d3 df hlx hly ⊢
        go_wp2_with fail
        change bodyPost _ _ _ _ _ (put4 W0 (w.heap.size + 1) k)
        have hZ := put4_four hP.y k
        have BZ := put4_below hP.b (Nat.le_succ _) k
        clear c0 c1 c2 c3 cf d0 d1 d2 d3 df hlx hly
        generalize put4 _ _ _ = W5 at hZ BZ ⊢
        obtain ⟨c0, c1, c2, c3, -, -⟩ := id hZ
        refine bodyPost_ret (v := .tuple #[K.v k, .string ⟨#[]⟩, .int .i64 33]) (by simp [results, Tryz.results54, go_sem, c0, c1, c2, c3, K.v]) rfl ⟨ret_stp (by rw [HS.out]) (by rw [HS.out]; rfl) (by rw [HS.out]; rfl), BZ⟩
      · have HS : Hid (stp k b = (0, kl k (k.line ++ ⟨#[b]⟩), [])) := by unfold Hid stp; rw [if_neg h1, if_neg h10, if_neg h200]; rfl
        have t200 : ((k.line.size : Int) == 200) = false := by simp; omega
        have hcv := one_cell b
        generalize stp k b = Q at HS ⊢
        unfold K.v
        clear h1 h10 h4 h200
        go_enter Tryz.func54, Tryz.ntmps54
        go_upto_region 1 with fail
        generalize World.alloc _ _ = W0 at hP c0 c1 c2 c3 cf d0 d1 d2 d3 df hlx hly ⊢
        have hP1 : Pair4 w ((W0.setCell ⟨w.heap.size, 1, none⟩ (.string (k.line ++ ⟨#[b]⟩))).alloc (.cells #[.int .u8 (b.toNat : Int)] 5)) (kl k (k.line ++ ⟨#[b]⟩)) k0 :=
          ⟨(hP.x.t1 _).below ((Below.refl _ _).alloc (Nat.le_refl _) _), (hP.y.other _ _ _ (by omega)).below ((Below.refl _ _).alloc (Nat.le_refl _) _), (hP.b.setCell (Nat.le_refl _) _).alloc (by rw [World.size_setCell]; exact hP.b.size) _⟩
        go_upto_region 13 with fail
        generalize World.alloc _ _ = W1 at hP1 ⊢
        generalize k.line ++ (⟨#[b]⟩ : ByteArray) = X at hP1 HS ⊢
        clear c0 c1 c2 c3 cf d0 d1 d2 d3 df hlx hly hP
        obtain ⟨c0, c1, c2, c3, -, cf⟩ := id hP1.x
        obtain ⟨d0, d1, d2, d3, -, df⟩ := id hP1.y
        unfold kl at c0 c1 c2 c3
        dsimp only at c0 c1 c2 c3
        go_wp2_with fail
        change bodyPost _ _ _ _ _ (put4 W1 (w.heap.size + 1) (⟨k.st, X, k.left, k.size⟩ : K))
        have hZ := put4_four hP1.y (⟨k.st, X, k.left, k.size⟩ : K)
        have BZ := put4_below hP1.b (Nat.le_succ _) (⟨k.st, X, k.left, k.size⟩ : K)
        clear c0 c1 c2 c3 cf d0 d1 d2 d3 df
        generalize put4 _ _ _ = W5 at hZ BZ ⊢
        obtain ⟨c0, c1, c2, c3, -, -⟩ := id hZ
        refine bodyPost_ret (v := .tuple #[K.v ⟨k.st, X, k.left, k.size⟩, .string ⟨#[]⟩, .int .i64 0]) (by simp [results, Tryz.results54, go_sem, c0, c1, c2, c3, K.v]) rfl ⟨ret_stp (by rw [HS.out]; rfl) (by rw [HS.out]; rfl) (by rw [HS.out]; rfl), BZ⟩

end Go.Proofs.YtmpijlaidnhpnaaGreat.Ck

namespace Go.Proofs.YtmpijlaidnhpnaaGreat.Ck
set_option linter.unusedVariables false
set_option linter.unusedSimpArgs false
set_option maxRecDepth 100000
open Go.RowKit

theorem run_stp {q : K} (h4 : q.st ≠ 4) (c : UInt8) (s : List UInt8) : run q (c :: s) = if (stp q c).1 = 0 then (run (stp q c).2.1 s).on (stp q c).2.2 else bad (stp q c).1 := by
  rw [run, if_neg h4]
  unfold stp
  by_cases h1 : q.st = 1
  · rw [if_pos h1, if_pos h1, if_pos rfl]
  · rw [if_neg h1, if_neg h1]
    by_cases h10 : c = 10
    · rw [if_pos h10, if_pos h10, on_nil]
    · rw [if_neg h10, if_neg h10]
      by_cases h2 : 200 ≤ q.line.size
      · rw [if_pos h2, if_pos h2, if_neg (show ¬ (33 : Nat) = 0 by decide)]
      · rw [if_neg h2, if_neg h2, if_pos rfl, on_nil]
theorem good_stp {q : K} (g : Good q) (h4 : q.st ≠ 4) (c : UInt8) (h : (stp q c).1 = 0) : Good (stp q c).2.1 := by
  unfold stp at h ⊢
  by_cases h1 : q.st = 1
  · rw [if_pos h1]
    exact good_kd g h1 (by have := (g.lf h1).1; omega)
  · rw [if_neg h1] at h ⊢
    by_cases h10 : c = 10
    · rw [if_pos h10] at h ⊢
      exact good_dd (k := kl q ⟨#[]⟩) (good_kl g h1 h4 (x := ⟨#[]⟩) (by decide) (by simp)) h1 h4 rfl _ h
    · rw [if_neg h10] at h ⊢
      by_cases h2 : 200 ≤ q.line.size
      · rw [if_pos h2] at h; exact absurd (show (33 : Nat) = 0 from h) (by decide)
      · rw [if_neg h2]
        refine good_kl g h1 h4 (by rw [app_size, bs_size]; simp; omega) ?_
        intro d hd
        rw [show (q.line ++ bs [c]).data.toList = q.line.data.toList ++ [c] by simp [bs]] at hd
        rcases List.mem_append.1 hd with hd | hd
        · exact g.no d hd
        · obtain rfl : d = c := by simpa using hd
          unfold neB; simpa using h10
theorem stp_len (q : K) (c : UInt8) : (stp q c).2.2.length ≤ 1 := by
  unfold stp; repeat' split
  all_goals simp
theorem four_new0 (w : World) : Four (w.alloc (.cells #[.int .i64 0, .string ⟨#[]⟩, .int .i64 0, .int .i64 0] 30)) w.heap.size k0 := Four.new w k0
theorem fd0 (s : List UInt8) : fd k0 s = run k0 s := by unfold fd; rw [if_pos ((rt_good k0).2 good0)]

set_option maxHeartbeats 8000000 in
theorem reffeed8_any (s : List UInt8) (w : World) (hs : s.length ≤ 100000) :
    Calls Tryz.prog 39 #[k0.v, .string (bs s)] w fun e w' => e = .returned (fdV k0 s) ∧ Below w.heap.size w w' := by
  have hX : Four ((w.alloc (.cells #[.int .i64 0, .string ⟨#[]⟩, .int .i64 0, .int .i64 0] 30)).alloc (.cells #[.int .i64 0, .string ⟨#[]⟩, .int .i64 0, .int .i64 0] 30)) w.heap.size k0 := (Four.new w k0).below ((Below.refl _ _).alloc (Nat.le_refl _) _)
  have hY : Four ((w.alloc (.cells #[.int .i64 0, .string ⟨#[]⟩, .int .i64 0, .int .i64 0] 30)).alloc (.cells #[.int .i64 0, .string ⟨#[]⟩, .int .i64 0, .int .i64 0] 30)) (w.heap.size + 1) k0 := by
    have := Four.new (w.alloc (.cells #[.int .i64 0, .string ⟨#[]⟩, .int .i64 0, .int .i64 0] 30)) k0
    rwa [show (w.alloc (.cells #[.int .i64 0, .string ⟨#[]⟩, .int .i64 0, .int .i64 0] 30)).heap.size = w.heap.size + 1 by simp] at this
  have hB : Below w.heap.size w ((w.alloc (.cells #[.int .i64 0, .string ⟨#[]⟩, .int .i64 0, .int .i64 0] 30)).alloc (.cells #[.int .i64 0, .string ⟨#[]⟩, .int .i64 0, .int .i64 0] 30)) := ((Below.refl _ _).alloc (Nat.le_refl _) _).alloc (by simp) _
  have hP : Pair4 w ((w.alloc (.cells #[.int .i64 0, .string ⟨#[]⟩, .int .i64 0, .int .i64 0] 30)).alloc (.cells #[.int .i64 0, .string ⟨#[]⟩, .int .i64 0, .int .i64 0] 30)) k0 k0 := ⟨hX, hY, hB⟩
  clear hX hY hB
  have HS := hide (bs_list s)
  have hz := bs_size s
  generalize bs s = S at HS hz ⊢
  have hzS : (S.size : Int) ≤ 100000 := by omega
  have HV : ∀ V, V = fdV k0 s → Hid (V = fdV k0 s) := fun V h => h
  obtain ⟨V, hV⟩ : ∃ V, V = fdV k0 s := ⟨_, rfl⟩
  rw [← hV]
  replace HV := HV V hV
  clear hV
  unfold K.v k0
  have hr := refright8_any
  unfold K.v k0 at hr
  dsimp only at hr
  obtain ⟨c0, c1, c2, c3, -, cf⟩ := id hP.x
  unfold k0 at c0 c1 c2 c3
  dsimp only at c0 c1 c2 c3
  go_enter Tryz.func39, Tryz.ntmps39
  go_upto_region 1 with fail
  generalize World.alloc _ _ = W0 at hP c0 c1 c2 c3 cf ⊢
  go_wp2_with fail
  refine (hr _).mono ?_
  rintro en w1 ⟨rfl, hb1⟩
  have hP1 : Pair4 w w1 k0 k0 := ⟨hP.x.below hb1, hP.y.below hb1, hP.b.trans (hb1.mono hP.b.size)⟩
  clear hP c0 c1 c2 c3 cf hb1 hr
  go_wp2_with fail
  go_loopw [8, 9, 10, 11, 12] (fun s8 s9 _ _ _ wr => ∃ (q : K) (D : List UInt8) (i : Nat), s8 = .string (bs D) ∧ s9 = .int .i64 i ∧ Pair4 w wr q k0 ∧ Good q ∧ i ≤ S.size ∧ D.length ≤ i ∧ Hid (run k0 s = (run q (s.drop i)).on D)) (fun _ s9 _ _ _ _ => S.size - (intOf s9).toNat)
  case atStart => exact ⟨k0, [], 0, rfl, rfl, hP1, good0, Nat.zero_le _, by simp, (on_nil _).symm⟩
  case round =>
    clear hP1
    obtain ⟨q, D, i, rfl, rfl, hP, hg, hi, hD, hR⟩ := hrel
    obtain ⟨c0, c1, c2, c3, -, cf⟩ := id hP.x
    obtain ⟨d0, d1, d2, d3, -, df⟩ := id hP.y
    have hlx := hP.x.lt
    have hly := hP.y.lt
    by_cases hlt : i < S.size
    · have hil : (i : Int) < (S.size : Int) := by omega
      by_cases h4 : q.st = 4
      · have h4b : (q.st != 4) = false := by rw [h4]; decide
        have HVV : Hid (V = .tuple #[.agg #[.int .i64 q.st, .string q.line, .int .i64 q.left, .int .i64 q.size], .string (bs D), .int .i64 (i : Int), .int .i64 0]) := by
          have h := hR.out
          rw [run_done h4] at h
          unfold Rs.on at h
          rw [if_pos rfl, List.append_nil] at h
          have e := fdV_good (k := k0) (l := s) (h := (fd0 s).trans h)
          unfold Hid
          rw [HV.out, e]
          have hl : ((s.length : Int) - ((s.drop i).length : Int)) = (i : Int) := by rw [List.length_drop]; omega
          rw [hl]
        have H4 := hide h4
        clear h4
        generalize bs D = DD at HVV ⊢
        go_wp2_with fail
        change bodyPost _ _ _ _ _ (put4 wr (w.heap.size + 1) q)
        have hZ := put4_four hP.y q
        have BZ := put4_below hP.b (Nat.le_succ _) q
        clear c0 c1 c2 c3 cf d0 d1 d2 d3 df
        generalize put4 _ _ _ = W5 at hZ BZ ⊢
        obtain ⟨c0, c1, c2, c3, -, -⟩ := id hZ
        refine bodyPost_ret (v := .tuple #[.agg #[.int .i64 q.st, .string q.line, .int .i64 q.left, .int .i64 q.size], .string DD, .int .i64 (i : Int), .int .i64 0]) (by simp [results, Tryz.results39, go_sem, c0, c1, c2, c3]) rfl ⟨by rw [HVV.out], BZ⟩
      · have h4b : (q.st != 4) = true := by simpa using h4
        obtain ⟨c, hc⟩ : ∃ c, S[i]'hlt = c := ⟨_, rfl⟩
        have HDR : Hid (s.drop i = c :: s.drop (i + 1)) := by
          unfold Hid
          have e : i < s.length := by omega
          rw [List.drop_eq_getElem_cons e]
          congr 1
          rw [← hc]
          have := HS.out
          subst this
          rfl
        have hst := fun W => refstep_any q c W hg h4
        have HRS : Hid (run k0 s = (if (stp q c).1 = 0 then (run (stp q c).2.1 (s.drop (i + 1))).on (stp q c).2.2 else bad (stp q c).1).on D) := by
          unfold Hid
          rw [hR.out, HDR.out, run_stp h4]
        have HGS : Hid ((stp q c).1 = 0 → Good (stp q c).2.1) := fun h => good_stp hg h4 c h
        have hTl := stp_len q c
        generalize stp q c = Q at hst HRS HGS hTl
        obtain ⟨E, q', T⟩ := Q
        simp only at hst hTl
        unfold K.v at hst
        clear h4 HDR hR hg
        have HIX := hide hc
        go_upto_region 6 with fail
        clear c0 c1 c2 c3 cf d0 d1 d2 d3 df hlx hly
        go_cut [10, 11, 12] (fun a b e wc => ∃ M, a = .pointer (some ⟨M, 0, none⟩) ∧ b = .string (bs T) ∧ e = .int .i64 (E : Nat) ∧ Four wc M q' ∧ w.heap.size + 1 < M ∧ Pair4 w wc q k0)
        case first =>
          refine wp_region_held_drew (S := (fun w' => Four w' w.heap.size q)) (by kernel_rfl) (hP.x.drew) (fun hHeld => ?_)
          refine wpAnyH_take (i := 0) (oi := _) (v := .agg #[.int .i64 q.st, .string q.line, .int .i64 q.left, .int .i64 q.size]) rfl (by kernel_rfl) (by kernel_rfl) (by kernel_rfl) (fun _ _ _ h => h) (Or.inl ⟨by kernel_rfl, fun wS hSw => by obtain ⟨c0, c1, c2, c3, -, -⟩ := hSw; go_simp⟩) (by first | trivial | assumption) ?_
          simp only [Act.put, List.getElem_toArray, List.getElem_cons_zero, List.getElem_cons_succ, List.setIfInBounds_toArray, List.set_cons_zero, List.set_cons_succ]
          refine wpAnyH_take (i := 1) (oi := _) (v := .string S) rfl (by kernel_rfl) (by kernel_rfl) (by kernel_rfl) (fun _ _ _ h => h) (Or.inl ⟨by rfl, fun wS hSw => by go_simp⟩) (by first | trivial | assumption) ?_
          simp only [Act.put, List.getElem_toArray, List.getElem_cons_zero, List.getElem_cons_succ, List.setIfInBounds_toArray, List.set_cons_zero, List.set_cons_succ]
          refine wpAnyH_take (i := 2) (oi := _) (v := .int .i64 i) rfl (by kernel_rfl) (by kernel_rfl) (by kernel_rfl) (fun _ _ _ h => h) (Or.inl ⟨by rfl, fun wS hSw => by go_simp⟩) (by first | trivial | assumption) ?_
          simp only [Act.put, List.getElem_toArray, List.getElem_cons_zero, List.getElem_cons_succ, List.setIfInBounds_toArray, List.set_cons_zero, List.set_cons_succ]
          refine wpAnyH_take (i := 3) (oi := _) (v := .int .u8 (c.toNat : Int)) rfl (by kernel_rfl) (by kernel_rfl) (by kernel_rfl) (fun _ _ _ h => h) (Or.inl ⟨by rfl, fun wS hSw => by go_simp⟩) (by first | trivial | assumption) ?_
          simp only [Act.put, List.getElem_toArray, List.getElem_cons_zero, List.getElem_cons_succ, List.setIfInBounds_toArray, List.set_cons_zero, List.set_cons_succ]
          refine wpAnyH_ready (rs := [4, 9]) (by kernel_rfl) (by simp) ?_
          refine AllReadyH.cons (o := _) rfl (fun K hK => ?_) (AllReadyH.cons (o := _) rfl (fun K hK => ?_) AllReadyH.nil)
          · go_simp
            refine (hst _).mono ?_
            rintro en wx ⟨rfl, hbx⟩
            have hP1 : Pair4 w wx q k0 := ⟨hP.x.drew.below hbx, hP.y.drew.below hbx, hP.b.drew.trans (hbx.mono hP.b.drew.size)⟩
            go_simp
            refine hK.out _ _ (hP1.x) (fun hHeld => ?_)
            clear hK K
            refine wpAnyH_take (i := 5) (oi := _) (v := .tuple #[.agg #[.int .i64 q'.st, .string q'.line, .int .i64 q'.left, .int .i64 q'.size], .string (bs T), .int .i64 (E : Nat)]) rfl (by kernel_rfl) (by kernel_rfl) (by kernel_rfl) (fun _ _ _ h => h) (Or.inl ⟨by rfl, fun wS hSw => by go_simp⟩) (by first | trivial | assumption) ?_
            simp only [Act.put, List.getElem_toArray, List.getElem_cons_zero, List.getElem_cons_succ, List.setIfInBounds_toArray, List.set_cons_zero, List.set_cons_succ]
            refine wpAnyH_take (i := 6) (oi := _) (v := .agg #[.int .i64 q'.st, .string q'.line, .int .i64 q'.left, .int .i64 q'.size]) rfl (by kernel_rfl) (by kernel_rfl) (by kernel_rfl) (fun _ _ _ h => h) (Or.inl ⟨by rfl, fun wS hSw => by go_simp⟩) (by first | trivial | assumption) ?_
            simp only [Act.put, List.getElem_toArray, List.getElem_cons_zero, List.getElem_cons_succ, List.setIfInBounds_toArray, List.set_cons_zero, List.set_cons_succ]
            refine wpAnyH_take (i := 7) (oi := _) (v := .string (bs T)) rfl (by kernel_rfl) (by kernel_rfl) (by kernel_rfl) (fun _ _ _ h => h) (Or.inl ⟨by rfl, fun wS hSw => by go_simp⟩) (by first | trivial | assumption) ?_
            simp only [Act.put, List.getElem_toArray, List.getElem_cons_zero, List.getElem_cons_succ, List.setIfInBounds_toArray, List.set_cons_zero, List.set_cons_succ]
            refine wpAnyH_take (i := 8) (oi := _) (v := .int .i64 (E : Nat)) rfl (by kernel_rfl) (by kernel_rfl) (by kernel_rfl) (fun _ _ _ h => h) (Or.inl ⟨by rfl, fun wS hSw => by go_simp⟩) (by first | trivial | assumption) ?_
            simp only [Act.put, List.getElem_toArray, List.getElem_cons_zero, List.getElem_cons_succ, List.setIfInBounds_toArray, List.set_cons_zero, List.set_cons_succ]
            have hlt2 := hP1.y.lt
            have hN := four_new0 wx
            have hP2 : Pair4 w (wx.alloc (.cells #[.int .i64 0, .string ⟨#[]⟩, .int .i64 0, .int .i64 0] 30)) q k0 := ⟨hP1.x.below ((Below.refl _ _).alloc (Nat.le_refl _) _), hP1.y.below ((Below.refl _ _).alloc (Nat.le_refl _) _), hP1.b.alloc hP1.b.size _⟩
            refine wpAnyH_ready (rs := [9]) (by kernel_rfl) (by simp) ?_
            refine AllReadyH.cons (o := _) rfl (fun K hK => ?_) AllReadyH.nil
            go_simp
            refine hK.out _ _ (hP2.x) (fun hHeld => ?_)
            clear hK K
            generalize wx.alloc _ = W2 at hN hP2 hHeld ⊢
            generalize wx.heap.size = M at hlt2 hN hHeld ⊢
            obtain ⟨n0, n1, n2, n3, -, nf⟩ := id hN
            unfold k0 at n0 n1 n2 n3
            dsimp only at n0 n1 n2 n3
            refine wpAnyH_ready (rs := [10]) (by kernel_rfl) (by simp) ?_
            refine AllReadyH.cons (o := _) rfl (fun K hK => ?_) AllReadyH.nil
            go_simp
            refine hK.out _ _ (put4_other hP2.x q' (by omega)) (fun hHeld => ?_)
            clear hK K
            refine wpAnyH_take (i := 11) (oi := _) (v := .string (bs T)) rfl (by kernel_rfl) (by kernel_rfl) (by kernel_rfl) (fun _ _ _ h => h) (Or.inl ⟨by rfl, fun wS hSw => by go_simp⟩) (by first | trivial | assumption) ?_
            simp only [Act.put, List.getElem_toArray, List.getElem_cons_zero, List.getElem_cons_succ, List.setIfInBounds_toArray, List.set_cons_zero, List.set_cons_succ]
            refine wpAnyH_take (i := 12) (oi := _) (v := .int .i64 (E : Nat)) rfl (by kernel_rfl) (by kernel_rfl) (by kernel_rfl) (fun _ _ _ h => h) (Or.inl ⟨by rfl, fun wS hSw => by go_simp⟩) (by first | trivial | assumption) ?_
            simp only [Act.put, List.getElem_toArray, List.getElem_cons_zero, List.getElem_cons_succ, List.setIfInBounds_toArray, List.set_cons_zero, List.set_cons_succ]
            refine wpAnyH_done (by kernel_rfl) ?_ _
            go_wp2_with fail
            go_meet
            exact ⟨M, rfl, rfl, rfl, put4_four hN q', hlt2, put4_other hP2.x q' (by omega), put4_other hP2.y q' (by omega), put4_below hP2.b (by omega) q'⟩
          · go_simp
            have hN := four_new0 wr.drew
            have hP2 : Pair4 w (wr.drew.alloc (.cells #[.int .i64 0, .string ⟨#[]⟩, .int .i64 0, .int .i64 0] 30)) q k0 := ⟨hP.x.drew.below ((Below.refl _ _).alloc (Nat.le_refl _) _), hP.y.drew.below ((Below.refl _ _).alloc (Nat.le_refl _) _), hP.b.drew.alloc hP.b.size _⟩
            have hlt2 : w.heap.size + 1 < wr.drew.heap.size := hP.y.lt
            refine hK.out _ _ (hP2.x) (fun hHeld => ?_)
            clear hK K
            refine wpAnyH_ready (rs := [4]) (by kernel_rfl) (by simp) ?_
            refine AllReadyH.cons (o := _) rfl (fun K hK => ?_) AllReadyH.nil
            go_simp
            refine (hst _).mono ?_
            rintro en wx ⟨rfl, hbx⟩
            replace hN : Four wx wr.drew.heap.size k0 := Four.below (w := wr.drew.alloc (.cells #[.int .i64 0, .string ⟨#[]⟩, .int .i64 0, .int .i64 0] 30)) hN hbx
            replace hP2 : Pair4 w wx q k0 := ⟨hP2.x.below hbx, hP2.y.below hbx, hP2.b.trans (hbx.mono hP2.b.size)⟩
            go_simp
            refine hK.out _ _ (hP2.x) (fun hHeld => ?_)
            clear hK K
            refine wpAnyH_take (i := 5) (oi := _) (v := .tuple #[.agg #[.int .i64 q'.st, .string q'.line, .int .i64 q'.left, .int .i64 q'.size], .string (bs T), .int .i64 (E : Nat)]) rfl (by kernel_rfl) (by kernel_rfl) (by kernel_rfl) (fun _ _ _ h => h) (Or.inl ⟨by rfl, fun wS hSw => by go_simp⟩) (by first | trivial | assumption) ?_
            simp only [Act.put, List.getElem_toArray, List.getElem_cons_zero, List.getElem_cons_succ, List.setIfInBounds_toArray, List.set_cons_zero, List.set_cons_succ]
            refine wpAnyH_take (i := 6) (oi := _) (v := .agg #[.int .i64 q'.st, .string q'.line, .int .i64 q'.left, .int .i64 q'.size]) rfl (by kernel_rfl) (by kernel_rfl) (by kernel_rfl) (fun _ _ _ h => h) (Or.inl ⟨by rfl, fun wS hSw => by go_simp⟩) (by first | trivial | assumption) ?_
            simp only [Act.put, List.getElem_toArray, List.getElem_cons_zero, List.getElem_cons_succ, List.setIfInBounds_toArray, List.set_cons_zero, List.set_cons_succ]
            refine wpAnyH_take (i := 7) (oi := _) (v := .string (bs T)) rfl (by kernel_rfl) (by kernel_rfl) (by kernel_rfl) (fun _ _ _ h => h) (Or.inl ⟨by rfl, fun wS hSw => by go_simp⟩) (by first | trivial | assumption) ?_
            simp only [Act.put, List.getElem_toArray, List.getElem_cons_zero, List.getElem_cons_succ, List.setIfInBounds_toArray, List.set_cons_zero, List.set_cons_succ]
            refine wpAnyH_take (i := 8) (oi := _) (v := .int .i64 (E : Nat)) rfl (by kernel_rfl) (by kernel_rfl) (by kernel_rfl) (fun _ _ _ h => h) (Or.inl ⟨by rfl, fun wS hSw => by go_simp⟩) (by first | trivial | assumption) ?_
            simp only [Act.put, List.getElem_toArray, List.getElem_cons_zero, List.getElem_cons_succ, List.setIfInBounds_toArray, List.set_cons_zero, List.set_cons_succ]
            change w.heap.size + 1 < wr.heap.size at hlt2
            change Four wx wr.heap.size k0 at hN
            generalize wx = W2 at hN hP2 hHeld ⊢
            generalize wr.heap.size = M at hlt2 hN hHeld ⊢
            obtain ⟨n0, n1, n2, n3, -, nf⟩ := id hN
            unfold k0 at n0 n1 n2 n3
            dsimp only at n0 n1 n2 n3
            refine wpAnyH_ready (rs := [10]) (by kernel_rfl) (by simp) ?_
            refine AllReadyH.cons (o := _) rfl (fun K hK => ?_) AllReadyH.nil
            go_simp
            refine hK.out _ _ (put4_other hP2.x q' (by omega)) (fun hHeld => ?_)
            clear hK K
            refine wpAnyH_take (i := 11) (oi := _) (v := .string (bs T)) rfl (by kernel_rfl) (by kernel_rfl) (by kernel_rfl) (fun _ _ _ h => h) (Or.inl ⟨by rfl, fun wS hSw => by go_simp⟩) (by first | trivial | assumption) ?_
            simp only [Act.put, List.getElem_toArray, List.getElem_cons_zero, List.getElem_cons_succ, List.setIfInBounds_toArray, List.set_cons_zero, List.set_cons_succ]
            refine wpAnyH_take (i := 12) (oi := _) (v := .int .i64 (E : Nat)) rfl (by kernel_rfl) (by kernel_rfl) (by kernel_rfl) (fun _ _ _ h => h) (Or.inl ⟨by rfl, fun wS hSw => by go_simp⟩) (by first | trivial | assumption) ?_
            simp only [Act.put, List.getElem_toArray, List.getElem_cons_zero, List.getElem_cons_succ, List.setIfInBounds_toArray, List.set_cons_zero, List.set_cons_succ]
            refine wpAnyH_done (by kernel_rfl) ?_ _
            go_wp2_with fail
            go_meet
            exact ⟨M, rfl, rfl, rfl, put4_four hN q', hlt2, put4_other hP2.x q' (by omega), put4_other hP2.y q' (by omega), put4_below hP2.b (by omega) q'⟩
        case rest =>
          obtain ⟨M, rfl, rfl, rfl, hM, hMN, hP2⟩ := hcut
          clear hP
          obtain ⟨n0, n1, n2, n3, -, nf⟩ := id hM
          obtain ⟨c0, c1, c2, c3, -, cf⟩ := id hP2.x
          obtain ⟨d0, d1, d2, d3, -, df⟩ := id hP2.y
          by_cases hE : E = 0
          · have hEb : ((E : Int) != 0) = false := by rw [hE]; decide
            have HG := HGS.out hE
            have HR2 : Hid (run k0 s = (run q' (s.drop (i + 1))).on (D ++ T)) := by
              unfold Hid
              rw [HRS.out, if_pos hE, on_on]
            have HT : Hid (bs D ++ bs T = bs (D ++ T)) := by
              unfold Hid; apply bytes_ext; rw [app_list, bs_list, bs_list, bs_list]
            have hP3 : Pair4 w (put4 wc w.heap.size q') q' k0 := ⟨put4_four hP2.x q', put4_other hP2.y q' (by omega), put4_below hP2.b (Nat.le_refl _) q'⟩
            have hb1 := bs_size D
            have hb2 := bs_size T
            clear hE HRS HGS hst
            go_wp2_with fail
            exact ⟨⟨q', D ++ T, i + 1, congrArg Value.string HT.out, by go_num, hP3, HG, by omega, by rw [List.length_append]; omega, HR2⟩, by simp [intOf]; omega⟩
          · have hEb : ((E : Int) != 0) = true := by simpa using hE
            have HVV : Hid (V = .tuple #[.agg #[.int .i64 0, .string ⟨#[]⟩, .int .i64 0, .int .i64 0], .string ⟨#[]⟩, .int .i64 0, .int .i64 (E : Nat)]) := by
              unfold Hid
              rw [HV.out]
              refine fdV_bad hE ?_
              rw [fd0, HRS.out, if_neg hE, on_bad hE]
            clear hE HRS HGS hst
            go_wp2_with fail
            change bodyPost _ _ _ _ _ (put4 wc (w.heap.size + 1) ⟨0, ⟨#[]⟩, 0, 0⟩)
            have hZ := put4_four hP2.y ⟨0, ⟨#[]⟩, 0, 0⟩
            have BZ := put4_below hP2.b (Nat.le_succ _) ⟨0, ⟨#[]⟩, 0, 0⟩
            clear c0 c1 c2 c3 cf d0 d1 d2 d3 df n0 n1 n2 n3 nf
            generalize put4 _ _ _ = W5 at hZ BZ ⊢
            obtain ⟨c0, c1, c2, c3, -, -⟩ := id hZ
            refine bodyPost_ret (v := .tuple #[.agg #[.int .i64 0, .string ⟨#[]⟩, .int .i64 0, .int .i64 0], .string ⟨#[]⟩, .int .i64 0, .int .i64 (E : Nat)]) (by simp [results, Tryz.results39, go_sem, c0, c1, c2, c3]) rfl ⟨by rw [HVV.out], BZ⟩
    · have hil : ¬ (i : Int) < (S.size : Int) := by omega
      have HVV : Hid (V = .tuple #[.agg #[.int .i64 q.st, .string q.line, .int .i64 q.left, .int .i64 q.size], .string (bs D), .int .i64 (i : Int), .int .i64 0]) := by
        have h := hR.out
        rw [List.drop_of_length_le (by omega)] at h
        have h2 : run k0 s = ⟨0, q, D, []⟩ := by
          rw [h]
          show (⟨0, q, [], []⟩ : Rs).on D = _
          unfold Rs.on
          rw [if_pos rfl, List.append_nil]
        have e := fdV_good (k := k0) (l := s) (h := (fd0 s).trans h2)
        unfold Hid
        rw [HV.out, e]
        have hl : ((s.length : Int) - (([] : List UInt8).length : Int)) = (i : Int) := by simp; omega
        rw [hl]
      generalize bs D = DD at HVV ⊢
      go_wp2_with fail
      change bodyPost _ _ _ _ _ (put4 wr (w.heap.size + 1) q)
      have hZ := put4_four hP.y q
      have BZ := put4_below hP.b (Nat.le_succ _) q
      clear c0 c1 c2 c3 cf d0 d1 d2 d3 df
      generalize put4 _ _ _ = W5 at hZ BZ ⊢
      obtain ⟨c0, c1, c2, c3, -, -⟩ := id hZ
      refine bodyPost_ret (v := .tuple #[.agg #[.int .i64 q.st, .string q.line, .int .i64 q.left, .int .i64 q.size], .string DD, .int .i64 (i : Int), .int .i64 0]) (by simp [results, Tryz.results39, go_sem, c0, c1, c2, c3]) rfl ⟨by rw [HVV.out], BZ⟩

end Go.Proofs.YtmpijlaidnhpnaaGreat.Ck

namespace Go.Proofs.YtmpijlaidnhpnaaGreat
set_option linter.unusedVariables false
set_option linter.unusedSimpArgs false
set_option maxRecDepth 100000
open Go.RowKit

theorem firL_cut (l : List UInt8) : (Ck.bs l).extract 0 (Hd.atN 10 l) = Ck.bs (l.takeWhile (Hd.neB 10)) := by
  apply bytes_ext
  rw [Ck.bs_list, ByteArray.data_extract]
  have h := List.takeWhile_append_dropWhile (p := Hd.neB 10) (l := l)
  have ee : ∀ x y : List UInt8, x ++ y = l → l.take x.length = x := fun x y h => by rw [← h, List.take_left]
  have e : l.take (Hd.atN 10 l) = l.takeWhile (Hd.neB 10) := ee _ _ h
  rw [← e]
  simp [Ck.bs, List.extract_eq_take_drop]
theorem restL_cut (l : List UInt8) : (Ck.bs l).extract (Hd.atN 10 l + 1) (Ck.bs l).size = Ck.bs (l.drop (Hd.atN 10 l + 1)) := by
  apply bytes_ext
  rw [Ck.bs_list, ByteArray.data_extract, Ck.bs_size]
  simp [Ck.bs, List.extract_eq_take_drop]
  exact List.take_of_length_le (by simp)

set_option maxHeartbeats 4000000 in
theorem refline_any (l : List UInt8) (w : World) (hl : l.length ≤ 100000) (h10 : Hd.atN 10 l < l.length) :
    Calls Tryz.prog 47 #[.string (Ck.bs l)] w fun e w' => e = .returned (.tuple #[.string (Ck.bs (firL l)), .string (Ck.bs (l.drop (Hd.atN 10 l + 1)))]) ∧ Below w.heap.size w w' := by
  have hsz := Ck.bs_size l
  have hF := fun W => Hd.find_any (Ck.bs l) 10 W (by omega)
  rw [Ck.bs_list, Hd.ix_yes h10] at hF
  have hb := fun W => Hd.bare_any (Ck.bs (l.takeWhile (Hd.neB 10))) W (by rw [Ck.bs_size]; have := Hd.atN_le 10 l; unfold Hd.atN at this; omega)
  rw [Ck.bs_list] at hb
  have h1 := firL_cut l
  have h2 := restL_cut l
  have hn : ((Hd.atN 10 l : Nat) : Int) ≤ ((Ck.bs l).size : Int) := by omega
  have hn1 : ((Hd.atN 10 l : Nat) : Int) + 1 ≤ ((Ck.bs l).size : Int) := by omega
  have hsS : ((Ck.bs l).size : Int) ≤ 100000 := by omega
  have hR : Hid (Ck.bs (firL l) = Hd.bs (Hd.bareL (l.takeWhile (Hd.neB 10)))) := rfl
  generalize Hd.atN 10 l = n at hF h1 h2 hn hn1 h10 ⊢
  rw [hR.out]
  clear hR
  clear hsz hl h10
  generalize Ck.bs l = S at hF h1 h2 hn hn1 hsS ⊢
  generalize Ck.bs (l.drop (n + 1)) = R at h2 ⊢
  generalize Ck.bs (l.takeWhile (Hd.neB 10)) = F at h1 hb
  generalize Hd.bs (Hd.bareL (l.takeWhile (Hd.neB 10))) = G at hb ⊢
  go_enter Tryz.func47, Tryz.ntmps47
  go_wp2_with fail
  refine (hF _).mono ?_
  rintro en w1 ⟨rfl, rfl⟩
  go_upto_region 2 with fail
  have hdr : Below w1.heap.size w1 w1.drew := ⟨rfl, rfl, rfl, Nat.le_refl _, fun _ _ => rfl⟩
  refine wp_region_held_drew (S := (fun _ => True)) (by kernel_rfl) (trivial) (fun hHeld => ?_)
  refine wpAnyH_take (i := 0) (oi := _) (v := .string S) rfl (by kernel_rfl) (by kernel_rfl) (by kernel_rfl) (fun _ _ _ h => h) (Or.inl ⟨by rfl, fun wS hSw => by go_simp⟩) (by first | trivial | assumption) ?_
  simp only [Act.put, List.getElem_toArray, List.getElem_cons_zero, List.getElem_cons_succ, List.setIfInBounds_toArray, List.set_cons_zero, List.set_cons_succ]
  refine wpAnyH_take (i := 1) (oi := _) (v := .int .i64 n) rfl (by kernel_rfl) (by kernel_rfl) (by kernel_rfl) (fun _ _ _ h => h) (Or.inl ⟨by rfl, fun wS hSw => by go_simp⟩) (by first | trivial | assumption) ?_
  simp only [Act.put, List.getElem_toArray, List.getElem_cons_zero, List.getElem_cons_succ, List.setIfInBounds_toArray, List.set_cons_zero, List.set_cons_succ]
  refine wpAnyH_take (i := 2) (oi := _) (v := .string F) rfl (by kernel_rfl) (by kernel_rfl) (by kernel_rfl) (fun _ _ _ h => h) (Or.inl ⟨by rfl, fun wS hSw => by go_simp⟩) (by first | trivial | assumption) ?_
  simp only [Act.put, List.getElem_toArray, List.getElem_cons_zero, List.getElem_cons_succ, List.setIfInBounds_toArray, List.set_cons_zero, List.set_cons_succ]
  refine wpAnyH_take (i := 4) (oi := _) (v := .string S) rfl (by kernel_rfl) (by kernel_rfl) (by kernel_rfl) (fun _ _ _ h => h) (Or.inl ⟨by rfl, fun wS hSw => by go_simp⟩) (by first | trivial | assumption) ?_
  simp only [Act.put, List.getElem_toArray, List.getElem_cons_zero, List.getElem_cons_succ, List.setIfInBounds_toArray, List.set_cons_zero, List.set_cons_succ]
  refine wpAnyH_take (i := 5) (oi := _) (v := .int .i64 n) rfl (by kernel_rfl) (by kernel_rfl) (by kernel_rfl) (fun _ _ _ h => h) (Or.inl ⟨by rfl, fun wS hSw => by go_simp⟩) (by first | trivial | assumption) ?_
  simp only [Act.put, List.getElem_toArray, List.getElem_cons_zero, List.getElem_cons_succ, List.setIfInBounds_toArray, List.set_cons_zero, List.set_cons_succ]
  refine wpAnyH_take (i := 6) (oi := _) (v := .int .i64 ((n : Int) + 1)) rfl (by kernel_rfl) (by kernel_rfl) (by kernel_rfl) (fun _ _ _ h => h) (Or.inl ⟨by rfl, fun wS hSw => by go_simp; rw [IntKind.wrap_i64]; omega⟩) (by first | trivial | assumption) ?_
  simp only [Act.put, List.getElem_toArray, List.getElem_cons_zero, List.getElem_cons_succ, List.setIfInBounds_toArray, List.set_cons_zero, List.set_cons_succ]
  refine wpAnyH_take (i := 7) (oi := _) (v := .string R) rfl (by kernel_rfl) (by kernel_rfl) (by kernel_rfl) (fun _ _ _ h => h) (Or.inl ⟨by rfl, fun wS hSw => by go_simp; intro hh; exfalso; omega⟩) (by first | trivial | assumption) ?_
  simp only [Act.put, List.getElem_toArray, List.getElem_cons_zero, List.getElem_cons_succ, List.setIfInBounds_toArray, List.set_cons_zero, List.set_cons_succ]
  refine wpAnyH_ready (rs := [3]) (by kernel_rfl) (by simp) ?_
  refine AllReadyH.cons (o := _) rfl (fun K hK => ?_) AllReadyH.nil
  go_simp
  refine (hb _).mono ?_
  rintro en w2 ⟨rfl, rfl⟩
  go_simp
  refine hK.out _ _ (trivial) (fun hHeld => ?_)
  clear hK K
  refine wpAnyH_take (i := 8) (oi := _) (v := .string G) rfl (by kernel_rfl) (by kernel_rfl) (by kernel_rfl) (fun _ _ _ h => h) (Or.inl ⟨by rfl, fun wS hSw => by go_simp⟩) (by first | trivial | assumption) ?_
  simp only [Act.put, List.getElem_toArray, List.getElem_cons_zero, List.getElem_cons_succ, List.setIfInBounds_toArray, List.set_cons_zero, List.set_cons_succ]
  refine wpAnyH_take (i := 9) (oi := _) (v := .string R) rfl (by kernel_rfl) (by kernel_rfl) (by kernel_rfl) (fun _ _ _ h => h) (Or.inl ⟨by rfl, fun wS hSw => by go_simp⟩) (by first | trivial | assumption) ?_
  simp only [Act.put, List.getElem_toArray, List.getElem_cons_zero, List.getElem_cons_succ, List.setIfInBounds_toArray, List.set_cons_zero, List.set_cons_succ]
  refine wpAnyH_done (by kernel_rfl) ?_ _
  go_wp2_with fail
  go_ret2
  exact ⟨rfl, hdr⟩

end Go.Proofs.YtmpijlaidnhpnaaGreat
