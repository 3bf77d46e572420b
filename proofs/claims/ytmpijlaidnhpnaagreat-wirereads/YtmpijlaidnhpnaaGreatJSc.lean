/- The walks of Print, Parse and Status. -/
import Derived.Test.YtmpijlaidnhpnaaGreatJSa
import Derived.Test.YtmpijlaidnhpnaaGreatJNd
import Derived.Test.YtmpijlaidnhpnaaGreatJMy
namespace Go.Proofs.YtmpijlaidnhpnaaGreat.Sr
set_option linter.unusedVariables false
set_option linter.unusedSimpArgs false
set_option maxRecDepth 100000
open Go.RowKit

theorem below_drewN (w : World) (n : Nat) : Below w.heap.size w (w.drewN n) := ⟨rfl, rfl, rfl, Nat.le_refl _, fun _ _ => rfl⟩

/-- What is answered for a first line that was read. -/
def gvU (s : St) : St := if rtB s then s else St.no
def gvE (s : St) : Int := if rtB s then 0 else 30
theorem gv_yes {s : St} (h : rtB s = true) : gvU s = s ∧ gvE s = 0 := by unfold gvU gvE; rw [h]; exact ⟨rfl, rfl⟩
theorem gv_no {s : St} (h : rtB s = false) : gvU s = St.no ∧ gvE s = 30 := by unfold gvU gvE; rw [h]; exact ⟨rfl, rfl⟩

set_option maxRecDepth 100000 in
set_option maxHeartbeats 1000000 in
theorem ifRight_any (s : St) (w : World) (hs : Short s) :
    Calls Tryz.prog 123 #[s.v] w fun e w' => e = .returned (.tuple #[(gvU s).v, .int .i64 (gvE s)]) ∧ Below w.heap.size w w' := by
  have hnew := Five.new w s
  have hbn : Below w.heap.size w (w.alloc (.cells s.cs.toArray 23)) := (Below.refl _ _).alloc (Nat.le_refl _) _
  unfold St.cs at hnew hbn
  have hR0 := five_zero (w.alloc (.cells #[.string s.m, .string s.t, .int .i64 s.c, .string s.r, .int .i64 s.n] 23))
  have hN0 := hnew.alloc (.cells #[.string ⟨#[]⟩, .string ⟨#[]⟩, .int .i64 0, .string ⟨#[]⟩, .int .i64 0] 23)
  have hB0 := hbn.alloc (o := (.cells #[.string ⟨#[]⟩, .string ⟨#[]⟩, .int .i64 0, .string ⟨#[]⟩, .int .i64 0] 23)) hbn.size
  have hsz : (w.alloc (.cells #[.string s.m, .string s.t, .int .i64 s.c, .string s.r, .int .i64 s.n] 23)).heap.size = w.heap.size + 1 := by simp
  rw [hsz] at hR0
  clear hnew hbn hsz
  cases h1 : rtB s
  · have HR := hide (gv_no h1)
    have H1 := hide h1
    clear h1
    unfold St.v
    go_enter Tryz.func123, Tryz.ntmps123
    go_wp2_with fail
    generalize World.alloc _ _ = W1 at hR0 hN0 hB0 ⊢
    refine (sright_any s _ hs).mono ?_
    rintro e w1 ⟨rfl, hb1⟩
    rw [H1.out]
    have hB1 := hB0.trans (hb1.mono hB0.size)
    obtain ⟨r0, r1, r2, r3, r4, -, rf⟩ := hR0.below hb1
    go_wp2_with fail
    refine bodyPost_ret (v := .tuple #[St.no.v, .int .i64 30]) (by simp [results, Tryz.results123, go_sem, no_v, *]) rfl ⟨ret_se HR.out.1.symm HR.out.2.symm, ?_⟩
    exact put5_below hB1 (by omega) St.no
  · have HR := hide (gv_yes h1)
    have H1 := hide h1
    clear h1
    go_enter Tryz.func123, Tryz.ntmps123
    unfold St.v
    go_wp2_with fail
    generalize World.alloc _ _ = W1 at hR0 hN0 hB0 ⊢
    refine (sright_any s _ hs).mono ?_
    rintro e w1 ⟨rfl, hb1⟩
    rw [H1.out]
    have hB1 := hB0.trans (hb1.mono hB0.size)
    obtain ⟨r0, r1, r2, r3, r4, -, rf⟩ := hR0.below hb1
    obtain ⟨n0, n1, n2, n3, n4, -, -⟩ := hN0.below hb1
    go_wp2_with fail
    refine bodyPost_ret (v := .tuple #[s.v, .int .i64 0]) (by simp [results, Tryz.results123, go_sem, St.v, *]) rfl ⟨ret_se HR.out.1.symm HR.out.2.symm, ?_⟩
    exact put5_below hB1 (by omega) s

def mnrS (s : ByteArray) : Int := mnr s.data.toList
def codS (s : ByteArray) : Int := cod s.data.toList

set_option maxRecDepth 100000 in
set_option maxHeartbeats 1000000 in
theorem minorOf_any (s : ByteArray) (w : World) :
    Calls Tryz.prog 124 #[.string s] w fun e w' => e = .returned (.int .i64 (mnrS s)) ∧ w' = w := by
  cases h0 : (s.toList == [72, 84, 84, 80, 47, 49, 46, 48])
  · cases h1 : (s.toList == [72, 84, 84, 80, 47, 49, 46, 49])
    · have HR : Hid (mnrS s = -1) := by
        unfold Hid mnrS mnr
        rw [if_neg (show ¬ s.data.toList = verL ++ [48] from ne_of_beq h0), if_neg (show ¬ s.data.toList = verL ++ [49] from ne_of_beq h1)]
      go_enter Tryz.func124, Tryz.ntmps124
      go_wp2_with fail
      go_ret
      exact ⟨by rw [HR.out]; rfl, rfl⟩
    · have HR : Hid (mnrS s = 1) := by
        unfold Hid mnrS mnr
        rw [if_neg (show ¬ s.data.toList = verL ++ [48] from ne_of_beq h0), if_pos (show s.data.toList = verL ++ [49] from eq_of_beq h1)]
      go_enter Tryz.func124, Tryz.ntmps124
      go_wp2_with fail
      go_ret
      exact ⟨by rw [HR.out]; rfl, rfl⟩
  · have HR : Hid (mnrS s = 0) := by
      unfold Hid mnrS mnr
      rw [if_pos (show s.data.toList = verL ++ [48] from eq_of_beq h0)]
    go_enter Tryz.func124, Tryz.ntmps124
    go_wp2_with fail
    go_ret
    exact ⟨by rw [HR.out]; rfl, rfl⟩

theorem u64_id {n : Int} (h0 : 0 ≤ n) (h1 : n ≤ 1000000) : IntKind.u64.wrap n = n := by simp [IntKind.wrap, IntKind.bits, IntKind.signed]; omega

set_option maxRecDepth 100000 in
set_option maxHeartbeats 1000000 in
theorem codeOf_any (s : ByteArray) (w : World) (hs : s.size ≤ 10000) :
    Calls Tryz.prog 125 #[.string s] w fun e w' => e = .returned (.int .i64 (codS s)) ∧ Below w.heap.size w w' := by
  have hrd := fun w => readDec_any s w (by unfold maxLen; omega)
  have hle := rdN_le 10 s.data.toList
  by_cases h0 : rdE 10 s.data.toList = 0
  · rw [h0] at hrd
    by_cases h1 : s.size = 3
    · have hd1 : ((s.size : Int) == 3) = true := by rw [h1]; rfl
      have hbn : ((s.size : Int) != 3) = false := by rw [h1]; rfl
      have HR : Hid (codS s = (rdN 10 s.data.toList : Int)) := by unfold Hid codS cod; rw [if_pos ⟨h0, by rw [size_list, h1]⟩]
      clear h0
      generalize rdN 10 s.data.toList = n at hrd hle HR
      have hw : IntKind.i64.wrap (n : Int) = n := by simp [IntKind.wrap, IntKind.bits, IntKind.signed]; omega
      go_enter Tryz.func125, Tryz.ntmps125
      go_wp2_with fail
      refine (hrd _).mono ?_
      rintro e w1 ⟨rfl, hb1⟩
      go_wp2_with fail
      go_ret
      exact ⟨by rw [HR.out]; rfl, hb1⟩
    · have hbn : ((s.size : Int) != 3) = true := by simp; omega
      have HR : Hid (codS s = -1) := by unfold Hid codS cod; rw [if_neg (fun e => h1 (by rw [← size_list]; exact e.2))]
      clear h0
      generalize rdN 10 s.data.toList = n at hrd hle
      go_enter Tryz.func125, Tryz.ntmps125
      go_wp2_with fail
      refine (hrd _).mono ?_
      rintro e w1 ⟨rfl, hb1⟩
      go_wp2_with fail
      go_ret
      exact ⟨by rw [HR.out]; rfl, hb1⟩
  · have HR : Hid (codS s = -1) := by unfold Hid codS cod; rw [if_neg (fun e => h0 e.1)]
    generalize rdE 10 s.data.toList = x at hrd h0
    have hbn : ((x : Int) != 0) = true := by simp; omega
    clear h0
    generalize rdN 10 s.data.toList = n at hrd hle
    go_enter Tryz.func125, Tryz.ntmps125
    go_wp2_with fail
    refine (hrd _).mono ?_
    rintro e w1 ⟨rfl, hb1⟩
    go_wp2_with fail
    go_ret
    exact ⟨by rw [HR.out]; rfl, hb1⟩

def decI (n : Int) : ByteArray := decS n.toNat

theorem decI_list (n : Int) : (decI n).data.toList = dgs 10 (by omega) n.toNat := decS_list _
theorem decI_size {n : Int} (h0 : 0 ≤ n) (h1 : n ≤ 599) : (decI n).size ≤ 20 := decS_le _ (by omega)
theorem wrS_req {s : St} (h : s.c = 0) : wrS s = s.m ++ (⟨#[32]⟩ : ByteArray) ++ s.t ++ (⟨#[32]⟩ : ByteArray) ++ ((⟨#[72, 84, 84, 80, 47, 49, 46]⟩ : ByteArray) ++ decI s.n) := by
  apply bytes_ext
  rw [wrS_list, wr_req h]
  simp only [app_list, decI_list, verN, verL]
  simp
theorem wrS_sta {s : St} (h : s.c ≠ 0) : wrS s = ((⟨#[72, 84, 84, 80, 47, 49, 46]⟩ : ByteArray) ++ decI s.n) ++ (⟨#[32]⟩ : ByteArray) ++ decI s.c ++ (⟨#[32]⟩ : ByteArray) ++ s.r := by
  apply bytes_ext
  rw [wrS_list, wr_sta h]
  simp only [app_list, decI_list, verN, verL]
  simp

theorem ps_short {s : ByteArray} (hs : s.size ≤ 5000) : Short (psU s) := by
  have a1 := befS_size 32 s
  have a2 := aftS_size 32 s
  have a3 := befS_size 32 (aftS 32 s)
  exact ⟨by show (befS 32 s).size ≤ 10000; omega, by show (befS 32 (aftS 32 s)).size ≤ 10000; omega, by show (0 : Nat) ≤ 10000; omega⟩
theorem st_short {s : ByteArray} (hs : s.size ≤ 5000) : Short (stU s) := by
  have a2 := aftS_size 32 s
  have a3 := aftS_size 32 (aftS 32 s)
  exact ⟨by show (0 : Nat) ≤ 10000; omega, by show (0 : Nat) ≤ 10000; omega, by show (aftS 32 (aftS 32 s)).size ≤ 10000; omega⟩

set_option maxRecDepth 100000 in
set_option maxHeartbeats 1000000 in
theorem parse_any (s : ByteArray) (w : World) (hs : s.size ≤ 5000) :
    Calls Tryz.prog 101 #[.string s] w fun e w' => e = .returned (.tuple #[(gvU (psU s)).v, .int .i64 (gvE (psU s))]) ∧ Below w.heap.size w w' := by
  have hR0 := five_zero w
  have hB0 : Below w.heap.size w (w.alloc (.cells #[.string ⟨#[]⟩, .string ⟨#[]⟩, .int .i64 0, .string ⟨#[]⟩, .int .i64 0] 23)) := (Below.refl _ _).alloc (Nat.le_refl _) _
  have a1 := befS_size 32 s
  have a2 := aftS_size 32 s
  have HI := hide (fun W => ifRight_any (psU s) W (ps_short hs))
  have HV : Hid ((psU s).v = .agg #[.string (befS 32 s), .string (befS 32 (aftS 32 s)), .int .i64 0, .string ⟨#[]⟩, .int .i64 (mnrS (aftS 32 (aftS 32 s)))]) := rfl
  rw [HV.out] at HI
  clear HV
  generalize gvU (psU s) = R at HI ⊢
  generalize gvE (psU s) = E at HI ⊢
  go_enter Tryz.func101, Tryz.ntmps101
  go_wp2_with fail
  generalize w.alloc _ = W0 at hR0 hB0 ⊢
  refine (cut_any s 32 _ (by omega)).mono ?_
  rintro e w1 ⟨rfl, n1, rfl⟩
  go_wp2_with fail
  refine (cut_any (aftS 32 s) 32 _ (by omega)).mono ?_
  rintro e w2 ⟨rfl, n2, rfl⟩
  have hR3 := (hR0.drewN n1).drewN n2
  have hB3 : Below w.heap.size w ((W0.drewN n1).drewN n2) := (hB0.trans ((below_drewN W0 n1).mono hB0.size)).trans ((below_drewN (W0.drewN n1) n2).mono hB0.size)
  generalize (W0.drewN n1).drewN n2 = W2 at hR3 hB3 ⊢
  go_wp2_with fail
  refine (minorOf_any _ _).mono ?_
  rintro e w3 ⟨rfl, hw3⟩
  subst hw3
  go_wp2_with fail
  refine (HI.out _).mono ?_
  rintro e w4 ⟨rfl, hb4⟩
  obtain ⟨r0, r1, r2, r3, r4, -, rf⟩ := hR3.below hb4
  have hB4 := hB3.trans (hb4.mono hB3.size)
  unfold St.v
  go_wp2_with fail
  refine bodyPost_ret (v := .tuple #[R.v, .int .i64 E]) (by simp [results, Tryz.results101, go_sem, St.v, *]) rfl ⟨rfl, ?_⟩
  exact put5_below hB4 (Nat.le_refl _) R

set_option maxRecDepth 100000 in
set_option maxHeartbeats 1000000 in
theorem status_any (s : ByteArray) (w : World) (hs : s.size ≤ 5000) :
    Calls Tryz.prog 102 #[.string s] w fun e w' => e = .returned (.tuple #[(gvU (stU s)).v, .int .i64 (gvE (stU s))]) ∧ Below w.heap.size w w' := by
  have hR0 := five_zero w
  have hB0 : Below w.heap.size w (w.alloc (.cells #[.string ⟨#[]⟩, .string ⟨#[]⟩, .int .i64 0, .string ⟨#[]⟩, .int .i64 0] 23)) := (Below.refl _ _).alloc (Nat.le_refl _) _
  have a1 := befS_size 32 s
  have a2 := aftS_size 32 s
  have a3 := befS_size 32 (aftS 32 s)
  have HI := hide (fun W => ifRight_any (stU s) W (st_short hs))
  have HV : Hid ((stU s).v = .agg #[.string ⟨#[]⟩, .string ⟨#[]⟩, .int .i64 (codS (befS 32 (aftS 32 s))), .string (aftS 32 (aftS 32 s)), .int .i64 (mnrS (befS 32 s))]) := rfl
  rw [HV.out] at HI
  clear HV
  generalize gvU (stU s) = R at HI ⊢
  generalize gvE (stU s) = E at HI ⊢
  go_enter Tryz.func102, Tryz.ntmps102
  go_wp2_with fail
  generalize w.alloc _ = W0 at hR0 hB0 ⊢
  refine (cut_any s 32 _ (by omega)).mono ?_
  rintro e w1 ⟨rfl, n1, rfl⟩
  go_wp2_with fail
  refine (cut_any (aftS 32 s) 32 _ (by omega)).mono ?_
  rintro e w2 ⟨rfl, n2, rfl⟩
  have hR2 := (hR0.drewN n1).drewN n2
  have hB2 : Below w.heap.size w ((W0.drewN n1).drewN n2) := (hB0.trans ((below_drewN W0 n1).mono hB0.size)).trans ((below_drewN (W0.drewN n1) n2).mono hB0.size)
  generalize (W0.drewN n1).drewN n2 = W2 at hR2 hB2 ⊢
  go_wp2_with fail
  refine (codeOf_any _ _ (by omega)).mono ?_
  rintro e w3 ⟨rfl, hb3⟩
  have hR3 := hR2.below hb3
  have hB3 := hB2.trans (hb3.mono hB2.size)
  go_wp2_with fail
  refine (minorOf_any _ _).mono ?_
  rintro e w4 ⟨rfl, hw4⟩
  subst hw4
  go_wp2_with fail
  refine (HI.out _).mono ?_
  rintro e w5 ⟨rfl, hb5⟩
  obtain ⟨r0, r1, r2, r3, r4, -, rf⟩ := hR3.below hb5
  have hB5 := hB3.trans (hb5.mono hB3.size)
  unfold St.v
  go_wp2_with fail
  refine bodyPost_ret (v := .tuple #[R.v, .int .i64 E]) (by simp [results, Tryz.results102, go_sem, St.v, *]) rfl ⟨rfl, ?_⟩
  exact put5_below hB5 (Nat.le_refl _) R

end Go.Proofs.YtmpijlaidnhpnaaGreat.Sr
