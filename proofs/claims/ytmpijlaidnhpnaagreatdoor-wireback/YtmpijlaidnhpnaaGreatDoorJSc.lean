/- The walks of Print, Parse and Status. The walks of the document's own Print, Parse and Status. -/
import Derived.Test.YtmpijlaidnhpnaaGreatDoorJSa
import Derived.Test.YtmpijlaidnhpnaaGreatDoorJNc
import Derived.Test.YtmpijlaidnhpnaaGreatDoorJNe
import Derived.Test.YtmpijlaidnhpnaaGreatDoorJMy
import Derived.Test.YtmpijlaidnhpnaaGreatDoorJSd
namespace Go.Proofs.YtmpijlaidnhpnaaGreatDoor.Sr
set_option linter.unusedVariables false
set_option linter.unusedSimpArgs false
set_option maxRecDepth 100000
open Go.RowKit

theorem below_drewN (w : World) (n : Nat) : Below w.heap.size w (w.drewN n) := ⟨rfl, rfl, rfl, Nat.le_refl _, fun _ _ => rfl⟩

/-- What is answered for a first line that was read. -/
def gvU (s : St) : St := if rtB s then s else St.no
def gvE (s : St) : Int := if rtB s then 0 else 30
theorem gv_yes {s : St} (h : rtB s = true) : gvU s = s ∧ gvE s = 0 := by unfold gvU gvE; rw [h]; exact ⟨rfl, rfl⟩
theorem gv_no {s : St} (h : rtB s = false) : gvU s = St.no ∧ gvE s = 30 := by unfold gvU gvE; rw [h]; exact ⟨rfl, rfl⟩

set_option maxRecDepth 100000 in
set_option maxHeartbeats 1000000 in
theorem ifRight_any (s : St) (w : World) (hs : Short s) :
    Calls Tryz.prog 160 #[s.v] w fun e w' => e = .returned (.tuple #[(gvU s).v, .int .i64 (gvE s)]) ∧ Below w.heap.size w w' := by
  have hnew := Five.new w s
  have hbn : Below w.heap.size w (w.alloc (.cells s.cs.toArray 23)) := (Below.refl _ _).alloc (Nat.le_refl _) _
  unfold St.cs at hnew hbn
  have hR0 := five_zero (w.alloc (.cells #[.string s.m, .string s.t, .int .i64 s.c, .string s.r, .int .i64 s.n] 23))
  have hN0 := hnew.alloc (.cells #[.string ⟨#[]⟩, .string ⟨#[]⟩, .int .i64 0, .string ⟨#[]⟩, .int .i64 0] 23)
  have hB0 := hbn.alloc (o := (.cells #[.string ⟨#[]⟩, .string ⟨#[]⟩, .int .i64 0, .string ⟨#[]⟩, .int .i64 0] 23)) hbn.size
  have hsz : (w.alloc (.cells #[.string s.m, .string s.t, .int .i64 s.c, .string s.r, .int .i64 s.n] 23)).heap.size = w.heap.size + 1 := by simp
  rw [hsz] at hR0
  clear hnew hbn hsz
  cases h1 : rtB s
  · have HR := hide (gv_no h1)
    have H1 := hide h1
    clear h1
    unfold St.v
    go_enter Tryz.func160, Tryz.ntmps160
    go_wp2_with fail
    generalize World.alloc _ _ = W1 at hR0 hN0 hB0 ⊢
    refine (sright_any s _ hs).mono ?_
    rintro e w1 ⟨rfl, hb1⟩
    rw [H1.out]
    have hB1 := hB0.trans (hb1.mono hB0.size)
    obtain ⟨r0, r1, r2, r3, r4, -, rf⟩ := hR0.below hb1
    go_wp2_with fail
    refine bodyPost_ret (v := .tuple #[St.no.v, .int .i64 30]) (by simp [results, Tryz.results160, go_sem, no_v, *]) rfl ⟨ret_se HR.out.1.symm HR.out.2.symm, ?_⟩
    exact put5_below hB1 (by omega) St.no
  · have HR := hide (gv_yes h1)
    have H1 := hide h1
    clear h1
    go_enter Tryz.func160, Tryz.ntmps160
    unfold St.v
    go_wp2_with fail
    generalize World.alloc _ _ = W1 at hR0 hN0 hB0 ⊢
    refine (sright_any s _ hs).mono ?_
    rintro e w1 ⟨rfl, hb1⟩
    rw [H1.out]
    have hB1 := hB0.trans (hb1.mono hB0.size)
    obtain ⟨r0, r1, r2, r3, r4, -, rf⟩ := hR0.below hb1
    obtain ⟨n0, n1, n2, n3, n4, -, -⟩ := hN0.below hb1
    go_wp2_with fail
    refine bodyPost_ret (v := .tuple #[s.v, .int .i64 0]) (by simp [results, Tryz.results160, go_sem, St.v, *]) rfl ⟨ret_se HR.out.1.symm HR.out.2.symm, ?_⟩
    exact put5_below hB1 (by omega) s

def mnrS (s : ByteArray) : Int := mnr s.data.toList
def codS (s : ByteArray) : Int := cod s.data.toList

set_option maxRecDepth 100000 in
set_option maxHeartbeats 1000000 in
theorem minorOf_any (s : ByteArray) (w : World) :
    Calls Tryz.prog 161 #[.string s] w fun e w' => e = .returned (.int .i64 (mnrS s)) ∧ w' = w := by
  cases h0 : (s.toList == [72, 84, 84, 80, 47, 49, 46, 48])
  · cases h1 : (s.toList == [72, 84, 84, 80, 47, 49, 46, 49])
    · have HR : Hid (mnrS s = -1) := by
        unfold Hid mnrS mnr
        rw [if_neg (show ¬ s.data.toList = verL ++ [48] from ne_of_beq h0), if_neg (show ¬ s.data.toList = verL ++ [49] from ne_of_beq h1)]
      go_enter Tryz.func161, Tryz.ntmps161
      go_wp2_with fail
      go_ret
      exact ⟨by rw [HR.out]; rfl, rfl⟩
    · have HR : Hid (mnrS s = 1) := by
        unfold Hid mnrS mnr
        rw [if_neg (show ¬ s.data.toList = verL ++ [48] from ne_of_beq h0), if_pos (show s.data.toList = verL ++ [49] from eq_of_beq h1)]
      go_enter Tryz.func161, Tryz.ntmps161
      go_wp2_with fail
      go_ret
      exact ⟨by rw [HR.out]; rfl, rfl⟩
  · have HR : Hid (mnrS s = 0) := by
      unfold Hid mnrS mnr
      rw [if_pos (show s.data.toList = verL ++ [48] from eq_of_beq h0)]
    go_enter Tryz.func161, Tryz.ntmps161
    go_wp2_with fail
    go_ret
    exact ⟨by rw [HR.out]; rfl, rfl⟩

theorem u64_id {n : Int} (h0 : 0 ≤ n) (h1 : n ≤ 1000000) : IntKind.u64.wrap n = n := by simp [IntKind.wrap, IntKind.bits, IntKind.signed]; omega

set_option maxRecDepth 100000 in
set_option maxHeartbeats 1000000 in
theorem codeOf_any (s : ByteArray) (w : World) (hs : s.size ≤ 10000) :
    Calls Tryz.prog 162 #[.string s] w fun e w' => e = .returned (.int .i64 (codS s)) ∧ Below w.heap.size w w' := by
  have hrd := fun w => readDec_any s w (by unfold maxLen; omega)
  have hle := rdN_le 10 s.data.toList
  by_cases h0 : rdE 10 s.data.toList = 0
  · rw [h0] at hrd
    by_cases h1 : s.size = 3
    · have hd1 : ((s.size : Int) == 3) = true := by rw [h1]; rfl
      have hbn : ((s.size : Int) != 3) = false := by rw [h1]; rfl
      have HR : Hid (codS s = (rdN 10 s.data.toList : Int)) := by unfold Hid codS cod; rw [if_pos ⟨h0, by rw [size_list, h1]⟩]
      clear h0
      generalize rdN 10 s.data.toList = n at hrd hle HR
      have hw : IntKind.i64.wrap (n : Int) = n := by simp [IntKind.wrap, IntKind.bits, IntKind.signed]; omega
      go_enter Tryz.func162, Tryz.ntmps162
      go_wp2_with fail
      refine (hrd _).mono ?_
      rintro e w1 ⟨rfl, hb1⟩
      go_wp2_with fail
      go_ret
      exact ⟨by rw [HR.out]; rfl, hb1⟩
    · have hbn : ((s.size : Int) != 3) = true := by simp; omega
      have HR : Hid (codS s = -1) := by unfold Hid codS cod; rw [if_neg (fun e => h1 (by rw [← size_list]; exact e.2))]
      clear h0
      generalize rdN 10 s.data.toList = n at hrd hle
      go_enter Tryz.func162, Tryz.ntmps162
      go_wp2_with fail
      refine (hrd _).mono ?_
      rintro e w1 ⟨rfl, hb1⟩
      go_wp2_with fail
      go_ret
      exact ⟨by rw [HR.out]; rfl, hb1⟩
  · have HR : Hid (codS s = -1) := by unfold Hid codS cod; rw [if_neg (fun e => h0 e.1)]
    generalize rdE 10 s.data.toList = x at hrd h0
    have hbn : ((x : Int) != 0) = true := by simp; omega
    clear h0
    generalize rdN 10 s.data.toList = n at hrd hle
    go_enter Tryz.func162, Tryz.ntmps162
    go_wp2_with fail
    refine (hrd _).mono ?_
    rintro e w1 ⟨rfl, hb1⟩
    go_wp2_with fail
    go_ret
    exact ⟨by rw [HR.out]; rfl, hb1⟩

def decI (n : Int) : ByteArray := decS n.toNat

set_option maxRecDepth 100000 in
set_option maxHeartbeats 1000000 in
theorem decimal_any (n : Int) (w : World) (h0 : 0 ≤ n) (h1 : n ≤ 599) (ht : Tabs w) :
    Calls Tryz.prog 37 #[.int .i64 n] w fun e w' => e = .returned (.string (decI n)) ∧ Below w.heap.size w w' := by
  obtain ⟨u, rfl⟩ : ∃ u : Nat, n = u := ⟨n.toNat, by omega⟩
  have hw := u64_id (n := (u : Int)) (by omega) (by omega)
  have HD : Hid (decI (u : Int) = decS u) := by unfold Hid decI; simp
  go_enter Tryz.func37, Tryz.ntmps37
  go_wp2_with fail
  refine (dec_any u (by omega) _ ht).mono ?_
  rintro e w1 ⟨rfl, hb1⟩
  go_wp2_with fail
  go_ret
  exact ⟨by rw [HD.out]; rfl, hb1⟩

theorem decI_list (n : Int) : (decI n).data.toList = dgs 10 (by omega) n.toNat := decS_list _
theorem decI_size {n : Int} (h0 : 0 ≤ n) (h1 : n ≤ 599) : (decI n).size ≤ 20 := decS_le _ (by omega)
theorem wrS_req {s : St} (h : s.c = 0) : wrS s = s.m ++ (⟨#[32]⟩ : ByteArray) ++ s.t ++ (⟨#[32]⟩ : ByteArray) ++ ((⟨#[72, 84, 84, 80, 47, 49, 46]⟩ : ByteArray) ++ decI s.n) := by
  apply bytes_ext
  rw [wrS_list, wr_req h]
  simp only [app_list, decI_list, verN, verL]
  simp
theorem wrS_sta {s : St} (h : s.c ≠ 0) : wrS s = ((⟨#[72, 84, 84, 80, 47, 49, 46]⟩ : ByteArray) ++ decI s.n) ++ (⟨#[32]⟩ : ByteArray) ++ decI s.c ++ (⟨#[32]⟩ : ByteArray) ++ s.r := by
  apply bytes_ext
  rw [wrS_list, wr_sta h]
  simp only [app_list, decI_list, verN, verL]
  simp

/-- What Print answers. -/
def prS (s : St) : ByteArray := if rtB s then wrS s else ⟨#[]⟩
def prE (s : St) : Int := if rtB s then 0 else 1
theorem pr_yes {s : St} (h : rtB s = true) : prS s = wrS s ∧ prE s = 0 := by unfold prS prE; rw [h]; exact ⟨rfl, rfl⟩
theorem pr_no {s : St} (h : rtB s = false) : prS s = ⟨#[]⟩ ∧ prE s = 1 := by unfold prS prE; rw [h]; exact ⟨rfl, rfl⟩

set_option maxRecDepth 100000 in
set_option maxHeartbeats 1000000 in
theorem print_any (s : St) (w : World) (hs : Short s) (ht : Tabs w) :
    Calls Tryz.prog 19 #[s.v] w fun e w' => e = .returned (.tuple #[.string (prS s), .int .i64 (prE s)]) ∧ Below w.heap.size w w' := by
  have hnew := Five.new w s
  have hbn : Below w.heap.size w (w.alloc (.cells s.cs.toArray 23)) := (Below.refl _ _).alloc (Nat.le_refl _) _
  unfold St.cs at hnew hbn
  have htn := ht.below hbn
  have f1 := hs.m
  have f2 := hs.t
  have f3 := hs.r
  cases h1 : rtB s
  · have HR := hide (pr_no h1)
    have H1 := hide h1
    clear h1
    unfold St.v
    go_enter Tryz.func19, Tryz.ntmps19
    go_wp2_with fail
    generalize w.alloc _ = W1 at hnew hbn htn ⊢
    refine (sright_any s _ hs).mono ?_
    rintro e w1 ⟨rfl, hb1⟩
    rw [H1.out]
    go_wp2_with fail
    go_ret2
    exact ⟨ret_pair HR.out.1.symm HR.out.2.symm, hbn.trans (hb1.mono hbn.size)⟩
  · have hn : 0 ≤ s.n ∧ s.n ≤ 599 := by rcases rt_minor h1 with e | e <;> omega
    have hns := decI_size hn.1 hn.2
    by_cases hc : s.c = 0
    · have hR := pr_yes h1
      rw [wrS_req hc] at hR
      have HR := hide hR
      clear hR
      have H1 := hide h1
      clear h1
      obtain ⟨m, t, c, r, n⟩ := s
      obtain rfl : c = 0 := hc
      unfold St.v
      dsimp only at hnew hbn htn f1 f2 f3 hn hns HR
      go_enter Tryz.func19, Tryz.ntmps19
      go_wp2_with fail
      generalize w.alloc _ = W1 at hnew hbn htn ⊢
      refine (sright_any ⟨m, t, 0, r, n⟩ _ hs).mono ?_
      rintro e w1 ⟨rfl, hb1⟩
      rw [H1.out]
      have hX1 := hnew.below hb1
      have hB1 := hbn.trans (hb1.mono hbn.size)
      have ht1 := htn.below hb1
      clear hnew hbn htn hb1 W1
      have c4 : w1.cell? ⟨w.heap.size, 4, none⟩ = some (.int .i64 n) := hX1.c4
      go_wp2_with fail
      refine (decimal_any n _ hn.1 hn.2 ht1).mono ?_
      rintro e w2 ⟨rfl, hb2⟩
      have hB2 := hB1.trans (hb2.mono hB1.size)
      clear c4
      obtain ⟨c0, c1, c2, c3, c4, -, -⟩ := hX1.below hb2
      dsimp only at c0 c1 c2 c3 c4
      generalize decI n = V at hns HR
      have k1 : ¬ 9223372036854775807 < 7 + V.size := by omega
      go_wp2_with fail
      go_ret2
      exact ⟨ret_pair HR.out.1.symm HR.out.2.symm, hB2⟩
    · have hR := pr_yes h1
      rw [wrS_sta hc] at hR
      have HR := hide hR
      clear hR
      have q := rt_sta h1 hc
      have hk0 : 0 ≤ s.c := by have := q.c0; omega
      have hk1 := q.c1
      have hcs := decI_size hk0 hk1
      have H1 := hide h1
      clear h1 q
      have hcd : (s.c == 0) = false := by simpa using hc
      unfold St.v
      go_enter Tryz.func19, Tryz.ntmps19
      go_wp2_with fail
      generalize w.alloc _ = W1 at hnew hbn htn ⊢
      refine (sright_any s _ hs).mono ?_
      rintro e w1 ⟨rfl, hb1⟩
      rw [H1.out]
      have hX1 := hnew.below hb1
      have hB1 := hbn.trans (hb1.mono hbn.size)
      have ht1 := htn.below hb1
      clear hnew hbn htn hb1 W1
      have c4 := hX1.c4
      go_wp2_with fail
      refine (decimal_any s.n _ hn.1 hn.2 ht1).mono ?_
      rintro e w2 ⟨rfl, hb2⟩
      have hB2 := hB1.trans (hb2.mono hB1.size)
      have hX2 := hX1.below hb2
      have ht2 := ht1.below hb2
      clear c4
      obtain ⟨c0, c1, c2, c3, c4, -, -⟩ := id hX2
      generalize decI s.n = V at hns HR
      have k1 : ¬ 9223372036854775807 < 7 + V.size := by omega
      go_wp2_with fail
      clear c0 c1 c2 c3 c4
      have htd := ht2.below (below_drew (Below.refl _ w2))
      have hnd := hX2.drew
      have HD := hide (fun (W : World) (h : Tabs W) => decimal_any s.c W hk0 hk1 h)
      generalize decI s.c = C at HR hcs HD
      have k2 : ¬ 9223372036854775807 < 7 + V.size + 1 := by omega
      have k3 : ¬ 9223372036854775807 < 7 + V.size + 1 + C.size := by omega
      have k4 : ¬ 9223372036854775807 < 7 + V.size + 1 + C.size + 1 := by omega
      have k5 : ¬ 9223372036854775807 < 7 + V.size + 1 + C.size + 1 + s.r.size := by omega
      go_region_held3 (fun w' => w'.cell? ⟨w.heap.size, 2, none⟩ = some (.int .i64 s.c) ∧ w'.cell? ⟨w.heap.size, 3, none⟩ = some (.string s.r))
        (first | exact ⟨hnd.c2, hnd.c3⟩ | exact ⟨(hnd.below (by assumption)).c2, (hnd.below (by assumption)).c3⟩)
        (first | (go_at_call 37; refine (HD.out w2.drew htd).mono ?_; rintro e w3 ⟨rfl, hb3⟩))
      go_wp2_with fail
      go_ret2
      have hBd := below_drew hB2
      exact ⟨ret_pair HR.out.1.symm HR.out.2.symm, hBd.trans (hb3.mono hBd.size)⟩

theorem ps_short {s : ByteArray} (hs : s.size ≤ 5000) : Short (psU s) := by
  have a1 := befS_size 32 s
  have a2 := aftS_size 32 s
  have a3 := befS_size 32 (aftS 32 s)
  exact ⟨by show (befS 32 s).size ≤ 10000; omega, by show (befS 32 (aftS 32 s)).size ≤ 10000; omega, by show (0 : Nat) ≤ 10000; omega⟩
theorem st_short {s : ByteArray} (hs : s.size ≤ 5000) : Short (stU s) := by
  have a2 := aftS_size 32 s
  have a3 := aftS_size 32 (aftS 32 s)
  exact ⟨by show (0 : Nat) ≤ 10000; omega, by show (0 : Nat) ≤ 10000; omega, by show (aftS 32 (aftS 32 s)).size ≤ 10000; omega⟩

set_option maxRecDepth 100000 in
set_option maxHeartbeats 1000000 in
theorem parse_any (s : ByteArray) (w : World) (hs : s.size ≤ 5000) :
    Calls Tryz.prog 145 #[.string s] w fun e w' => e = .returned (.tuple #[(gvU (psU s)).v, .int .i64 (gvE (psU s))]) ∧ Below w.heap.size w w' := by
  have hR0 := five_zero w
  have hB0 : Below w.heap.size w (w.alloc (.cells #[.string ⟨#[]⟩, .string ⟨#[]⟩, .int .i64 0, .string ⟨#[]⟩, .int .i64 0] 23)) := (Below.refl _ _).alloc (Nat.le_refl _) _
  have a1 := befS_size 32 s
  have a2 := aftS_size 32 s
  have HI := hide (fun W => ifRight_any (psU s) W (ps_short hs))
  have HV : Hid ((psU s).v = .agg #[.string (befS 32 s), .string (befS 32 (aftS 32 s)), .int .i64 0, .string ⟨#[]⟩, .int .i64 (mnrS (aftS 32 (aftS 32 s)))]) := rfl
  rw [HV.out] at HI
  clear HV
  generalize gvU (psU s) = R at HI ⊢
  generalize gvE (psU s) = E at HI ⊢
  go_enter Tryz.func145, Tryz.ntmps145
  go_wp2_with fail
  generalize w.alloc _ = W0 at hR0 hB0 ⊢
  refine (cut_any s 32 _ (by omega)).mono ?_
  rintro e w1 ⟨rfl, n1, rfl⟩
  go_wp2_with fail
  refine (cut_any (aftS 32 s) 32 _ (by omega)).mono ?_
  rintro e w2 ⟨rfl, n2, rfl⟩
  have hR3 := (hR0.drewN n1).drewN n2
  have hB3 : Below w.heap.size w ((W0.drewN n1).drewN n2) := (hB0.trans ((below_drewN W0 n1).mono hB0.size)).trans ((below_drewN (W0.drewN n1) n2).mono hB0.size)
  generalize (W0.drewN n1).drewN n2 = W2 at hR3 hB3 ⊢
  go_wp2_with fail
  refine (minorOf_any _ _).mono ?_
  rintro e w3 ⟨rfl, hw3⟩
  subst hw3
  go_wp2_with fail
  refine (HI.out _).mono ?_
  rintro e w4 ⟨rfl, hb4⟩
  obtain ⟨r0, r1, r2, r3, r4, -, rf⟩ := hR3.below hb4
  have hB4 := hB3.trans (hb4.mono hB3.size)
  unfold St.v
  go_wp2_with fail
  refine bodyPost_ret (v := .tuple #[R.v, .int .i64 E]) (by simp [results, Tryz.results145, go_sem, St.v, *]) rfl ⟨rfl, ?_⟩
  exact put5_below hB4 (Nat.le_refl _) R

set_option maxRecDepth 100000 in
set_option maxHeartbeats 1000000 in
theorem status_any (s : ByteArray) (w : World) (hs : s.size ≤ 5000) :
    Calls Tryz.prog 146 #[.string s] w fun e w' => e = .returned (.tuple #[(gvU (stU s)).v, .int .i64 (gvE (stU s))]) ∧ Below w.heap.size w w' := by
  have hR0 := five_zero w
  have hB0 : Below w.heap.size w (w.alloc (.cells #[.string ⟨#[]⟩, .string ⟨#[]⟩, .int .i64 0, .string ⟨#[]⟩, .int .i64 0] 23)) := (Below.refl _ _).alloc (Nat.le_refl _) _
  have a1 := befS_size 32 s
  have a2 := aftS_size 32 s
  have a3 := befS_size 32 (aftS 32 s)
  have HI := hide (fun W => ifRight_any (stU s) W (st_short hs))
  have HV : Hid ((stU s).v = .agg #[.string ⟨#[]⟩, .string ⟨#[]⟩, .int .i64 (codS (befS 32 (aftS 32 s))), .string (aftS 32 (aftS 32 s)), .int .i64 (mnrS (befS 32 s))]) := rfl
  rw [HV.out] at HI
  clear HV
  generalize gvU (stU s) = R at HI ⊢
  generalize gvE (stU s) = E at HI ⊢
  go_enter Tryz.func146, Tryz.ntmps146
  go_wp2_with fail
  generalize w.alloc _ = W0 at hR0 hB0 ⊢
  refine (cut_any s 32 _ (by omega)).mono ?_
  rintro e w1 ⟨rfl, n1, rfl⟩
  go_wp2_with fail
  refine (cut_any (aftS 32 s) 32 _ (by omega)).mono ?_
  rintro e w2 ⟨rfl, n2, rfl⟩
  have hR2 := (hR0.drewN n1).drewN n2
  have hB2 : Below w.heap.size w ((W0.drewN n1).drewN n2) := (hB0.trans ((below_drewN W0 n1).mono hB0.size)).trans ((below_drewN (W0.drewN n1) n2).mono hB0.size)
  generalize (W0.drewN n1).drewN n2 = W2 at hR2 hB2 ⊢
  go_wp2_with fail
  refine (codeOf_any _ _ (by omega)).mono ?_
  rintro e w3 ⟨rfl, hb3⟩
  have hR3 := hR2.below hb3
  have hB3 := hB2.trans (hb3.mono hB2.size)
  go_wp2_with fail
  refine (minorOf_any _ _).mono ?_
  rintro e w4 ⟨rfl, hw4⟩
  subst hw4
  go_wp2_with fail
  refine (HI.out _).mono ?_
  rintro e w5 ⟨rfl, hb5⟩
  obtain ⟨r0, r1, r2, r3, r4, -, rf⟩ := hR3.below hb5
  have hB5 := hB3.trans (hb5.mono hB3.size)
  unfold St.v
  go_wp2_with fail
  refine bodyPost_ret (v := .tuple #[R.v, .int .i64 E]) (by simp [results, Tryz.results146, go_sem, St.v, *]) rfl ⟨rfl, ?_⟩
  exact put5_below hB5 (Nat.le_refl _) R

end Go.Proofs.YtmpijlaidnhpnaaGreatDoor.Sr

namespace Go.Proofs.YtmpijlaidnhpnaaGreatDoor.Sr
set_option linter.unusedVariables false
set_option linter.unusedSimpArgs false
set_option maxRecDepth 100000
open Go.RowKit

theorem refdec_any (n : Int) (h0 : 0 ≤ n) (h1 : n ≤ 599) (w : World) :
    Calls Tryz.prog 48 #[.int .u64 n, .int .u64 10] w fun e w' => e = .returned (.string (decI n)) ∧ ∃ k, w' = w.drewN k := by
  obtain ⟨u, rfl⟩ : ∃ u : Nat, n = u := ⟨n.toNat, by omega⟩
  have h := refDigits10 u (by omega) w
  have e : decI (u : Int) = ⟨(dgs 10 (by omega) u).toArray⟩ := by unfold decI decS; simp
  rw [e]
  exact h

set_option maxRecDepth 100000 in
set_option maxHeartbeats 1000000 in
theorem refprint_any (s : St) (w : World) (hs : Short s) (hr : rtB s = true) :
    Calls Tryz.prog 29 #[s.v] w fun e w' => e = .returned (.string (wrS s)) ∧ Below w.heap.size w w' := by
  have hnew := Five.new w s
  have hbn : Below w.heap.size w (w.alloc (.cells s.cs.toArray 23)) := (Below.refl _ _).alloc (Nat.le_refl _) _
  unfold St.cs at hnew hbn
  have f1 := hs.m
  have f2 := hs.t
  have f3 := hs.r
  have hn : 0 ≤ s.n ∧ s.n ≤ 599 := by rcases rt_minor hr with e | e <;> omega
  have hns := decI_size hn.1 hn.2
  have HN := hide (refdec_any s.n hn.1 hn.2)
  have hwn := u64_id (n := s.n) hn.1 (by omega)
  by_cases hc : s.c = 0
  · have HW := hide (wrS_req hc)
    obtain ⟨m, t, c, r, n⟩ := s
    obtain rfl : c = 0 := hc
    unfold St.v
    dsimp only at hnew hbn f1 f2 f3 hn hns HN HW hwn
    generalize wrS ⟨m, t, 0, r, n⟩ = R at HW ⊢
    clear hs hr hn
    generalize decI n = V at hns HN HW
    have k1 : ¬ 9223372036854775807 < 7 + V.size := by omega
    go_enter Tryz.func29, Tryz.ntmps29
    go_wp2_with fail
    generalize w.alloc _ = W1 at hnew hbn ⊢
    refine (HN.out _).mono ?_
    rintro e w1 ⟨rfl, k, rfl⟩
    have hX := hnew.drewN k
    have hB := below_quiet hbn k
    generalize W1.drewN k = W2 at hX hB ⊢
    obtain ⟨c0, c1, c2, c3, c4, -, -⟩ := hX
    dsimp only at c0 c1 c2 c3 c4
    go_wp2_with fail
    go_ret
    exact ⟨by rw [HW.out]; rfl, hB⟩
  · have HW := hide (wrS_sta hc)
    have q := rt_sta hr hc
    have hk0 : 0 ≤ s.c := by have := q.c0; omega
    have hk1 := q.c1
    have hcs := decI_size hk0 hk1
    have HC := hide (refdec_any s.c hk0 hk1)
    have hwc := u64_id (n := s.c) hk0 (by omega)
    have hcd : (s.c == 0) = false := by simpa using hc
    unfold St.v
    generalize wrS s = R at HW ⊢
    clear hs hr hn hc q hk0 hk1
    generalize decI s.n = V at hns HN HW
    generalize decI s.c = C at hcs HC HW
    have k1 : ¬ 9223372036854775807 < 7 + V.size := by omega
    have k2 : ¬ 9223372036854775807 < 7 + V.size + 1 := by omega
    have k3 : ¬ 9223372036854775807 < 7 + V.size + 1 + C.size := by omega
    have k4 : ¬ 9223372036854775807 < 7 + V.size + 1 + C.size + 1 := by omega
    have k5 : ¬ 9223372036854775807 < 7 + V.size + 1 + C.size + 1 + s.r.size := by omega
    go_enter Tryz.func29, Tryz.ntmps29
    go_wp2_with fail
    generalize w.alloc _ = W1 at hnew hbn ⊢
    refine (HN.out _).mono ?_
    rintro e w1 ⟨rfl, k, rfl⟩
    have hX := hnew.drewN k
    have hB := below_quiet hbn k
    generalize W1.drewN k = W2 at hX hB ⊢
    obtain ⟨c0, c1, c2, c3, c4, -, -⟩ := hX
    go_wp2_with fail
    go_quiet (first | (go_at_call 48; refine Calls.quiet_of (HC.out _)))
    go_wp2_with fail
    go_ret
    exact ⟨by rw [HW.out]; rfl, below_quiet hB _⟩

theorem rp_short {s : ByteArray} (hs : s.size ≤ 5000) : Short (rpU s) := by
  have h := ps_short hs
  exact ⟨h.m, h.t, h.r⟩
theorem rs_short {s : ByteArray} (hs : s.size ≤ 5000) : Short (rsU s) := by
  have h := st_short hs
  exact ⟨h.m, h.t, h.r⟩
theorem rp_one {s : ByteArray} (h : ((aftS 32 (aftS 32 s)).toList == [72, 84, 84, 80, 47, 49, 46, 49]) = true) : rpU s = ⟨befS 32 s, befS 32 (aftS 32 s), 0, noS, 1⟩ := by
  unfold rpU; rw [if_pos (show _ = verL ++ [49] from eq_of_beq h)]
theorem rp_zero {s : ByteArray} (h : ((aftS 32 (aftS 32 s)).toList == [72, 84, 84, 80, 47, 49, 46, 49]) = false) : rpU s = ⟨befS 32 s, befS 32 (aftS 32 s), 0, noS, 0⟩ := by
  unfold rpU; rw [if_neg (show ¬ _ = verL ++ [49] from ne_of_beq h)]
theorem str_beq {a b : ByteArray} (h : a = b) : (a.toList == b.toList) = true := by rw [h]; simp
theorem str_bne {a b : ByteArray} (h : a ≠ b) : (a.toList == b.toList) = false := by
  rw [ByteArray.toList_eq, ByteArray.toList_eq]
  simpa using fun e => h (bytes_ext e)

theorem rs_one {s : ByteArray} (h : ((befS 32 s).toList == [72, 84, 84, 80, 47, 49, 46, 49]) = true) : rsU s = ⟨noS, noS, (rdN 10 (befS 32 (aftS 32 s)).data.toList : Int), aftS 32 (aftS 32 s), 1⟩ := by
  unfold rsU; rw [if_pos (show _ = verL ++ [49] from eq_of_beq h)]
theorem rs_zero {s : ByteArray} (h : ((befS 32 s).toList == [72, 84, 84, 80, 47, 49, 46, 49]) = false) : rsU s = ⟨noS, noS, (rdN 10 (befS 32 (aftS 32 s)).data.toList : Int), aftS 32 (aftS 32 s), 0⟩ := by
  unfold rsU; rw [if_neg (show ¬ _ = verL ++ [49] from ne_of_beq h)]
theorem line_has {s : ByteArray} (h : hasB 32 (aftS 32 s) = true) : lineS s = s := by
  unfold lineS; rw [if_pos ((hasL_iff _ _).1 h)]
theorem line_not {s : ByteArray} (h : hasB 32 (aftS 32 s) = false) : lineS s = s ++ ⟨#[32]⟩ := by
  unfold lineS; rw [if_neg ((hasL_false _ _).1 h)]

end Go.Proofs.YtmpijlaidnhpnaaGreatDoor.Sr
