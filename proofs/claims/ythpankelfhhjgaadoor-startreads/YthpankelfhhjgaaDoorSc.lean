/- The walks of Print, Parse and Status. -/
import Derived.Test.YthpankelfhhjgaaDoorSb
namespace Go.Proofs.YthpankelfhhjgaaDoor
set_option linter.unusedVariables false
set_option linter.unusedSimpArgs false
open Go.RowKit

/-- What is answered for a first line that was read. -/
def gvU (s : St) : St := if rtB s then s else St.no
def gvE (s : St) : Int := if rtB s then 0 else 30
theorem gv_yes {s : St} (h : rtB s = true) : gvU s = s ∧ gvE s = 0 := by unfold gvU gvE; rw [h]; exact ⟨rfl, rfl⟩
theorem gv_no {s : St} (h : rtB s = false) : gvU s = St.no ∧ gvE s = 30 := by unfold gvU gvE; rw [h]; exact ⟨rfl, rfl⟩

set_option maxRecDepth 100000 in
set_option maxHeartbeats 1000000 in
theorem ifRight_any (s : St) (w : World) (hs : Short s) :
    Calls Tryd.prog 20 #[s.v] w fun e w' => e = .returned (.tuple #[(gvU s).v, .int .i64 (gvE s)]) ∧ Below w.heap.size w w' := by
  have hnew := Five.new w s
  have hbn : Below w.heap.size w (w.alloc (.cells s.cs.toArray 23)) := (Below.refl _ _).alloc (Nat.le_refl _) _
  unfold St.cs at hnew hbn
  have hR0 := five_zero (w.alloc (.cells #[.string s.m, .string s.t, .int .i64 s.c, .string s.r, .int .i64 s.n] 23))
  have hN0 := hnew.alloc (.cells #[.string ⟨#[]⟩, .string ⟨#[]⟩, .int .i64 0, .string ⟨#[]⟩, .int .i64 0] 23)
  have hB0 := hbn.alloc (o := (.cells #[.string ⟨#[]⟩, .string ⟨#[]⟩, .int .i64 0, .string ⟨#[]⟩, .int .i64 0] 23)) hbn.size
  have hsz : (w.alloc (.cells #[.string s.m, .string s.t, .int .i64 s.c, .string s.r, .int .i64 s.n] 23)).heap.size = w.heap.size + 1 := by simp
  rw [hsz] at hR0
  clear hnew hbn hsz
  cases h1 : rtB s
  · have HR := hide (gv_no h1)
    have H1 := hide h1
    clear h1
    unfold St.v
    go_enter Tryd.func20, Tryd.ntmps20
    go_wp2_with fail
    generalize World.alloc _ _ = W1 at hR0 hN0 hB0 ⊢
    refine (right_any s _ hs).mono ?_
    rintro e w1 ⟨rfl, hb1⟩
    rw [H1.out]
    have hB1 := hB0.trans (hb1.mono hB0.size)
    obtain ⟨r0, r1, r2, r3, r4, -, rf⟩ := hR0.below hb1
    go_wp2_with fail
    refine bodyPost_ret (v := .tuple #[St.no.v, .int .i64 30]) (by simp [results, Tryd.results20, go_sem, no_v, *]) rfl ⟨ret_se HR.out.1.symm HR.out.2.symm, ?_⟩
    exact put5_below hB1 (by omega) St.no
  · have HR := hide (gv_yes h1)
    have H1 := hide h1
    clear h1
    go_enter Tryd.func20, Tryd.ntmps20
    unfold St.v
    go_wp2_with fail
    generalize World.alloc _ _ = W1 at hR0 hN0 hB0 ⊢
    refine (right_any s _ hs).mono ?_
    rintro e w1 ⟨rfl, hb1⟩
    rw [H1.out]
    have hB1 := hB0.trans (hb1.mono hB0.size)
    obtain ⟨r0, r1, r2, r3, r4, -, rf⟩ := hR0.below hb1
    obtain ⟨n0, n1, n2, n3, n4, -, -⟩ := hN0.below hb1
    go_wp2_with fail
    refine bodyPost_ret (v := .tuple #[s.v, .int .i64 0]) (by simp [results, Tryd.results20, go_sem, St.v, *]) rfl ⟨ret_se HR.out.1.symm HR.out.2.symm, ?_⟩
    exact put5_below hB1 (by omega) s

def mnrS (s : ByteArray) : Int := mnr s.data.toList
def codS (s : ByteArray) : Int := cod s.data.toList

set_option maxRecDepth 100000 in
set_option maxHeartbeats 1000000 in
theorem minorOf_any (s : ByteArray) (w : World) :
    Calls Tryd.prog 21 #[.string s] w fun e w' => e = .returned (.int .i64 (mnrS s)) ∧ w' = w := by
  cases h0 : (s.toList == [72, 84, 84, 80, 47, 49, 46, 48])
  · cases h1 : (s.toList == [72, 84, 84, 80, 47, 49, 46, 49])
    · have HR : Hid (mnrS s = -1) := by
        unfold Hid mnrS mnr
        rw [if_neg (show ¬ s.data.toList = verL ++ [48] from ne_of_beq h0), if_neg (show ¬ s.data.toList = verL ++ [49] from ne_of_beq h1)]
      go_enter Tryd.func21, Tryd.ntmps21
      go_wp2_with fail
      go_ret
      exact ⟨by rw [HR.out]; rfl, rfl⟩
    · have HR : Hid (mnrS s = 1) := by
        unfold Hid mnrS mnr
        rw [if_neg (show ¬ s.data.toList = verL ++ [48] from ne_of_beq h0), if_pos (show s.data.toList = verL ++ [49] from eq_of_beq h1)]
      go_enter Tryd.func21, Tryd.ntmps21
      go_wp2_with fail
      go_ret
      exact ⟨by rw [HR.out]; rfl, rfl⟩
  · have HR : Hid (mnrS s = 0) := by
      unfold Hid mnrS mnr
      rw [if_pos (show s.data.toList = verL ++ [48] from eq_of_beq h0)]
    go_enter Tryd.func21, Tryd.ntmps21
    go_wp2_with fail
    go_ret
    exact ⟨by rw [HR.out]; rfl, rfl⟩

theorem u64_id {n : Int} (h0 : 0 ≤ n) (h1 : n ≤ 1000000) : IntKind.u64.wrap n = n := by simp [IntKind.wrap, IntKind.bits, IntKind.signed]; omega

set_option maxRecDepth 100000 in
set_option maxHeartbeats 1000000 in
theorem codeOf_any (s : ByteArray) (w : World) (hs : s.size ≤ 10000) :
    Calls Tryd.prog 23 #[.string s] w fun e w' => e = .returned (.int .i64 (codS s)) ∧ Below w.heap.size w w' := by
  have hrd := fun w => readDec_any s w (by unfold maxLen; omega)
  have hle := rdN_le 10 s.data.toList
  by_cases h0 : rdE 10 s.data.toList = 0
  · rw [h0] at hrd
    by_cases h1 : s.size = 3
    · have hd1 : ((s.size : Int) == 3) = true := by rw [h1]; rfl
      have hbn : ((s.size : Int) != 3) = false := by rw [h1]; rfl
      have HR : Hid (codS s = (rdN 10 s.data.toList : Int)) := by unfold Hid codS cod; rw [if_pos ⟨h0, by rw [size_list, h1]⟩]
      clear h0
      generalize rdN 10 s.data.toList = n at hrd hle HR
      have hw : IntKind.i64.wrap (n : Int) = n := by simp [IntKind.wrap, IntKind.bits, IntKind.signed]; omega
      go_enter Tryd.func23, Tryd.ntmps23
      go_wp2_with fail
      refine (hrd _).mono ?_
      rintro e w1 ⟨rfl, hb1⟩
      go_wp2_with fail
      go_ret
      exact ⟨by rw [HR.out]; rfl, hb1⟩
    · have hbn : ((s.size : Int) != 3) = true := by simp; omega
      have HR : Hid (codS s = -1) := by unfold Hid codS cod; rw [if_neg (fun e => h1 (by rw [← size_list]; exact e.2))]
      clear h0
      generalize rdN 10 s.data.toList = n at hrd hle
      go_enter Tryd.func23, Tryd.ntmps23
      go_wp2_with fail
      refine (hrd _).mono ?_
      rintro e w1 ⟨rfl, hb1⟩
      go_wp2_with fail
      go_ret
      exact ⟨by rw [HR.out]; rfl, hb1⟩
  · have HR : Hid (codS s = -1) := by unfold Hid codS cod; rw [if_neg (fun e => h0 e.1)]
    generalize rdE 10 s.data.toList = x at hrd h0
    have hbn : ((x : Int) != 0) = true := by simp; omega
    clear h0
    generalize rdN 10 s.data.toList = n at hrd hle
    go_enter Tryd.func23, Tryd.ntmps23
    go_wp2_with fail
    refine (hrd _).mono ?_
    rintro e w1 ⟨rfl, hb1⟩
    go_wp2_with fail
    go_ret
    exact ⟨by rw [HR.out]; rfl, hb1⟩

def decI (n : Int) : ByteArray := decS n.toNat

set_option maxRecDepth 100000 in
set_option maxHeartbeats 1000000 in
theorem decimal_any (n : Int) (w : World) (h0 : 0 ≤ n) (h1 : n ≤ 599) (ht : Tabs w) :
    Calls Tryd.prog 18 #[.int .i64 n] w fun e w' => e = .returned (.string (decI n)) ∧ Below w.heap.size w w' := by
  obtain ⟨u, rfl⟩ : ∃ u : Nat, n = u := ⟨n.toNat, by omega⟩
  have hw := u64_id (n := (u : Int)) (by omega) (by omega)
  have HD : Hid (decI (u : Int) = decS u) := by unfold Hid decI; simp
  go_enter Tryd.func18, Tryd.ntmps18
  go_wp2_with fail
  refine (dec_any u (by omega) _ ht).mono ?_
  rintro e w1 ⟨rfl, hb1⟩
  go_wp2_with fail
  go_ret
  exact ⟨by rw [HD.out]; rfl, hb1⟩

theorem decI_list (n : Int) : (decI n).data.toList = dgs 10 (by omega) n.toNat := decS_list _
theorem decI_size {n : Int} (h0 : 0 ≤ n) (h1 : n ≤ 599) : (decI n).size ≤ 20 := decS_le _ (by omega)
theorem wrS_req {s : St} (h : s.c = 0) : wrS s = s.m ++ (⟨#[32]⟩ : ByteArray) ++ s.t ++ (⟨#[32]⟩ : ByteArray) ++ ((⟨#[72, 84, 84, 80, 47, 49, 46]⟩ : ByteArray) ++ decI s.n) := by
  apply bytes_ext
  rw [wrS_list, wr_req h]
  simp only [app_list, decI_list, verN, verL]
  simp
theorem wrS_sta {s : St} (h : s.c ≠ 0) : wrS s = ((⟨#[72, 84, 84, 80, 47, 49, 46]⟩ : ByteArray) ++ decI s.n) ++ (⟨#[32]⟩ : ByteArray) ++ decI s.c ++ (⟨#[32]⟩ : ByteArray) ++ s.r := by
  apply bytes_ext
  rw [wrS_list, wr_sta h]
  simp only [app_list, decI_list, verN, verL]
  simp

/-- What Print answers. -/
def prS (s : St) : ByteArray := if rtB s then wrS s else ⟨#[]⟩
def prE (s : St) : Int := if rtB s then 0 else 1
theorem pr_yes {s : St} (h : rtB s = true) : prS s = wrS s ∧ prE s = 0 := by unfold prS prE; rw [h]; exact ⟨rfl, rfl⟩
theorem pr_no {s : St} (h : rtB s = false) : prS s = ⟨#[]⟩ ∧ prE s = 1 := by unfold prS prE; rw [h]; exact ⟨rfl, rfl⟩

set_option maxRecDepth 100000 in
set_option maxHeartbeats 1000000 in
theorem print_any (s : St) (w : World) (hs : Short s) (ht : Tabs w) :
    Calls Tryd.prog 7 #[s.v] w fun e w' => e = .returned (.tuple #[.string (prS s), .int .i64 (prE s)]) ∧ Below w.heap.size w w' := by
  have hnew := Five.new w s
  have hbn : Below w.heap.size w (w.alloc (.cells s.cs.toArray 23)) := (Below.refl _ _).alloc (Nat.le_refl _) _
  unfold St.cs at hnew hbn
  have htn := ht.below hbn
  have f1 := hs.m
  have f2 := hs.t
  have f3 := hs.r
  cases h1 : rtB s
  · have HR := hide (pr_no h1)
    have H1 := hide h1
    clear h1
    unfold St.v
    go_enter Tryd.func7, Tryd.ntmps7
    go_wp2_with fail
    generalize w.alloc _ = W1 at hnew hbn htn ⊢
    refine (right_any s _ hs).mono ?_
    rintro e w1 ⟨rfl, hb1⟩
    rw [H1.out]
    go_wp2_with fail
    go_ret2
    exact ⟨ret_pair HR.out.1.symm HR.out.2.symm, hbn.trans (hb1.mono hbn.size)⟩
  · have hn : 0 ≤ s.n ∧ s.n ≤ 599 := by rcases rt_minor h1 with e | e <;> omega
    have hns := decI_size hn.1 hn.2
    by_cases hc : s.c = 0
    · have hR := pr_yes h1
      rw [wrS_req hc] at hR
      have HR := hide hR
      clear hR
      have H1 := hide h1
      clear h1
      obtain ⟨m, t, c, r, n⟩ := s
      obtain rfl : c = 0 := hc
      unfold St.v
      dsimp only at hnew hbn htn f1 f2 f3 hn hns HR
      go_enter Tryd.func7, Tryd.ntmps7
      go_wp2_with fail
      generalize w.alloc _ = W1 at hnew hbn htn ⊢
      refine (right_any ⟨m, t, 0, r, n⟩ _ hs).mono ?_
      rintro e w1 ⟨rfl, hb1⟩
      rw [H1.out]
      have hX1 := hnew.below hb1
      have hB1 := hbn.trans (hb1.mono hbn.size)
      have ht1 := htn.below hb1
      clear hnew hbn htn hb1 W1
      have c4 : w1.cell? ⟨w.heap.size, 4, none⟩ = some (.int .i64 n) := hX1.c4
      go_wp2_with fail
      refine (decimal_any n _ hn.1 hn.2 ht1).mono ?_
      rintro e w2 ⟨rfl, hb2⟩
      have hB2 := hB1.trans (hb2.mono hB1.size)
      clear c4
      obtain ⟨c0, c1, c2, c3, c4, -, -⟩ := hX1.below hb2
      dsimp only at c0 c1 c2 c3 c4
      generalize decI n = V at hns HR
      have k1 : ¬ 9223372036854775807 < 7 + V.size := by omega
      go_wp2_with fail
      go_ret2
      exact ⟨ret_pair HR.out.1.symm HR.out.2.symm, hB2⟩
    · have hR := pr_yes h1
      rw [wrS_sta hc] at hR
      have HR := hide hR
      clear hR
      have q := rt_sta h1 hc
      have hk0 : 0 ≤ s.c := by have := q.c0; omega
      have hk1 := q.c1
      have hcs := decI_size hk0 hk1
      have H1 := hide h1
      clear h1 q
      have hcd : (s.c == 0) = false := by simpa using hc
      unfold St.v
      go_enter Tryd.func7, Tryd.ntmps7
      go_wp2_with fail
      generalize w.alloc _ = W1 at hnew hbn htn ⊢
      refine (right_any s _ hs).mono ?_
      rintro e w1 ⟨rfl, hb1⟩
      rw [H1.out]
      have hX1 := hnew.below hb1
      have hB1 := hbn.trans (hb1.mono hbn.size)
      have ht1 := htn.below hb1
      clear hnew hbn htn hb1 W1
      have c4 := hX1.c4
      go_wp2_with fail
      refine (decimal_any s.n _ hn.1 hn.2 ht1).mono ?_
      rintro e w2 ⟨rfl, hb2⟩
      have hB2 := hB1.trans (hb2.mono hB1.size)
      have hX2 := hX1.below hb2
      have ht2 := ht1.below hb2
      clear c4
      obtain ⟨c0, c1, c2, c3, c4, -, -⟩ := id hX2
      generalize decI s.n = V at hns HR
      have k1 : ¬ 9223372036854775807 < 7 + V.size := by omega
      go_wp2_with fail
      clear c0 c1 c2 c3 c4
      have htd := ht2.below (below_drew (Below.refl _ w2))
      have hnd := hX2.drew
      have HD := hide (fun (W : World) (h : Tabs W) => decimal_any s.c W hk0 hk1 h)
      generalize decI s.c = C at HR hcs HD
      have k2 : ¬ 9223372036854775807 < 7 + V.size + 1 := by omega
      have k3 : ¬ 9223372036854775807 < 7 + V.size + 1 + C.size := by omega
      have k4 : ¬ 9223372036854775807 < 7 + V.size + 1 + C.size + 1 := by omega
      have k5 : ¬ 9223372036854775807 < 7 + V.size + 1 + C.size + 1 + s.r.size := by omega
      go_region_held3 (fun w' => w'.cell? ⟨w.heap.size, 2, none⟩ = some (.int .i64 s.c) ∧ w'.cell? ⟨w.heap.size, 3, none⟩ = some (.string s.r))
        (first | exact ⟨hnd.c2, hnd.c3⟩ | exact ⟨(hnd.below (by assumption)).c2, (hnd.below (by assumption)).c3⟩)
        (first | (go_at_call 18; refine (HD.out w2.drew htd).mono ?_; rintro e w3 ⟨rfl, hb3⟩))
      go_wp2_with fail
      go_ret2
      have hBd := below_drew hB2
      exact ⟨ret_pair HR.out.1.symm HR.out.2.symm, hBd.trans (hb3.mono hBd.size)⟩

theorem ps_short {s : ByteArray} (hs : s.size ≤ 5000) : Short (psU s) := by
  have a1 := befS_size 32 s
  have a2 := aftS_size 32 s
  have a3 := befS_size 32 (aftS 32 s)
  exact ⟨by show (befS 32 s).size ≤ 10000; omega, by show (befS 32 (aftS 32 s)).size ≤ 10000; omega, by show (0 : Nat) ≤ 10000; omega⟩
theorem st_short {s : ByteArray} (hs : s.size ≤ 5000) : Short (stU s) := by
  have a2 := aftS_size 32 s
  have a3 := aftS_size 32 (aftS 32 s)
  exact ⟨by show (0 : Nat) ≤ 10000; omega, by show (0 : Nat) ≤ 10000; omega, by show (aftS 32 (aftS 32 s)).size ≤ 10000; omega⟩

set_option maxRecDepth 100000 in
set_option maxHeartbeats 1000000 in
theorem parse_any (s : ByteArray) (w : World) (hs : s.size ≤ 5000) :
    Calls Tryd.prog 8 #[.string s] w fun e w' => e = .returned (.tuple #[(gvU (psU s)).v, .int .i64 (gvE (psU s))]) ∧ Below w.heap.size w w' := by
  have hR0 := five_zero w
  have hB0 : Below w.heap.size w (w.alloc (.cells #[.string ⟨#[]⟩, .string ⟨#[]⟩, .int .i64 0, .string ⟨#[]⟩, .int .i64 0] 23)) := (Below.refl _ _).alloc (Nat.le_refl _) _
  have a1 := befS_size 32 s
  have a2 := aftS_size 32 s
  have HI := hide (fun W => ifRight_any (psU s) W (ps_short hs))
  have HV : Hid ((psU s).v = .agg #[.string (befS 32 s), .string (befS 32 (aftS 32 s)), .int .i64 0, .string ⟨#[]⟩, .int .i64 (mnrS (aftS 32 (aftS 32 s)))]) := rfl
  rw [HV.out] at HI
  clear HV
  generalize gvU (psU s) = R at HI ⊢
  generalize gvE (psU s) = E at HI ⊢
  go_enter Tryd.func8, Tryd.ntmps8
  go_wp2_with fail
  generalize w.alloc _ = W0 at hR0 hB0 ⊢
  refine (cut_any s 32 _ (by omega)).mono ?_
  rintro e w1 ⟨rfl, n1, rfl⟩
  go_wp2_with fail
  refine (cut_any (aftS 32 s) 32 _ (by omega)).mono ?_
  rintro e w2 ⟨rfl, n2, rfl⟩
  have hR3 := (hR0.drewN n1).drewN n2
  have hB3 : Below w.heap.size w ((W0.drewN n1).drewN n2) := (hB0.trans ((below_drewN W0 n1).mono hB0.size)).trans ((below_drewN (W0.drewN n1) n2).mono hB0.size)
  generalize (W0.drewN n1).drewN n2 = W2 at hR3 hB3 ⊢
  go_wp2_with fail
  refine (minorOf_any _ _).mono ?_
  rintro e w3 ⟨rfl, hw3⟩
  subst hw3
  go_wp2_with fail
  refine (HI.out _).mono ?_
  rintro e w4 ⟨rfl, hb4⟩
  obtain ⟨r0, r1, r2, r3, r4, -, rf⟩ := hR3.below hb4
  have hB4 := hB3.trans (hb4.mono hB3.size)
  unfold St.v
  go_wp2_with fail
  refine bodyPost_ret (v := .tuple #[R.v, .int .i64 E]) (by simp [results, Tryd.results8, go_sem, St.v, *]) rfl ⟨rfl, ?_⟩
  exact put5_below hB4 (Nat.le_refl _) R

set_option maxRecDepth 100000 in
set_option maxHeartbeats 1000000 in
theorem status_any (s : ByteArray) (w : World) (hs : s.size ≤ 5000) :
    Calls Tryd.prog 10 #[.string s] w fun e w' => e = .returned (.tuple #[(gvU (stU s)).v, .int .i64 (gvE (stU s))]) ∧ Below w.heap.size w w' := by
  have hR0 := five_zero w
  have hB0 : Below w.heap.size w (w.alloc (.cells #[.string ⟨#[]⟩, .string ⟨#[]⟩, .int .i64 0, .string ⟨#[]⟩, .int .i64 0] 23)) := (Below.refl _ _).alloc (Nat.le_refl _) _
  have a1 := befS_size 32 s
  have a2 := aftS_size 32 s
  have a3 := befS_size 32 (aftS 32 s)
  have HI := hide (fun W => ifRight_any (stU s) W (st_short hs))
  have HV : Hid ((stU s).v = .agg #[.string ⟨#[]⟩, .string ⟨#[]⟩, .int .i64 (codS (befS 32 (aftS 32 s))), .string (aftS 32 (aftS 32 s)), .int .i64 (mnrS (befS 32 s))]) := rfl
  rw [HV.out] at HI
  clear HV
  generalize gvU (stU s) = R at HI ⊢
  generalize gvE (stU s) = E at HI ⊢
  go_enter Tryd.func10, Tryd.ntmps10
  go_wp2_with fail
  generalize w.alloc _ = W0 at hR0 hB0 ⊢
  refine (cut_any s 32 _ (by omega)).mono ?_
  rintro e w1 ⟨rfl, n1, rfl⟩
  go_wp2_with fail
  refine (cut_any (aftS 32 s) 32 _ (by omega)).mono ?_
  rintro e w2 ⟨rfl, n2, rfl⟩
  have hR2 := (hR0.drewN n1).drewN n2
  have hB2 : Below w.heap.size w ((W0.drewN n1).drewN n2) := (hB0.trans ((below_drewN W0 n1).mono hB0.size)).trans ((below_drewN (W0.drewN n1) n2).mono hB0.size)
  generalize (W0.drewN n1).drewN n2 = W2 at hR2 hB2 ⊢
  go_wp2_with fail
  refine (codeOf_any _ _ (by omega)).mono ?_
  rintro e w3 ⟨rfl, hb3⟩
  have hR3 := hR2.below hb3
  have hB3 := hB2.trans (hb3.mono hB2.size)
  go_wp2_with fail
  refine (minorOf_any _ _).mono ?_
  rintro e w4 ⟨rfl, hw4⟩
  subst hw4
  go_wp2_with fail
  refine (HI.out _).mono ?_
  rintro e w5 ⟨rfl, hb5⟩
  obtain ⟨r0, r1, r2, r3, r4, -, rf⟩ := hR3.below hb5
  have hB5 := hB3.trans (hb5.mono hB3.size)
  unfold St.v
  go_wp2_with fail
  refine bodyPost_ret (v := .tuple #[R.v, .int .i64 E]) (by simp [results, Tryd.results10, go_sem, St.v, *]) rfl ⟨rfl, ?_⟩
  exact put5_below hB5 (Nat.le_refl _) R

end Go.Proofs.YthpankelfhhjgaaDoor
