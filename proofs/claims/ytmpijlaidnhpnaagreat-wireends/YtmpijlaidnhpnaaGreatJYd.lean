/- The walk of WireEnds. -/
import Derived.Test.YtmpijlaidnhpnaaGreatJYc
import Derived.Test.YtmpijlaidnhpnaaGreatJYa
import Derived.Test.YtmpijlaidnhpnaaGreatJYe
namespace Go.Proofs.YtmpijlaidnhpnaaGreat
set_option linter.unusedVariables false
set_option linter.unusedSimpArgs false
set_option maxRecDepth 100000
open Go.RowKit

theorem size_list' (B : ByteArray) : B.data.toList.length = B.size := by simp
theorem app_bytes (A B : ByteArray) : (A ++ B).data.toList = A.data.toList ++ B.data.toList := by simp [ByteArray.data_append]
theorem bs_eq {l : List UInt8} {B : ByteArray} (h : B.data.toList = l) : Ck.bs l = B := bytes_ext (by rw [Ck.bs_list, h])
/-- An answer with a size, and too few bytes. -/
theorem size_all {n : Nat} (h1 : 1 ≤ n) (h2 : n ≤ 1009) {b : List UInt8} (hb : b.length < n) :
    ∃ r, fdG (fresh false ⟨#[71, 69, 84]⟩ []) (szL ++ dgF 5 n [] ++ [13, 10, 13, 10] ++ b) = (r, []) ∧ rgB r = true ∧ Lim r ∧ r.i = true ∧ r.m.b = b ∧ r.k = 1 ∧ r.e = 0 := by
  have hn := sz_all (show n ≠ 0 by omega) (by omega)
  obtain ⟨q1, q2, q3, q4, q5, q6, q7⟩ := sz_have hn
  have hlim := fd_lim (rg_fresh false ⟨#[71, 69, 84]⟩) (show Sh (fresh false ⟨#[71, 69, 84]⟩ []).m.L from sh_nil) (szL ++ dgF 5 n [] ++ [13, 10, 13, 10] ++ b)
  have hrg := fd_right (rg_fresh false ⟨#[71, 69, 84]⟩) (szL ++ dgF 5 n [] ++ [13, 10, 13, 10] ++ b)
  have hc := fd_cut (rg_fresh false ⟨#[71, 69, 84]⟩) (szL ++ dgF 5 n [] ++ [13, 10, 13, 10]) b
  generalize fdG (fresh false ⟨#[71, 69, 84]⟩ []) (szL ++ dgF 5 n [] ++ [13, 10, 13, 10]) = q at q1 q2 q3 q4 q5 q6 q7 hc
  have hp : part (q.1.app b) = (false, { q.1 with m := q.1.m.more b, buf := [] }, []) := by
    have := part_few (r := q.1.app b) q2 q4 (by show ((q.1.m.b.length : Int) + ((q.1.buf ++ b).length : Int)) < q.1.z; rw [q1, q3, q5, List.nil_append]; simp; omega)
    rw [this]
    show (false, ({ q.1.app b with m := q.1.m.more (q.1.buf ++ b), buf := [] } : Rr), ([] : List Ms)) = _
    rw [q1, List.nil_append]; rfl
  have hg : fdG q.1 b = ({ q.1 with m := q.1.m.more b, buf := [] }, []) := by
    unfold fdG
    rw [if_neg (by rw [q6]; decide), go_end (by rw [hp]), hp]
  rw [hg, q7] at hc
  rw [hc] at hlim hrg
  refine ⟨_, hc, hrg, hlim, q2, ?_, q4, q6⟩
  show q.1.m.b ++ b = b
  rw [q3, List.nil_append]

theorem dg_step {f n : Nat} {a : List UInt8} (h : n ≠ 0) (hf : n < 10 ^ f) : ∃ g, f = g + 1 ∧ dgF f n a = dgF g (n / 10) (UInt8.ofNat (48 + n % 10) :: a) ∧ n / 10 < 10 ^ g := by
  cases f with
  | zero => exact absurd hf (by simp; omega)
  | succ g =>
    refine ⟨g, rfl, ?_, ?_⟩
    · rw [dgF, if_neg h]
    · rw [Nat.pow_succ] at hf; omega
theorem dg_zero (f : Nat) (a : List UInt8) : dgF f 0 a = a := by cases f <;> rfl
theorem tm9 (c : Int) : -9 < c.tmod 9 ∧ c.tmod 9 < 9 := by
  constructor
  · have := Int.lt_tmod_of_pos c (b := 9) (by omega); omega
  · exact Int.tmod_lt_of_pos c (by omega)
theorem ends_one (b : List UInt8) (h : b.length ≤ 1000) : clE (opR b) = 0 ∧ clO (opR b) = [(opR b).m] := by
  have hr := op_right b h
  constructor
  · unfold clE; rw [if_neg (by rw [hr]; decide), if_neg (show ¬ (opR b).e ≠ 0 from fun e => e rfl), if_pos ⟨rfl, rfl⟩]
  · unfold clO; rw [if_pos ⟨hr, rfl, rfl, rfl⟩]
theorem ends_two {r : Rr} (h : rgB r = true) (hi : r.i = true) (hk : r.k = 1) (he : r.e = 0) : clE r = 3 ∧ clO r = [] := by
  constructor
  · unfold clE; rw [if_neg (by rw [h]; decide), if_neg (by rw [he]; decide), if_neg (by rintro ⟨-, g⟩; rw [hk] at g; exact absurd g (by decide)), if_pos (Or.inl hi)]
  · unfold clO; rw [if_neg (by rintro ⟨-, -, -, g⟩; rw [hk] at g; exact absurd g (by decide))]

set_option maxHeartbeats 16000000 in
theorem ends_walk (body : ByteArray) (size : Int) (w : World) (hs : body.size ≤ maxLen) :
    Calls Tryz.prog 6 #[.string body, .int .i64 size] w fun en w' => en = .returned (.bool true) ∧ Below w.heap.size w w' := by
  unfold maxLen at hs
  obtain ⟨m, hm, hm2, hm3⟩ : ∃ m : Nat, min (body.size : Int) 1000 = (m : Int) ∧ m ≤ 1000 ∧ m ≤ body.size := ⟨(min (body.size : Int) 1000).toNat, by omega, by omega, by omega⟩
  have hms : (body.extract 0 m).size = m := by rw [ByteArray.size_extract]; omega
  have hmi : (m : Int) ≤ (body.size : Int) := by omega
  go_enter Tryz.func6, Tryz.ntmps6
  go_wp2_with fail
  generalize body.extract 0 m = B at hms ⊢
  have hS : B.size ≤ 1000 := by omega
  clear hms hm hm2 hm3 hmi hs
  have hBl : B.data.toList.length ≤ 1000 := by rw [size_list']; exact hS
  have hf1 := fun W => feed_fresh false ⟨#[71, 69, 84]⟩ (opL ++ B.data.toList) W (by rw [List.length_append]; show 19 + _ ≤ _; omega)
  rw [op_all hBl, bs_eq (B := ⟨#[72, 84, 84, 80, 47, 49, 46, 48, 32, 50, 48, 48, 32, 79, 75, 13, 10, 13, 10]⟩ ++ B) (by rw [app_bytes]; rfl)] at hf1
  have hc1 := fun v W hW => close_any (opR B.data.toList) v W hW ⟨show 0 ≤ 10000 by decide, show 0 ≤ 10000 by decide, show 2 ≤ 10000 by decide⟩ (show 0 ≤ 50 by decide) sh_nil (show B.data.toList.length ≤ 1000000 by omega) (show 0 ≤ 1000000 by decide) (show 0 ≤ 1000000 by decide)
  rw [(ends_one _ hBl).1, (ends_one _ hBl).2] at hc1
  have HF := hide hf1
  have HC := hide hc1
  clear hf1 hc1
  refine (new_any false ⟨#[71, 69, 84]⟩ _).mono ?_
  rintro en w1 ⟨rfl, hb1⟩
  go_wp2_with fail
  refine (HF.out _).mono ?_
  rintro en w2 ⟨⟨va, vc, u, l, rfl, hFR, hM, hl⟩, hb2⟩
  obtain rfl : l = [] := by simpa using hl
  have hB := hb1.trans (hb2.mono hb1.size)
  obtain ⟨ua, uc, rfl, -, -⟩ := hM.mrow
  have HR := hide hFR.row
  have hW2 := hB.size
  clear hM hl hFR hb1 hb2 HF
  go_upto_region 3 with (refine boxed rfl rfl _ rfl rfl _ rfl rfl ((opR B.data.toList).cs (.slice va 0 vc)) rfl (by kernel_rfl) rfl rfl ?_; intro W hX hBW)
  have HQ := hide (HR.out.below hBW)
  replace hB := hB.trans (hBW.mono hB.size)
  clear hBW HR
  have HW : w.heap.size ≤ w2.heap.size := hW2
  generalize w2.heap.size = N at hX HW ⊢
  go_wp2_with (refine wpList_load_mid rfl 33 (.tmp 5) rfl N 0 rfl ((opR B.data.toList).cs (.slice va 0 vc)) _ (hX.range 0 18) Tryz.underlying33 rfl (by kernel_rfl) ?_)
  refine (HC.out _ _ HQ.out).mono ?_
  rintro en w4 ⟨⟨u4, l4, rfl, hM4, hl4⟩, hb4⟩
  obtain ⟨x4, rfl⟩ : ∃ x, l4 = [((opR B.data.toList).m, x)] := by
    match l4, hl4 with
    | [(m, x)], hl => exact ⟨x, by simp at hl; rw [hl]⟩
  obtain ⟨a4, c4, rfl, -, hcell⟩ := hM4.mrow
  obtain ⟨g, rfl, hg, hr, -⟩ := hcell 0 (show 0 < 1 by decide)
  have r6 : w4.cell? ⟨g, 6, none⟩ = some (.string B) := by
    refine (hr 6 _ rfl).trans ?_
    show some (Value.string (Ck.bs B.data.toList)) = _
    rw [bs_eq rfl]
  replace hX := hX.below hb4
  replace hB := hB.trans (hb4.mono hB.size)
  clear hcell hM4 hl4 hr hb4 HQ HC
  obtain ⟨p, hp, hp1, hp2⟩ : ∃ p : Int, size.tmod 9 = p ∧ -9 < p ∧ p < 9 := ⟨_, rfl, (tm9 size).1, (tm9 size).2⟩
  obtain ⟨d, hd, hd2⟩ : ∃ d : Nat, (p + 9).tmod 9 = (d : Int) ∧ d ≤ 8 := ⟨((p + 9).tmod 9).toNat, by have := Int.tmod_nonneg (a := p + 9) 9 (by omega); omega, by have := tm9 (p + 9); omega⟩
  have hSz : (B.size : Int) ≤ 1000 := by omega
  go_wp2_with fail
  refine (alive_any _).mono ?_
  rintro en w5 ⟨rfl, hb5⟩
  replace hX := hX.below hb5
  replace hB := hB.trans (hb5.mono hB.size)
  clear hb5 r6 hg
  go_wp2_with fail
  go_loopw [10, 11] (fun s10 s11 wr => ∃ (f k : Nat) (acc : List UInt8), s11 = .int .i64 k ∧ s10 = .string (Ck.bs acc) ∧ k < 10 ^ f ∧ k ≤ 1009 ∧ acc.length + f ≤ 5 ∧ Hid (dgF f k acc = dgF 5 (B.size + 1 + d) []) ∧ Below w5.heap.size w5 wr) (fun _ i _ => (intOf i).toNat)
  case atStart => exact ⟨5, B.size + 1 + d, [], by go_num, rfl, by show _ < 100000; omega, by omega, by simp, rfl, Below.refl _ _⟩
  case round =>
    obtain ⟨f, k, acc, rfl, rfl, hk1, hk2, hacc, HD, hbr⟩ := hrel
    by_cases hk : k = 0
    · subst hk
      have HE : Hid (acc = dgF 5 (B.size + 1 + d) []) := by
        have := HD.out
        rwa [dg_zero] at this
      obtain ⟨r, hr1, hrg, hlim, hi, hbb, hkk, he⟩ := size_all (n := B.size + 1 + d) (by omega) (by omega) (b := B.data.toList) (by rw [size_list']; omega)
      rw [← HE.out] at hr1
      have hf2 := fun W => feed_fresh false ⟨#[71, 69, 84]⟩ (szL ++ acc ++ [13, 10, 13, 10] ++ B.data.toList) W (by simp only [List.length_append, List.length_cons, List.length_nil]; show 33 + _ + _ + _ ≤ _; omega)
      rw [hr1, bs_eq (B := ⟨#[72, 84, 84, 80, 47, 49, 46, 48, 32, 50, 48, 48, 32, 79, 75, 13, 10, 67, 111, 110, 116, 101, 110, 116, 45, 76, 101, 110, 103, 116, 104, 58, 32]⟩ ++ Ck.bs acc ++ ⟨#[13, 10, 13, 10]⟩ ++ B) (by rw [app_bytes, app_bytes, app_bytes, Ck.bs_list]; rfl)] at hf2
      have hc2 := fun v W hW => close_any r v W hW hlim.s (Nat.le_trans hlim.l (by decide)) hlim.f (Nat.le_trans hlim.b (by decide)) (Nat.le_trans hlim.c (by decide)) (Nat.le_trans hlim.u (by decide))
      rw [(ends_two hrg hi hkk he).1, (ends_two hrg hi hkk he).2] at hc2
      have hbz : (Ck.bs acc).size ≤ 5 := by rw [Ck.bs_size]; omega
      have e10 : Ck.bs r.m.b = B := by rw [hbb]; exact bs_eq rfl
      replace hX := hX.below hbr
      replace hB := hB.trans (hbr.mono hB.size)
      have HF := hide hf2
      have HC := hide hc2
      have HI := hide hi
      have HE10 := hide e10
      clear hf2 hc2 hr1 hlim hi hbb hkk he e10 HE HD hacc hk1 hbr hrg
      go_wp2_with fail
      refine (new_any false ⟨#[71, 69, 84]⟩ _).mono ?_
      rintro en w6 ⟨rfl, hb6⟩
      go_wp2_with fail
      refine (HF.out _).mono ?_
      rintro en w7 ⟨⟨vb, vd, u7, l7, rfl, hFR7, hM7, hl7⟩, hb7⟩
      obtain rfl : l7 = [] := by simpa using hl7
      obtain ⟨ub, ud, rfl, -, -⟩ := hM7.mrow
      have hb67 := hb6.trans (hb7.mono hb6.size)
      replace hX := hX.below hb67
      replace hB := hB.trans (hb67.mono hB.size)
      have hN := hX.lt
      have hth := hX.there 0 18 (show 0 + 18 ≤ 18 by decide)
      have hO := only_sets [.bool r.a, .string r.t, .string (Ck.bs r.buf), .bool r.i, .string r.m.s.m, .string r.m.s.t, .int .i64 r.m.s.c, .string r.m.s.r, .int .i64 r.m.s.n, .slice vb r.m.L.length vd, .string (Ck.bs r.m.b), .int .i64 r.k, .int .i64 r.z, .int .i64 r.c.st, .string r.c.line, .int .i64 r.c.left, .int .i64 r.c.size, .int .i64 r.e] 0 (only_refl w7 N)
      have hX2 := hX.sets [.bool r.a, .string r.t, .string (Ck.bs r.buf), .bool r.i, .string r.m.s.m, .string r.m.s.t, .int .i64 r.m.s.c, .string r.m.s.r, .int .i64 r.m.s.n, .slice vb r.m.L.length vd, .string (Ck.bs r.m.b), .int .i64 r.k, .int .i64 r.z, .int .i64 r.c.st, .string r.c.line, .int .i64 r.c.left, .int .i64 r.c.size, .int .i64 r.e] 0 (show 0 + 18 ≤ 18 by decide)
      rw [sets_whole (cs := [.bool r.a, .string r.t, .string (Ck.bs r.buf), .bool r.i, .string r.m.s.m, .string r.m.s.t, .int .i64 r.m.s.c, .string r.m.s.r, .int .i64 r.m.s.n, .slice vb r.m.L.length vd, .string (Ck.bs r.m.b), .int .i64 r.k, .int .i64 r.z, .int .i64 r.c.st, .string r.c.line, .int .i64 r.c.left, .int .i64 r.c.size, .int .i64 r.e]) (xs := (opR B.data.toList).cs (.slice va 0 vc)) rfl] at hX2
      have hR2 := (hFR7.keep (Kf.only hO (by rw [hX.ty]; decide))).row
      have hB2 := hB.trans (below_only hO (show w.heap.size ≤ N from HW) hB.size)
      have HQ := hide (And.intro hX2 (And.intro hB2 hR2))
      clear hX hB hO hX2 hR2 hB2 hFR7 hM7 hl7 hb6 hb7 hb67 HF
      rw [show r.v (.slice vb r.m.L.length vd) = .agg #[.bool r.a, .string r.t, .string (Ck.bs r.buf), .bool r.i, .string r.m.s.m, .string r.m.s.t, .int .i64 r.m.s.c, .string r.m.s.r, .int .i64 r.m.s.n, .slice vb r.m.L.length vd, .string (Ck.bs r.m.b), .int .i64 r.k, .int .i64 r.z, .int .i64 r.c.st, .string r.c.line, .int .i64 r.c.left, .int .i64 r.c.size, .int .i64 r.e] from rfl]
      go_upto_region 13 with (refine wpList_store_mid rfl 33 (.tmp 5) (.tmp 87) rfl N 0 #[.bool r.a, .string r.t, .string (Ck.bs r.buf), .bool r.i, .string r.m.s.m, .string r.m.s.t, .int .i64 r.m.s.c, .string r.m.s.r, .int .i64 r.m.s.n, .slice vb r.m.L.length vd, .string (Ck.bs r.m.b), .int .i64 r.k, .int .i64 r.z, .int .i64 r.c.st, .string r.c.line, .int .i64 r.c.left, .int .i64 r.c.size, .int .i64 r.e] rfl rfl hth (by kernel_rfl) (by simp [Value.oneCell']) ?_; obtain ⟨hX, hB, hR⟩ := HQ.out; generalize World.setCells _ _ _ _ = W8 at hX hB hR ⊢; have HR8 := hide hR; clear hR HQ hth)
      go_wp2_with (refine wpList_load_mid rfl 33 (.tmp 5) rfl N 0 rfl [.bool r.a, .string r.t, .string (Ck.bs r.buf), .bool r.i, .string r.m.s.m, .string r.m.s.t, .int .i64 r.m.s.c, .string r.m.s.r, .int .i64 r.m.s.n, .slice vb r.m.L.length vd, .string (Ck.bs r.m.b), .int .i64 r.k, .int .i64 r.z, .int .i64 r.c.st, .string r.c.line, .int .i64 r.c.left, .int .i64 r.c.size, .int .i64 r.e] _ (hX.range 0 18) Tryz.underlying33 rfl (by kernel_rfl) ?_)
      refine (HC.out _ _ HR8.out).mono ?_
      rintro en w9 ⟨⟨u9, l9, rfl, hM9, hl9⟩, hb9⟩
      obtain rfl : l9 = [] := by simpa using hl9
      obtain ⟨uc9, ud9, rfl, -, -⟩ := hM9.mrow
      replace hX := hX.below hb9
      replace hB := hB.trans (hb9.mono hB.size)
      have c3 := hX.cell 3 _ rfl
      have c10 := hX.cell 10 _ rfl
      rw [HI.out] at c3
      rw [HE10.out] at c10
      clear hX hM9 hl9 hb9 HR8 HC HI HE10
      go_wp2_with fail
      go_ret
      exact ⟨rfl, hB⟩
    · obtain ⟨q, rfl, hstep, hq⟩ := dg_step (a := acc) hk hk1
      have hkp : (0 : Int) < (k : Int) := by omega
      have hcv := one_byte wr (UInt8.ofNat (48 + k % 10)) (48 + (k : Int) % 10) (by rw [UInt8.toNat_ofNat']; omega)
      have hbz : (Ck.bs acc).size ≤ 5 := by rw [Ck.bs_size]; omega
      have HS := hide hstep
      have HQ := hide hq
      clear hk1 hstep hq
      go_wp2_with fail
      refine ⟨⟨q, k / 10, UInt8.ofNat (48 + k % 10) :: acc, by go_num, ?_, HQ.out, by omega, by simp; omega, ?_, hbr.alloc hbr.size _⟩, by simp [intOf]; omega⟩
      · congr 1
        exact bytes_ext (by rw [app_bytes, Ck.bs_list, Ck.bs_list]; simp [UInt8.ofNat_add])
      · unfold Hid
        rw [← HS.out]; exact HD.out

end Go.Proofs.YtmpijlaidnhpnaaGreat
