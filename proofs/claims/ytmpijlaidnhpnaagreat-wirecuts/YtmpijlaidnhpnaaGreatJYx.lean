/- The walk of WireCuts. -/
import Derived.Test.YtmpijlaidnhpnaaGreatJCu
namespace Go.Proofs.YtmpijlaidnhpnaaGreat
set_option linter.unusedVariables false
set_option linter.unusedSimpArgs false
set_option maxRecDepth 100000
open Go.RowKit

theorem size_list' (B : ByteArray) : B.data.toList.length = B.size := by simp
theorem bs_back' (B : ByteArray) : Ck.bs B.data.toList = B := bytes_ext (by rw [Ck.bs_list])
theorem ext_mid (s : ByteArray) (a b : Nat) : (s.extract a b).data.toList = (s.data.toList.take b).drop a := by
  simp [List.drop_take]
theorem irow_one (w : World) (n : Nat) : IRow (w.alloc (.cells #[.int .i64 (n : Int)] 3)) (.slice (some ⟨w.heap.size, 0, none⟩) 1 1) [(n : Int)] := by
  refine ⟨_, 1, rfl, Nat.le_refl _, fun k hk => ⟨w.heap.size, 0, rfl, by simp, ?_⟩⟩
  obtain rfl : k = 0 := by simp at hk; exact hk
  rw [World.cell?_alloc_new]; rfl
theorem IOwn.form {b : Nat} {w : World} {v : Value} {l : List Int} (h : IOwn b w v l) (hn : 0 < l.length) : ∃ g cap, v = .slice (some ⟨g, 0, none⟩) l.length cap ∧ b ≤ g ∧ g < w.heap.size ∧ l.length ≤ cap := by
  rcases h.2 with ⟨_, h0⟩ | ⟨g, cap, cur, hv, hb, hg, hc, _⟩
  · omega
  · exact ⟨g, cap, hv, hb, (Array.getElem?_eq_some_iff.1 hg).1, hc⟩
theorem unhid' {p : Prop} (h : Hid p) : p := h.out
/-- A load under a guard that holds. -/
theorem wpList_load_want' {P : Program} {ops : Array Oper} {rest : List Oper} {op : Oper} {a : Act} {w : World} {Q : Exit → Act → World → Prop} (hw : Region.wanted op (yielded ops a.tmps) = true) (ty : TypeId) (x : Operand) (ho : op.op = .load ty x)
    (b o : Nat) (hx : a.eval x = .pointer (some ⟨b, o, none⟩)) (cs : List Value) (d : TypeDesc) (hc : w.rangeAt b o cs) (hu : P.underlying ty = some d) (hd : d.isRow = true) (hi : (P.info? ty).map (·.size) = some cs.length)
    (h : wpList P ops Q rest (a.put op.dst (.agg cs.toArray)) w) : wpList P ops Q (op :: rest) a w := by
  unfold wpList
  rw [if_pos hw]
  exact Or.inl (wp_load_mid ty x ho b o hx cs d hc hu hd hi h)
/-- Bytes that were read so far. -/
theorem cut_on {a : Bool} {t : ByteArray} {S : List UInt8} {p q : Nat} (hpq : p ≤ q) {r : Rr} {ms : List Ms} (h : fdG (fresh a t []) (S.take p) = (r, ms)) : fdG (fresh a t []) (S.take q) = ((fdG r ((S.take q).drop p)).1, ms ++ (fdG r ((S.take q).drop p)).2) := by
  have e : S.take q = S.take p ++ (S.take q).drop p := by
    have := List.take_append_drop p (S.take q)
    rw [List.take_take, Nat.min_eq_left hpq] at this
    exact this.symm
  have rg : rgB (fresh a t []) = true := rg_wait ⟨mid_fresh _ _ _, fun _ => Nat.zero_le _, fun h => nope h⟩
  conv => lhs; rw [e]
  rw [fd_cut rg, h]
theorem rg_fresh' (a : Bool) (t : ByteArray) : rgB (fresh a t []) = true := rg_wait ⟨mid_fresh _ _ _, fun _ => Nat.zero_le _, fun h => nope h⟩

set_option maxHeartbeats 16000000 in
theorem cuts_walk (asks : Bool) (method s : ByteArray) (ad : Option Addr) (cap : Nat) (L : List Int) (w : World) (hm0 : method.size ≤ maxLen) (hs : s.size ≤ maxLen) (hcl : L.length ≤ cap) (hcm : cap ≤ maxLen)
    (hrow : ∀ i (h : i < L.length), ∃ g off, ad = some ⟨g, off, none⟩ ∧ g < w.heap.size ∧ w.cell? ⟨g, off + i, none⟩ = some (.int .i64 L[i])) :
    Calls Tryz.prog 4 #[.bool asks, .string method, .string s, .slice ad L.length cap] w fun e w' => e = .returned (.bool true) ∧ Below w.heap.size w w' := by
  unfold maxLen at hs hcm hm0
  obtain ⟨m, hm, hm2, hm3⟩ : ∃ m : Nat, min (method.size : Int) 20 = (m : Int) ∧ m ≤ 20 ∧ m ≤ method.size := ⟨(min (method.size : Int) 20).toNat, by omega, by omega, by omega⟩
  have hmi : (m : Int) ≤ (method.size : Int) := by omega
  obtain ⟨n, hn, hn2, hn3⟩ : ∃ n : Nat, min (s.size : Int) 9000 = (n : Int) ∧ n ≤ 9000 ∧ n ≤ s.size := ⟨(min (s.size : Int) 9000).toNat, by omega, by omega, by omega⟩
  have hni : (n : Int) ≤ (s.size : Int) := by omega
  have hns : (s.extract 0 n).size ≤ 9000 := by rw [ByteArray.size_extract]; omega
  obtain ⟨p, hp, hp2, hp3⟩ : ∃ p : Nat, min (L.length : Int) 20 = (p : Int) ∧ p ≤ 20 ∧ p ≤ L.length := ⟨(min (L.length : Int) 20).toNat, by omega, by omega, by omega⟩
  have hpi : (p : Int) ≤ (cap : Int) := by omega
  have hpz : (0 : Int) ≤ (p : Int) := by omega
  have HIR : Hid (IRow w (.slice ad p cap) (L.take p)) := by
    have e : (L.take p).length = p := by rw [List.length_take]; omega
    refine ⟨ad, cap, by rw [e], by rw [e]; omega, fun i hi => ?_⟩
    obtain ⟨g, off, e1, e2, e3⟩ := hrow i (by omega)
    exact ⟨g, off, e1, e2, by rw [List.getElem_take]; exact e3⟩
  have HTL : Hid ((L.take p).length = p) := by unfold Hid; rw [List.length_take]; omega
  clear hrow
  go_enter Tryz.func4, Tryz.ntmps4
  go_wp2_with fail
  go_quiet (fail)
  generalize method.extract 0 m = T
  generalize s.extract 0 n = S at hns ⊢
  have hSl : S.data.toList.length ≤ 9000 := by rw [size_list']; exact hns
  obtain ⟨q, hq⟩ : ∃ q, fdG (fresh asks T []) S.data.toList = q := ⟨_, rfl⟩
  have hf1 := fun W => feed_fresh asks T S.data.toList W (by omega)
  rw [hq, bs_back'] at hf1
  have HF := hide hf1
  have HQ := hide hq
  have hB0 := Ck.below_drewN w nq
  clear hf1 hq hm hm2 hm3 hmi hn hn2 hn3 hni hs hm0
  go_wp2_with fail
  refine (new_any asks T _).mono ?_
  rintro en w2 ⟨rfl, hb2⟩
  go_wp2_with fail
  refine (HF.out _).mono ?_
  rintro en w3 ⟨⟨va, vc, uq, lq, rfl, hFR, hM, hlq⟩, hb3⟩
  have hB3 := hB0.trans ((hb2.trans (hb3.mono hb2.size)).mono hB0.size)
  have hMr := hM.mrow
  have hwl : ∀ a n c, uq = .slice (some a) n c → a.block < w3.heap.size := fun a n c e => by
    rcases hM.own.2 with ⟨e2, -⟩ | ⟨g, cap, cur, e2, -, h3, -⟩
    · rw [e2] at e; exact absurd e (by simp)
    · rw [e2] at e
      injection e with e _ _
      rw [← Option.some.inj e]
      exact (Array.getElem?_eq_some_iff.1 h3).1
  obtain ⟨uqa, uqc, hue, -, -⟩ := hM.mrow
  subst hue
  have HM := hide (And.intro hMr (And.intro hFR (And.intro hwl hB3)))
  have HLQ := hide hlq
  clear hMr hFR hwl hB3 hM hlq hb2 hb3 hB0 HF
  go_upto_region 3 with (refine boxed rfl rfl _ rfl rfl _ rfl rfl (q.1.cs (.slice va q.1.m.L.length vc)) rfl (by kernel_rfl) rfl rfl ?_; intro W4 hX hBW)
  have hbw := hBW.size
  have hNw := hX.lt
  have HM4 := hide (And.intro (HM.out.1.below hBW) (And.intro (HM.out.2.1.below hBW) (And.intro HM.out.2.2.1 (HM.out.2.2.2.trans (hBW.mono HM.out.2.2.2.size)))))
  have hge := HM.out.2.2.2.size
  clear hBW HM
  generalize hnw : w3.heap.size = Nw at hX hge hbw hNw HM4 ⊢
  go_wp2_with fail
  refine (new_any asks T _).mono ?_
  rintro en w5 ⟨rfl, hb5⟩
  go_upto_region 4 with (refine boxed rfl rfl _ rfl rfl _ rfl rfl ((fresh asks T []).cs (.slice none 0 0)) rfl (by kernel_rfl) rfl rfl ?_; intro W6 hY hBW)
  have hb56 := hb5.trans (hBW.mono hb5.size)
  replace hX := hX.below hb56
  have hMz := (HM4.out.2.2.2.trans (hb56.mono HM4.out.2.2.2.size))
  have HM6 := hide (And.intro (HM4.out.1.below hb56) (And.intro (HM4.out.2.1.below hb56) (And.intro HM4.out.2.2.1 hMz)))
  have hn56 : Nw < w5.heap.size := Nat.lt_of_lt_of_le hNw hb5.size
  have hnl := hY.lt
  clear hBW hb5 hb56 HM4 hMz hNw hbw
  generalize w5.heap.size = Nn at hY hn56 hnl ⊢
  have hs1 : (W6.alloc (.cells #[] 3)).heap.size = W6.heap.size + 1 := by simp
  have hO2 : IOwn W6.heap.size (W6.alloc (.cells #[] 3)) (.slice (some ⟨W6.heap.size, 0, none⟩) 0 0) [] := World.ownsRow_lit W6 #[] 0 (Nat.le_refl _) (by decide) rfl
  have hB7 := HM6.out.2.2.2.alloc HM6.out.2.2.2.size (.cells #[] 3)
  have hr2 := HIR.out.below hB7
  generalize L.take p = R at HIR HTL hr2
  obtain ⟨l, hlR⟩ : ∃ l, R ++ [(S.size : Int)] = l := ⟨_, rfl⟩
  have HL := hide hlR
  have HTR : Hid (R.length ≤ 20) := by unfold Hid; rw [HTL.out]; exact hp2
  have HX := hide (And.intro hO2 (And.intro hr2 (And.intro hX hY)))
  clear hO2 hr2 hlR hX hY hB7 hs1
  go_wp2_with (first
    | (at_builtin; refine wpList_append_Ints rfl (.tmp 43) (.tmp 48) rfl W6.heap.size (.slice (some ⟨W6.heap.size, 0, none⟩) 0 0) (.slice ad p cap) [] R rfl rfl HX.out.1 HX.out.2.1 (by have := HTR.out; simp; omega) (by simp) ?_; intro v5 w7 ho5 hg5; rw [List.nil_append] at ho5; have HY := hide (And.intro ho5 hg5); clear ho5 hg5)
    | (at_builtin; refine unhid' ?_))
  unfold Hid
  have hO5 := HY.out.1.below ((Below.refl _ _).alloc (Nat.le_refl _) (.cells #[.int .i64 (S.size : Int)] 3))
  have hs5 : W6.heap.size ≤ (w7.alloc (.cells #[.int .i64 (S.size : Int)] 3)).heap.size := by
    have h1 := HY.out.2.size
    have h3 : (w7.alloc (.cells #[.int .i64 (S.size : Int)] 3)).heap.size = w7.heap.size + 1 := by simp
    have h4 : (W6.alloc (.cells #[] 3)).heap.size = W6.heap.size + 1 := by simp
    omega
  refine wpList_append_Ints rfl (.tmp 49) (.tmp 52) rfl W6.heap.size v5 (.slice (some ⟨w7.heap.size, 0, none⟩) 1 1) R [(S.size : Int)] rfl rfl hO5 (irow_one w7 S.size) (by have := HTR.out; simp; omega) hs5 ?_
  intro v6 w8 ho6 hg6
  rw [HL.out] at ho6
  obtain ⟨g, cp, hv6, hge6, hlt6, hcp6⟩ := ho6.form (by rw [← HL.out]; simp)
  subst hv6
  have hBag : Bag w w8 Nw Nn q.1 (.slice va q.1.m.L.length vc) (.slice uqa lq.length uqc) lq (fresh asks T []) (.slice none 0 0) (.slice none 0 0) [] (.slice (some ⟨g, 0, none⟩) l.length cp) l := by
    obtain ⟨hO2, hr2, hX, hY⟩ := HX.out
    have b0 : Below W6.heap.size W6 (W6.alloc (.cells #[] 3)) := (Below.refl _ _).alloc (Nat.le_refl _) _
    have b5 := b0.grown HY.out.2 b0.size (fun k e => (World.ownsRow.lt hO2 k e).1)
    have b6 := (b5.alloc b5.size (.cells #[.int .i64 (S.size : Int)] 3)).grown hg6 hs5 (fun k e => (World.ownsRow.lt hO5 k e).1)
    exact ⟨hX.below b6, HM6.out.2.1.below b6, HM6.out.1.below b6, fun a n c e => Nat.lt_trans (HM6.out.2.2.1 a n c e) hn56, hY.below b6, FR.nil _, MR.nil _ _, owns_mono ho6 hnl, hn56, hge, HM6.out.2.2.2.trans (b6.mono HM6.out.2.2.2.size)⟩
  have HTL2 : Hid (l.length = p + 1) := by unfold Hid; rw [← HL.out, List.length_append, HTL.out]; rfl
  have HLA : Hid (∀ j (h : j < l.length), j + 1 = l.length → l[j] = (S.size : Int)) := by
    unfold Hid
    intro j h e
    have e2 : j = R.length := by rw [HTL2.out] at e; rw [HTL.out]; omega
    subst e2
    have := HL.out
    subst this
    simp
  have hll : l.length ≤ 21 := by have := HTL2.out; omega
  have H0 : Hid (fdG (fresh asks T []) (S.data.toList.take 0) = (fresh asks T [], [])) := by
    unfold Hid
    rw [List.take_zero]
    unfold fdG
    rw [if_neg (show ¬ (fresh asks T []).e ≠ 0 from fun e => e rfl), app_nil]
    have hpn : part (fresh asks T []) = (false, fresh asks T [], []) := by cases asks <;> rfl
    rw [go_end (by rw [hpn]), hpn]
  clear ho6 hg6 hO5 hs5 HX HY HIR hge6 hlt6 HM6 hn56 hnl hge hpz
  go_wp2_with fail
  go_loopw [13, 14, 16, 17, 18, 19, 20, 55] (fun at1 gt _ _ _ _ _ i wr => ∃ (j a : Nat) (r : Rr) (vb : Option Addr) (vd : Nat) (ga : Option Addr) (gc : Nat) (lg : List MV), j ≤ l.length ∧ i = .int .i64 j ∧ at1 = .int .i64 a ∧ gt = .slice ga lg.length gc ∧ Bag w wr Nw Nn q.1 (.slice va q.1.m.L.length vc) (.slice uqa lq.length uqc) lq r (.slice vb r.m.L.length vd) (.slice ga lg.length gc) lg (.slice (some ⟨g, 0, none⟩) l.length cp) l ∧
    Hid (fdG (fresh asks T []) (S.data.toList.take a) = (r, lg.map Prod.fst)) ∧ a ≤ S.size ∧ Hid (j = l.length → a = S.size)) (fun _ _ _ _ _ _ _ i _ => l.length - (intOf i).toNat)
  case atStart => exact ⟨0, 0, fresh asks T [], none, 0, none, 0, [], Nat.zero_le _, rfl, rfl, rfl, hBag, H0, Nat.zero_le _, fun e => by have := HTL2.out; omega⟩
  case round =>
    clear hBag H0
    obtain ⟨j, a, r, vb, vd, ga, gc, lg, hj, rfl, rfl, rfl, hbag, HC, hale, HRE⟩ := hrel
    have hrg : rgB r = true := by have := fd_right (rg_fresh' asks T) (S.data.toList.take a); rw [HC.out] at this; exact this
    have hsh : Sh r.m.L := by have := (fd_sh (rg_fresh' asks T) sh_nil (S.data.toList.take a)).1; rw [HC.out] at this; exact this
    have hlim := lim_of hrg hsh
    have hcnt : lg.length ≤ 18001 := by
      have h1 := fd_few (rg_fresh' asks T) (S.data.toList.take a)
      rw [HC.out] at h1
      simp only [List.length_map, List.length_take] at h1
      have h2 : (fresh asks T []).buf.length = 0 := rfl
      omega
    by_cases hjl : j < l.length
    · have hjz : (j : Int) < (l.length : Int) := by omega
      have hjc : (j : Int) < (cp : Int) := by omega
      have r0 := hbag.ro.pick j hjl
      have HLJ := hide (HLA.out j hjl)
      generalize l[j] = x at r0 HLJ
      obtain ⟨b, hb, hab, hbS, HBE⟩ : ∃ b : Nat, min (max x (a : Int)) (S.size : Int) = (b : Int) ∧ a ≤ b ∧ b ≤ S.size ∧ Hid (x = (S.size : Int) → b = S.size) := ⟨(min (max x (a : Int)) (S.size : Int)).toNat, by omega, by omega, by omega, by unfold Hid; omega⟩
      have hz1 : (0 : Int) ≤ (a : Int) := by omega
      have hz2 : (a : Int) ≤ (b : Int) := by omega
      have hz3 : (b : Int) ≤ (S.size : Int) := by omega
      have hps : (S.extract a b).data.toList.length ≤ 9000 := by rw [size_list', ByteArray.size_extract]; omega
      have hn := cut_on hab HC.out
      rw [← ext_mid] at hn
      obtain ⟨q2, hq2⟩ : ∃ q2, fdG r (S.extract a b).data.toList = q2 := ⟨_, rfl⟩
      have hfd := fun W hW => feed_good r (.slice vb r.m.L.length vd) (S.extract a b).data.toList W hW hlim.s (Nat.le_trans hlim.l (by decide)) hlim.f (Nat.le_trans hlim.b (by decide)) (Nat.le_trans hlim.c (by decide)) (by have := hlim.u; omega) hrg
      rw [hq2, bs_back'] at hfd
      rw [hq2] at hn
      have hrg2 : rgB q2.1 = true := by have := fd_right hrg (S.extract a b).data.toList; rw [hq2] at this; exact this
      have hsh2 : Sh q2.1.m.L := by have := (fd_sh hrg hsh (S.extract a b).data.toList).1; rw [hq2] at this; exact this
      have hlim2 := lim_of hrg2 hsh2
      have hcnt2 : q2.2.length ≤ 30001 := by
        have h1 := fd_few hrg (S.extract a b).data.toList
        rw [hq2] at h1
        have := hlim.u
        omega
      have hwr := fun xb xd W hW => wright_any q2.1 (.slice xb q2.1.m.L.length xd) W hW hlim2.s (Nat.le_trans hlim2.l (by decide)) hlim2.f (Nat.le_trans hlim2.b (by decide)) (Nat.le_trans hlim2.c (by decide)) (Nat.le_trans hlim2.u (by decide))
      rw [hrg2] at hwr
      obtain ⟨r2, ms2⟩ := q2
      simp only at hn hfd hwr hcnt2
      have HF := hide hfd
      have HW := hide hwr
      have HN := hide hn
      have HB := hide hbag
      clear hfd hwr hn hq2 hrg hsh hlim hrg2 hsh2 hlim2 hbag HC
      go_upto_region 9 with fail
      have hNw := HB.out.nw
      have hdr : Below wr.heap.size wr wr.drew := ⟨rfl, rfl, rfl, Nat.le_refl _, fun _ _ => rfl⟩
      go_cut [17, 18, 19, 20] (fun s17 s18 s19 s20 wc => ∃ (M : Nat) (xb : Option Addr) (xd : Nat) (ua : Option Addr) (uc : Nat) (lx : List MV), s17 = .int .i64 b ∧ s18 = .pointer (some ⟨M, 0, none⟩) ∧ s19 = .slice ua lx.length uc ∧ s20 = .int .i64 0 ∧ Blk wc M 33 (r2.cs (.slice xb r2.m.L.length xd)) ∧ Nn < M ∧ FR wc (.slice xb r2.m.L.length xd) r2.m.L ∧ MRow wc (.slice ua lx.length uc) lx ∧ Hid (lx.map Prod.fst = ms2) ∧ Below wr.heap.size wr wc)
      case first =>
        refine wp_region_held_drew (S := (fun w' => Blk w' Nn 33 (r.cs (.slice vb r.m.L.length vd)))) (by kernel_rfl) (hNw.drew) (fun hHeld => ?_)
        refine wpAnyH_take (i := 0) (oi := _) (v := r.v (.slice vb r.m.L.length vd)) rfl (by kernel_rfl) (by kernel_rfl) (by kernel_rfl) (fun _ _ _ h => h) (yieldsIf_load_mid (by kernel_rfl) 33 (.tmp 12) rfl Nn 0 rfl _ _ (fun _ hS => Blk.range (hS) 0 18) Tryz.underlying33 rfl (by kernel_rfl)) (by first | trivial | assumption) ?_
        simp only [Act.put, List.getElem_toArray, List.getElem_cons_zero, List.getElem_cons_succ, List.setIfInBounds_toArray, List.set_cons_zero, List.set_cons_succ]
        refine wpAnyH_take (i := 1) (oi := _) (v := .string S) rfl (by kernel_rfl) (by kernel_rfl) (by kernel_rfl) (fun _ _ _ h => h) (Or.inl ⟨by rfl, fun wS hSw => by go_simp⟩) (by first | trivial | assumption) ?_
        simp only [Act.put, List.getElem_toArray, List.getElem_cons_zero, List.getElem_cons_succ, List.setIfInBounds_toArray, List.set_cons_zero, List.set_cons_succ]
        refine wpAnyH_take (i := 2) (oi := _) (v := .int .i64 a) rfl (by kernel_rfl) (by kernel_rfl) (by kernel_rfl) (fun _ _ _ h => h) (Or.inl ⟨by rfl, fun wS hSw => by go_simp⟩) (by first | trivial | assumption) ?_
        simp only [Act.put, List.getElem_toArray, List.getElem_cons_zero, List.getElem_cons_succ, List.setIfInBounds_toArray, List.set_cons_zero, List.set_cons_succ]
        refine wpAnyH_take (i := 3) (oi := _) (v := .int .i64 b) rfl (by kernel_rfl) (by kernel_rfl) (by kernel_rfl) (fun _ _ _ h => h) (Or.inl ⟨by rfl, fun wS hSw => by go_simp⟩) (by first | trivial | assumption) ?_
        simp only [Act.put, List.getElem_toArray, List.getElem_cons_zero, List.getElem_cons_succ, List.setIfInBounds_toArray, List.set_cons_zero, List.set_cons_succ]
        refine wpAnyH_take (i := 4) (oi := _) (v := .string (S.extract a b)) rfl (by kernel_rfl) (by kernel_rfl) (by kernel_rfl) (fun _ _ _ h => h) (Or.inl ⟨by rfl, fun wS hSw => by go_simp⟩) (by first | trivial | assumption) ?_
        simp only [Act.put, List.getElem_toArray, List.getElem_cons_zero, List.getElem_cons_succ, List.setIfInBounds_toArray, List.set_cons_zero, List.set_cons_succ]
        refine wpAnyH_ready (rs := [5, 10]) (by kernel_rfl) (by simp) ?_
        refine AllReadyH.cons (o := _) rfl (fun K hK => ?_) (AllReadyH.cons (o := _) rfl (fun K hK => ?_) AllReadyH.nil)
        · go_simp
          refine (HF.out _ (HB.out.nf.row.below hdr)).mono ?_
          rintro en w2x ⟨⟨xb, xd, u2, lx, rfl, hFR, hM, hlx⟩, hb2⟩
          obtain ⟨ua, uc, hu, -, -⟩ := hM.mrow
          subst hu
          have hb2' := hdr.trans (hb2.mono hdr.size)
          have hX2 := hNw.below hb2'
          go_simp
          refine hK.out _ _ (hX2) (fun hHeld => ?_)
          clear hK K
          refine wpAnyH_take (i := 6) (oi := _) (v := .tuple #[r2.v (.slice xb r2.m.L.length xd), .slice ua lx.length uc, .int .i64 0]) rfl (by kernel_rfl) (by kernel_rfl) (by kernel_rfl) (fun _ _ _ h => h) (Or.inl ⟨by rfl, fun wS hSw => by go_simp⟩) (by first | trivial | assumption) ?_
          simp only [Act.put, List.getElem_toArray, List.getElem_cons_zero, List.getElem_cons_succ, List.setIfInBounds_toArray, List.set_cons_zero, List.set_cons_succ]
          refine wpAnyH_take (i := 7) (oi := _) (v := r2.v (.slice xb r2.m.L.length xd)) rfl (by kernel_rfl) (by kernel_rfl) (by kernel_rfl) (fun _ _ _ h => h) (Or.inl ⟨by rfl, fun wS hSw => by go_simp⟩) (by first | trivial | assumption) ?_
          simp only [Act.put, List.getElem_toArray, List.getElem_cons_zero, List.getElem_cons_succ, List.setIfInBounds_toArray, List.set_cons_zero, List.set_cons_succ]
          refine wpAnyH_take (i := 8) (oi := _) (v := .slice ua lx.length uc) rfl (by kernel_rfl) (by kernel_rfl) (by kernel_rfl) (fun _ _ _ h => h) (Or.inl ⟨by rfl, fun wS hSw => by go_simp⟩) (by first | trivial | assumption) ?_
          simp only [Act.put, List.getElem_toArray, List.getElem_cons_zero, List.getElem_cons_succ, List.setIfInBounds_toArray, List.set_cons_zero, List.set_cons_succ]
          refine wpAnyH_take (i := 9) (oi := _) (v := .int .i64 0) rfl (by kernel_rfl) (by kernel_rfl) (by kernel_rfl) (fun _ _ _ h => h) (Or.inl ⟨by rfl, fun wS hSw => by go_simp⟩) (by first | trivial | assumption) ?_
          simp only [Act.put, List.getElem_toArray, List.getElem_cons_zero, List.getElem_cons_succ, List.setIfInBounds_toArray, List.set_cons_zero, List.set_cons_succ]
          have hZ : Blk (w2x.alloc (.cells #[.bool false, .string ⟨#[]⟩, .string ⟨#[]⟩, .bool false, .string ⟨#[]⟩, .string ⟨#[]⟩, .int .i64 0, .string ⟨#[]⟩, .int .i64 0, .slice none 0 0, .string ⟨#[]⟩, .int .i64 0, .int .i64 0, .int .i64 0, .string ⟨#[]⟩, .int .i64 0, .int .i64 0, .int .i64 0] 33)) w2x.heap.size 33 [.bool false, .string ⟨#[]⟩, .string ⟨#[]⟩, .bool false, .string ⟨#[]⟩, .string ⟨#[]⟩, .int .i64 0, .string ⟨#[]⟩, .int .i64 0, .slice none 0 0, .string ⟨#[]⟩, .int .i64 0, .int .i64 0, .int .i64 0, .string ⟨#[]⟩, .int .i64 0, .int .i64 0, .int .i64 0] := Blk.new w2x 33 _
          have hBz : Below wr.heap.size wr (w2x.alloc (.cells #[.bool false, .string ⟨#[]⟩, .string ⟨#[]⟩, .bool false, .string ⟨#[]⟩, .string ⟨#[]⟩, .int .i64 0, .string ⟨#[]⟩, .int .i64 0, .slice none 0 0, .string ⟨#[]⟩, .int .i64 0, .int .i64 0, .int .i64 0, .string ⟨#[]⟩, .int .i64 0, .int .i64 0, .int .i64 0] 33)) := hb2'.alloc hb2'.size _
          have hX3 := hX2.alloc (.cells #[.bool false, .string ⟨#[]⟩, .string ⟨#[]⟩, .bool false, .string ⟨#[]⟩, .string ⟨#[]⟩, .int .i64 0, .string ⟨#[]⟩, .int .i64 0, .slice none 0 0, .string ⟨#[]⟩, .int .i64 0, .int .i64 0, .int .i64 0, .string ⟨#[]⟩, .int .i64 0, .int .i64 0, .int .i64 0] 33)
          have hM3 := hM.mrow.below ((Below.refl w2x.heap.size w2x).alloc (Nat.le_refl _) (.cells #[.bool false, .string ⟨#[]⟩, .string ⟨#[]⟩, .bool false, .string ⟨#[]⟩, .string ⟨#[]⟩, .int .i64 0, .string ⟨#[]⟩, .int .i64 0, .slice none 0 0, .string ⟨#[]⟩, .int .i64 0, .int .i64 0, .int .i64 0, .string ⟨#[]⟩, .int .i64 0, .int .i64 0, .int .i64 0] 33))
          have hF3 := hFR.below ((Below.refl w2x.heap.size w2x).alloc (Nat.le_refl _) (.cells #[.bool false, .string ⟨#[]⟩, .string ⟨#[]⟩, .bool false, .string ⟨#[]⟩, .string ⟨#[]⟩, .int .i64 0, .string ⟨#[]⟩, .int .i64 0, .slice none 0 0, .string ⟨#[]⟩, .int .i64 0, .int .i64 0, .int .i64 0, .string ⟨#[]⟩, .int .i64 0, .int .i64 0, .int .i64 0] 33))
          have hlt := hX2.lt
          have hub : ∀ a n c, (Value.slice ua lx.length uc) = .slice (some a) n c → a.block < w2x.heap.size := fun a n c e => by
            rcases hM.own.2 with ⟨e2, -⟩ | ⟨g, cap, cur, e2, -, h3, -⟩
            · rw [e2] at e; exact absurd e (by simp)
            · rw [e2] at e
              injection e with e _ _
              rw [← Option.some.inj e]
              exact (Array.getElem?_eq_some_iff.1 h3).1
          refine wpAnyH_ready (rs := [10]) (by kernel_rfl) (by simp) ?_
          refine AllReadyH.cons (o := _) rfl (fun K hK => ?_) AllReadyH.nil
          go_simp
          refine hK.out _ _ (hX3) (fun hHeld => ?_)
          clear hK K
          have hwz := hb2'.size
          generalize w2x.alloc (.cells #[.bool false, .string ⟨#[]⟩, .string ⟨#[]⟩, .bool false, .string ⟨#[]⟩, .string ⟨#[]⟩, .int .i64 0, .string ⟨#[]⟩, .int .i64 0, .slice none 0 0, .string ⟨#[]⟩, .int .i64 0, .int .i64 0, .int .i64 0, .string ⟨#[]⟩, .int .i64 0, .int .i64 0, .int .i64 0] 33) = W9 at hZ hBz hX3 hM3 hF3 hHeld ⊢
          generalize w2x.heap.size = M at hZ hlt hwz hub ⊢
          have hth := hZ.there 0 18 (show 0 + 18 ≤ 18 by decide)
          have hO := only_sets [.bool r2.a, .string r2.t, .string (Ck.bs r2.buf), .bool r2.i, .string r2.m.s.m, .string r2.m.s.t, .int .i64 r2.m.s.c, .string r2.m.s.r, .int .i64 r2.m.s.n, .slice xb r2.m.L.length xd, .string (Ck.bs r2.m.b), .int .i64 r2.k, .int .i64 r2.z, .int .i64 r2.c.st, .string r2.c.line, .int .i64 r2.c.left, .int .i64 r2.c.size, .int .i64 r2.e] 0 (only_refl W9 M)
          have hZ2 : Blk (W9.setCells M 0 [.bool r2.a, .string r2.t, .string (Ck.bs r2.buf), .bool r2.i, .string r2.m.s.m, .string r2.m.s.t, .int .i64 r2.m.s.c, .string r2.m.s.r, .int .i64 r2.m.s.n, .slice xb r2.m.L.length xd, .string (Ck.bs r2.m.b), .int .i64 r2.k, .int .i64 r2.z, .int .i64 r2.c.st, .string r2.c.line, .int .i64 r2.c.left, .int .i64 r2.c.size, .int .i64 r2.e]) M 33 (r2.cs (.slice xb r2.m.L.length xd)) := by
            have := hZ.sets [.bool r2.a, .string r2.t, .string (Ck.bs r2.buf), .bool r2.i, .string r2.m.s.m, .string r2.m.s.t, .int .i64 r2.m.s.c, .string r2.m.s.r, .int .i64 r2.m.s.n, .slice xb r2.m.L.length xd, .string (Ck.bs r2.m.b), .int .i64 r2.k, .int .i64 r2.z, .int .i64 r2.c.st, .string r2.c.line, .int .i64 r2.c.left, .int .i64 r2.c.size, .int .i64 r2.e] 0 (show 0 + 18 ≤ 18 by decide)
            exact this
          rw [show r2.v (.slice xb r2.m.L.length xd) = .agg #[.bool r2.a, .string r2.t, .string (Ck.bs r2.buf), .bool r2.i, .string r2.m.s.m, .string r2.m.s.t, .int .i64 r2.m.s.c, .string r2.m.s.r, .int .i64 r2.m.s.n, .slice xb r2.m.L.length xd, .string (Ck.bs r2.m.b), .int .i64 r2.k, .int .i64 r2.z, .int .i64 r2.c.st, .string r2.c.line, .int .i64 r2.c.left, .int .i64 r2.c.size, .int .i64 r2.e] from rfl]
          refine wpAnyH_ready (rs := [11]) (by kernel_rfl) (by simp) ?_
          refine AllReadyH.cons (o := _) rfl (fun K hK => ?_) AllReadyH.nil
          rw [if_pos (by kernel_rfl)]
          refine wp_store_mid 33 (.tmp 18) (.tmp 72) rfl _ _ _ rfl rfl (hth) (by kernel_rfl) (by simp [Value.oneCell']) ?_
          simp only [Act.put, List.getElem_toArray, List.getElem_cons_zero, List.getElem_cons_succ, List.setIfInBounds_toArray, List.set_cons_zero, List.set_cons_succ]
          refine hK.out _ _ (hX3.keep (hO.block _ hX3.lt (fun e => by have := Option.some.inj e; omega))) (fun hHeld => ?_)
          clear hK K
          refine wpAnyH_take (i := 12) (oi := _) (v := .slice ua lx.length uc) rfl (by kernel_rfl) (by kernel_rfl) (by kernel_rfl) (fun _ _ _ h => h) (Or.inl ⟨by rfl, fun wS hSw => by go_simp⟩) (by first | trivial | assumption) ?_
          simp only [Act.put, List.getElem_toArray, List.getElem_cons_zero, List.getElem_cons_succ, List.setIfInBounds_toArray, List.set_cons_zero, List.set_cons_succ]
          refine wpAnyH_take (i := 13) (oi := _) (v := .int .i64 0) rfl (by kernel_rfl) (by kernel_rfl) (by kernel_rfl) (fun _ _ _ h => h) (Or.inl ⟨by rfl, fun wS hSw => by go_simp⟩) (by first | trivial | assumption) ?_
          simp only [Act.put, List.getElem_toArray, List.getElem_cons_zero, List.getElem_cons_succ, List.setIfInBounds_toArray, List.set_cons_zero, List.set_cons_succ]
          refine wpAnyH_done (by kernel_rfl) ?_ _
          go_wp2_with fail
          go_meet
          have hk := Kf.only hO (by rw [hZ.ty]; decide)
          exact ⟨M, xb, xd, ua, uc, lx, rfl, rfl, rfl, rfl, hZ2, hlt, hF3.keep hk, hM3.keep (fun a n c e => hO.block _ (by have := hub a n c e; have := hZ.lt; omega) (fun e2 => by have := hub a n c e; have := Option.some.inj e2; omega)) hk, hlx, hBz.trans (below_only hO hwz hBz.size)⟩
        · go_simp
          have hZ0 : Blk (wr.drew.alloc (.cells #[.bool false, .string ⟨#[]⟩, .string ⟨#[]⟩, .bool false, .string ⟨#[]⟩, .string ⟨#[]⟩, .int .i64 0, .string ⟨#[]⟩, .int .i64 0, .slice none 0 0, .string ⟨#[]⟩, .int .i64 0, .int .i64 0, .int .i64 0, .string ⟨#[]⟩, .int .i64 0, .int .i64 0, .int .i64 0] 33)) wr.heap.size 33 [.bool false, .string ⟨#[]⟩, .string ⟨#[]⟩, .bool false, .string ⟨#[]⟩, .string ⟨#[]⟩, .int .i64 0, .string ⟨#[]⟩, .int .i64 0, .slice none 0 0, .string ⟨#[]⟩, .int .i64 0, .int .i64 0, .int .i64 0, .string ⟨#[]⟩, .int .i64 0, .int .i64 0, .int .i64 0] := Blk.new wr.drew 33 _
          have hBz0 : Below wr.heap.size wr (wr.drew.alloc (.cells #[.bool false, .string ⟨#[]⟩, .string ⟨#[]⟩, .bool false, .string ⟨#[]⟩, .string ⟨#[]⟩, .int .i64 0, .string ⟨#[]⟩, .int .i64 0, .slice none 0 0, .string ⟨#[]⟩, .int .i64 0, .int .i64 0, .int .i64 0, .string ⟨#[]⟩, .int .i64 0, .int .i64 0, .int .i64 0] 33)) := hdr.alloc hdr.size _
          have hX0 := hNw.drew.alloc (.cells #[.bool false, .string ⟨#[]⟩, .string ⟨#[]⟩, .bool false, .string ⟨#[]⟩, .string ⟨#[]⟩, .int .i64 0, .string ⟨#[]⟩, .int .i64 0, .slice none 0 0, .string ⟨#[]⟩, .int .i64 0, .int .i64 0, .int .i64 0, .string ⟨#[]⟩, .int .i64 0, .int .i64 0, .int .i64 0] 33)
          have hMz : wr.heap.size < (wr.drew.alloc (.cells #[.bool false, .string ⟨#[]⟩, .string ⟨#[]⟩, .bool false, .string ⟨#[]⟩, .string ⟨#[]⟩, .int .i64 0, .string ⟨#[]⟩, .int .i64 0, .slice none 0 0, .string ⟨#[]⟩, .int .i64 0, .int .i64 0, .int .i64 0, .string ⟨#[]⟩, .int .i64 0, .int .i64 0, .int .i64 0] 33)).heap.size := hZ0.lt
          refine hK.out _ _ hX0 (fun hHeld => ?_)
          clear hK K
          have hX0' : Blk (wr.drew.alloc (.cells #[.bool false, .string ⟨#[]⟩, .string ⟨#[]⟩, .bool false, .string ⟨#[]⟩, .string ⟨#[]⟩, .int .i64 0, .string ⟨#[]⟩, .int .i64 0, .slice none 0 0, .string ⟨#[]⟩, .int .i64 0, .int .i64 0, .int .i64 0, .string ⟨#[]⟩, .int .i64 0, .int .i64 0, .int .i64 0] 33)) Nn 33 (r.cs (.slice vb r.m.L.length vd)) := hX0
          have hMnn := hNw.lt
          refine wpAnyH_ready (rs := [5]) (by kernel_rfl) (by simp) ?_
          refine AllReadyH.cons (o := _) rfl (fun K hK => ?_) AllReadyH.nil
          go_simp
          refine (HF.out _ (HB.out.nf.row.below hBz0)).mono ?_
          rintro en w2x ⟨⟨xb, xd, u2, lx, rfl, hFR, hM, hlx⟩, hb2⟩
          obtain ⟨ua, uc, hu, -, -⟩ := hM.mrow
          subst hu
          have hZb := hZ0.below hb2
          have hB2 := hBz0.trans (hb2.mono hBz0.size)
          have hX2 := hX0'.below hb2
          have hub : ∀ a n c, (Value.slice ua lx.length uc) = .slice (some a) n c → wr.heap.size < a.block ∧ a.block < w2x.heap.size := fun a n c e => by
            rcases hM.own.2 with ⟨e2, -⟩ | ⟨g, cap, cur, e2, hbg, h3, -⟩
            · rw [e2] at e; exact absurd e (by simp)
            · rw [e2] at e
              injection e with e _ _
              rw [← Option.some.inj e]
              exact ⟨Nat.lt_of_lt_of_le hMz hbg, (Array.getElem?_eq_some_iff.1 h3).1⟩
          go_simp
          refine hK.out _ _ (hX2) (fun hHeld => ?_)
          clear hK K
          refine wpAnyH_take (i := 6) (oi := _) (v := .tuple #[r2.v (.slice xb r2.m.L.length xd), .slice ua lx.length uc, .int .i64 0]) rfl (by kernel_rfl) (by kernel_rfl) (by kernel_rfl) (fun _ _ _ h => h) (Or.inl ⟨by rfl, fun wS hSw => by go_simp⟩) (by first | trivial | assumption) ?_
          simp only [Act.put, List.getElem_toArray, List.getElem_cons_zero, List.getElem_cons_succ, List.setIfInBounds_toArray, List.set_cons_zero, List.set_cons_succ]
          refine wpAnyH_take (i := 7) (oi := _) (v := r2.v (.slice xb r2.m.L.length xd)) rfl (by kernel_rfl) (by kernel_rfl) (by kernel_rfl) (fun _ _ _ h => h) (Or.inl ⟨by rfl, fun wS hSw => by go_simp⟩) (by first | trivial | assumption) ?_
          simp only [Act.put, List.getElem_toArray, List.getElem_cons_zero, List.getElem_cons_succ, List.setIfInBounds_toArray, List.set_cons_zero, List.set_cons_succ]
          refine wpAnyH_take (i := 8) (oi := _) (v := .slice ua lx.length uc) rfl (by kernel_rfl) (by kernel_rfl) (by kernel_rfl) (fun _ _ _ h => h) (Or.inl ⟨by rfl, fun wS hSw => by go_simp⟩) (by first | trivial | assumption) ?_
          simp only [Act.put, List.getElem_toArray, List.getElem_cons_zero, List.getElem_cons_succ, List.setIfInBounds_toArray, List.set_cons_zero, List.set_cons_succ]
          refine wpAnyH_take (i := 9) (oi := _) (v := .int .i64 0) rfl (by kernel_rfl) (by kernel_rfl) (by kernel_rfl) (fun _ _ _ h => h) (Or.inl ⟨by rfl, fun wS hSw => by go_simp⟩) (by first | trivial | assumption) ?_
          simp only [Act.put, List.getElem_toArray, List.getElem_cons_zero, List.getElem_cons_succ, List.setIfInBounds_toArray, List.set_cons_zero, List.set_cons_succ]
          have hth := hZb.there 0 18 (show 0 + 18 ≤ 18 by decide)
          have hO := only_sets [.bool r2.a, .string r2.t, .string (Ck.bs r2.buf), .bool r2.i, .string r2.m.s.m, .string r2.m.s.t, .int .i64 r2.m.s.c, .string r2.m.s.r, .int .i64 r2.m.s.n, .slice xb r2.m.L.length xd, .string (Ck.bs r2.m.b), .int .i64 r2.k, .int .i64 r2.z, .int .i64 r2.c.st, .string r2.c.line, .int .i64 r2.c.left, .int .i64 r2.c.size, .int .i64 r2.e] 0 (only_refl w2x wr.heap.size)
          have hZ2 : Blk (w2x.setCells wr.heap.size 0 [.bool r2.a, .string r2.t, .string (Ck.bs r2.buf), .bool r2.i, .string r2.m.s.m, .string r2.m.s.t, .int .i64 r2.m.s.c, .string r2.m.s.r, .int .i64 r2.m.s.n, .slice xb r2.m.L.length xd, .string (Ck.bs r2.m.b), .int .i64 r2.k, .int .i64 r2.z, .int .i64 r2.c.st, .string r2.c.line, .int .i64 r2.c.left, .int .i64 r2.c.size, .int .i64 r2.e]) wr.heap.size 33 (r2.cs (.slice xb r2.m.L.length xd)) := by
            have := hZb.sets [.bool r2.a, .string r2.t, .string (Ck.bs r2.buf), .bool r2.i, .string r2.m.s.m, .string r2.m.s.t, .int .i64 r2.m.s.c, .string r2.m.s.r, .int .i64 r2.m.s.n, .slice xb r2.m.L.length xd, .string (Ck.bs r2.m.b), .int .i64 r2.k, .int .i64 r2.z, .int .i64 r2.c.st, .string r2.c.line, .int .i64 r2.c.left, .int .i64 r2.c.size, .int .i64 r2.e] 0 (show 0 + 18 ≤ 18 by decide)
            exact this
          rw [show r2.v (.slice xb r2.m.L.length xd) = .agg #[.bool r2.a, .string r2.t, .string (Ck.bs r2.buf), .bool r2.i, .string r2.m.s.m, .string r2.m.s.t, .int .i64 r2.m.s.c, .string r2.m.s.r, .int .i64 r2.m.s.n, .slice xb r2.m.L.length xd, .string (Ck.bs r2.m.b), .int .i64 r2.k, .int .i64 r2.z, .int .i64 r2.c.st, .string r2.c.line, .int .i64 r2.c.left, .int .i64 r2.c.size, .int .i64 r2.e] from rfl]
          refine wpAnyH_ready (rs := [11]) (by kernel_rfl) (by simp) ?_
          refine AllReadyH.cons (o := _) rfl (fun K hK => ?_) AllReadyH.nil
          rw [if_pos (by kernel_rfl)]
          refine wp_store_mid 33 (.tmp 18) (.tmp 72) rfl _ _ _ rfl rfl (hth) (by kernel_rfl) (by simp [Value.oneCell']) ?_
          simp only [Act.put, List.getElem_toArray, List.getElem_cons_zero, List.getElem_cons_succ, List.setIfInBounds_toArray, List.set_cons_zero, List.set_cons_succ]
          refine hK.out _ _ (hX2.keep (hO.block _ hX2.lt (fun e => by have := Option.some.inj e; omega))) (fun hHeld => ?_)
          clear hK K
          refine wpAnyH_take (i := 12) (oi := _) (v := .slice ua lx.length uc) rfl (by kernel_rfl) (by kernel_rfl) (by kernel_rfl) (fun _ _ _ h => h) (Or.inl ⟨by rfl, fun wS hSw => by go_simp⟩) (by first | trivial | assumption) ?_
          simp only [Act.put, List.getElem_toArray, List.getElem_cons_zero, List.getElem_cons_succ, List.setIfInBounds_toArray, List.set_cons_zero, List.set_cons_succ]
          refine wpAnyH_take (i := 13) (oi := _) (v := .int .i64 0) rfl (by kernel_rfl) (by kernel_rfl) (by kernel_rfl) (fun _ _ _ h => h) (Or.inl ⟨by rfl, fun wS hSw => by go_simp⟩) (by first | trivial | assumption) ?_
          simp only [Act.put, List.getElem_toArray, List.getElem_cons_zero, List.getElem_cons_succ, List.setIfInBounds_toArray, List.set_cons_zero, List.set_cons_succ]
          refine wpAnyH_done (by kernel_rfl) ?_ _
          go_wp2_with fail
          go_meet
          have hk := Kf.only hO (by rw [hZb.ty]; decide)
          exact ⟨wr.heap.size, xb, xd, ua, uc, lx, rfl, rfl, rfl, rfl, hZ2, hMnn, hFR.keep hk, hM.mrow.keep (fun a n c e => hO.block _ (hub a n c e).2 (fun e2 => by have := (hub a n c e).1; have := Option.some.inj e2; omega)) hk, hlx, hB2.trans (below_only hO (Nat.le_refl _) hB2.size)⟩
      case rest =>
      obtain ⟨M, xb, xd, ua, uc, lx, rfl, rfl, rfl, rfl, hZ, hMn, hFx, hMx, HLX, hBx⟩ := hcut
      have HB2 := hide (HB.out.below hBx)
      have HFM := hide (And.intro hFx hMx)
      clear HB hBx hNw hdr HF r0 hb hz1 hz2 hz3 hFx hMx
      go_wp2_with (refine wpList_load_want' (by kernel_rfl) 33 (.tmp 18) rfl M 0 rfl [.bool r2.a, .string r2.t, .string (Ck.bs r2.buf), .bool r2.i, .string r2.m.s.m, .string r2.m.s.t, .int .i64 r2.m.s.c, .string r2.m.s.r, .int .i64 r2.m.s.n, .slice xb r2.m.L.length xd, .string (Ck.bs r2.m.b), .int .i64 r2.k, .int .i64 r2.z, .int .i64 r2.c.st, .string r2.c.line, .int .i64 r2.c.left, .int .i64 r2.c.size, .int .i64 r2.e] _ (hZ.range 0 18) Tryz.underlying33 rfl (by kernel_rfl) ?_)
      refine (HW.out xb xd _ HFM.out.1.row).mono ?_
      rintro en w11 ⟨rfl, hb11⟩
      replace hZ := hZ.below hb11
      have HB3 := hide (HB2.out.below hb11)
      have HF3 := hide (And.intro (HFM.out.1.below hb11) (HFM.out.2.below hb11))
      clear HB2 HFM HW hb11
      go_upto_region 12 with fail
      obtain ⟨lz, hlz⟩ : ∃ lz, lg ++ lx = lz := ⟨_, rfl⟩
      have HLZ := hide hlz
      have hlxl : lx.length ≤ 30001 := by have := congrArg List.length HLX.out; rw [List.length_map] at this; omega
      have hdr : Below w11.heap.size w11 w11.drew := ⟨rfl, rfl, rfl, Nat.le_refl _, fun _ _ => rfl⟩
      have hbd := HB3.out.below hdr
      have hfd := HF3.out.1.below hdr
      have hmd := HF3.out.2.below hdr
      have HBD := hide hbd
      refine wp_region_held_drew (S := (fun w' => Blk w' M 33 (r2.cs (.slice xb r2.m.L.length xd)))) (by kernel_rfl) (hZ.drew) (fun hHeld => ?_)
      refine wpAnyH_take (i := 0) (oi := _) (v := r2.v (.slice xb r2.m.L.length xd)) rfl (by kernel_rfl) (by kernel_rfl) (by kernel_rfl) (fun _ _ _ h => h) (yieldsIf_load_mid (by kernel_rfl) 33 (.tmp 18) rfl M 0 rfl _ _ (fun _ hS => Blk.range (hS) 0 18) Tryz.underlying33 rfl (by kernel_rfl)) (by first | trivial | assumption) ?_
      simp only [Act.put, List.getElem_toArray, List.getElem_cons_zero, List.getElem_cons_succ, List.setIfInBounds_toArray, List.set_cons_zero, List.set_cons_succ]
      refine wpAnyH_take (i := 1) (oi := _) (v := .slice ga lg.length gc) rfl (by kernel_rfl) (by kernel_rfl) (by kernel_rfl) (fun _ _ _ h => h) (Or.inl ⟨by rfl, fun wS hSw => by go_simp⟩) (by first | trivial | assumption) ?_
      simp only [Act.put, List.getElem_toArray, List.getElem_cons_zero, List.getElem_cons_succ, List.setIfInBounds_toArray, List.set_cons_zero, List.set_cons_succ]
      refine wpAnyH_take (i := 2) (oi := _) (v := .slice ua lx.length uc) rfl (by kernel_rfl) (by kernel_rfl) (by kernel_rfl) (fun _ _ _ h => h) (Or.inl ⟨by rfl, fun wS hSw => by go_simp⟩) (by first | trivial | assumption) ?_
      simp only [Act.put, List.getElem_toArray, List.getElem_cons_zero, List.getElem_cons_succ, List.setIfInBounds_toArray, List.set_cons_zero, List.set_cons_succ]
      refine wpAnyH_take (i := 4) (oi := _) (v := .int .i64 b) rfl (by kernel_rfl) (by kernel_rfl) (by kernel_rfl) (fun _ _ _ h => h) (Or.inl ⟨by rfl, fun wS hSw => by go_simp⟩) (by first | trivial | assumption) ?_
      simp only [Act.put, List.getElem_toArray, List.getElem_cons_zero, List.getElem_cons_succ, List.setIfInBounds_toArray, List.set_cons_zero, List.set_cons_succ]
      refine wpAnyH_ready (rs := [3]) (by kernel_rfl) (by simp) ?_
      refine AllReadyH.cons (o := _) rfl (fun K hK => ?_) AllReadyH.nil
      rw [if_pos (by kernel_rfl)]
      refine op_append_MR (.tmp 83) (.tmp 84) rfl (Nn + 1) (.slice ga lg.length gc) (.slice ua lx.length uc) lg lx rfl rfl hbd.gm hmd (by omega) hbd.nw.lt ?_
      intro v12 w12 hm12 hg12
      have hown : ∀ k, (Value.slice ga lg.length gc).ownBlock = some k → ty w11.drew k = some 26 ∧ Nn + 1 ≤ k := fun k e => own_block7 hbd.gm.own e
      have hk12 : Kf w11.drew w12 := Kf.grown hg12 (fun k e => by rw [(hown k e).1]; decide)
      have hZ12 : Blk w12 M 33 (r2.cs (.slice xb r2.m.L.length xd)) := hZ.drew.keep (hg12.block M hZ.drew.lt (fun e => by have h1 := (hown M e.symm).1; rw [hZ.drew.ty] at h1; exact absurd h1 (by decide)))
      have hbag2 := hbd.grow hg12 hm12
      have hf12 := hfd.keep hk12
      rw [HLZ.out] at hm12 hbag2
      obtain ⟨gb, gd, hv12⟩ := owns_form hm12.own
      subst hv12
      simp only [Act.put, List.getElem_toArray, List.getElem_cons_zero, List.getElem_cons_succ, List.setIfInBounds_toArray, List.set_cons_zero, List.set_cons_succ]
      refine hK.out _ _ hZ12 (fun hHeld => ?_)
      clear hK K
      have hth := hbag2.nw.there 0 18 (show 0 + 18 ≤ 18 by decide)
      have hbag3 := hbag2.put r2 (.slice xb r2.m.L.length xd) hf12
      have hO := only_sets (r2.cs (.slice xb r2.m.L.length xd)) 0 (only_refl w12 Nn)
      have hZ13 : Blk (w12.setCells Nn 0 (r2.cs (.slice xb r2.m.L.length xd))) M 33 (r2.cs (.slice xb r2.m.L.length xd)) := hZ12.keep (hO.block _ hZ12.lt (fun e => by have := Option.some.inj e; omega))
      rw [show r2.v (.slice xb r2.m.L.length xd) = .agg #[.bool r2.a, .string r2.t, .string (Ck.bs r2.buf), .bool r2.i, .string r2.m.s.m, .string r2.m.s.t, .int .i64 r2.m.s.c, .string r2.m.s.r, .int .i64 r2.m.s.n, .slice xb r2.m.L.length xd, .string (Ck.bs r2.m.b), .int .i64 r2.k, .int .i64 r2.z, .int .i64 r2.c.st, .string r2.c.line, .int .i64 r2.c.left, .int .i64 r2.c.size, .int .i64 r2.e] from rfl]
      refine wpAnyH_ready (rs := [5]) (by kernel_rfl) (by simp) ?_
      refine AllReadyH.cons (o := _) rfl (fun K hK => ?_) AllReadyH.nil
      rw [if_pos (by kernel_rfl)]
      refine wp_store_mid 33 (.tmp 12) (.tmp 82) rfl _ _ _ rfl rfl (hth) (by kernel_rfl) (by simp [Value.oneCell']) ?_
      simp only [Act.put, List.getElem_toArray, List.getElem_cons_zero, List.getElem_cons_succ, List.setIfInBounds_toArray, List.set_cons_zero, List.set_cons_succ]
      refine hK.out _ _ (hZ13) (fun hHeld => ?_)
      clear hK K
      refine wpAnyH_take (i := 6) (oi := _) (v := .slice gb lz.length gd) rfl (by kernel_rfl) (by kernel_rfl) (by kernel_rfl) (fun _ _ _ h => h) (Or.inl ⟨by rfl, fun wS hSw => by go_simp⟩) (by first | trivial | assumption) ?_
      simp only [Act.put, List.getElem_toArray, List.getElem_cons_zero, List.getElem_cons_succ, List.setIfInBounds_toArray, List.set_cons_zero, List.set_cons_succ]
      refine wpAnyH_take (i := 7) (oi := _) (v := .int .i64 b) rfl (by kernel_rfl) (by kernel_rfl) (by kernel_rfl) (fun _ _ _ h => h) (Or.inl ⟨by rfl, fun wS hSw => by go_simp⟩) (by first | trivial | assumption) ?_
      simp only [Act.put, List.getElem_toArray, List.getElem_cons_zero, List.getElem_cons_succ, List.setIfInBounds_toArray, List.set_cons_zero, List.set_cons_succ]
      refine wpAnyH_done (by kernel_rfl) ?_ _
      go_wp2_with fail
      refine ⟨⟨j + 1, b, r2, xb, xd, gb, gd, lz, by omega, by go_num, rfl, rfl, hbag3, ?_, hbS, fun e => HBE.out (HLJ.out e)⟩, by simp [intOf]; omega⟩
      unfold Hid
      rw [HN.out, ← HLZ.out, List.map_append, HLX.out]
    · have hjl2 : j = l.length := by omega
      have ha : a = S.size := HRE.out hjl2
      have hqe : q = (r, lg.map Prod.fst) := by
        have := HC.out
        rw [ha, List.take_of_length_le (by rw [size_list']; exact Nat.le_refl _), HQ.out] at this
        exact this
      have hLm : ∀ x ∈ lg, x.1.L.length ≤ 1000000 := fun x hx => by
        have h1 := (fd_sh (rg_fresh' asks T) sh_nil (S.data.toList.take a)).2
        rw [HC.out] at h1
        exact Nat.le_trans (h1 x.1 (List.mem_map.2 ⟨x, hx, rfl⟩)) (by decide)
      subst hqe
      have hsm : lg.map Prod.fst = lq.map Prod.fst := HLQ.out.symm
      have hl40 := hlim.l
      have hd : decide ((j : Int) < (l.length : Int)) = false := decide_eq_false (by omega)
      have HB := hide hbag
      have HSM := hide (And.intro hsm (And.intro hLm hl40))
      clear hbag hsm hLm hl40 hlim hrg hsh HC HQ HLQ HRE HLA
      go_wp2_with fail
      refine (alive_any _).mono ?_
      rintro en w20 ⟨rfl, hb20⟩
      have HB2 := hide (HB.out.below hb20)
      clear HB hb20
      go_wp2_with fail
      refine (sameM_any lg lq _ _ _ HB2.out.gm.mrow HB2.out.wm HSM.out.1 (by omega) HSM.out.2.1).mono ?_
      rintro en w21 ⟨rfl, hb21⟩
      have HB3 := hide (HB2.out.below hb21)
      clear HB2 hb21
      go_wp2_with (first | (refine wpList_load_want' (by kernel_rfl) 33 (.tmp 12) rfl Nn 0 rfl (r.cs (.slice vb r.m.L.length vd)) _ (HB3.out.nw.range 0 18) Tryz.underlying33 rfl (by kernel_rfl) ?_) | (refine wpList_load_want' (by kernel_rfl) 33 (.tmp 9) rfl Nw 0 rfl (r.cs (.slice va r.m.L.length vc)) _ (HB3.out.wh.range 0 18) Tryz.underlying33 rfl (by kernel_rfl) ?_))
      refine (likeR_any r (.slice vb r.m.L.length vd) (.slice va r.m.L.length vc) _ HB3.out.nf.row HB3.out.wf.row (Nat.le_trans HSM.out.2.2 (by decide))).mono ?_
      rintro en w22 ⟨rfl, hb22⟩
      go_wp2_with fail
      go_ret
      exact ⟨rfl, (HB3.out.below hb22).be⟩

end Go.Proofs.YtmpijlaidnhpnaaGreat
