/- The walk of ChunkCuts. -/
import Derived.Test.YtalhfifippfnkaaCi
namespace Go.Proofs.Ytalhfifippfnkaa
set_option linter.unusedVariables false
set_option linter.unusedSimpArgs false
open Go.RowKit

theorem ext_mid (s : ByteArray) (a b : Nat) : (s.extract a b).data.toList = (s.data.toList.take b).drop a := by
  simp [List.drop_take]

theorem fdV_any (k : K) (l : List UInt8) : ∃ (q : K) (D : ByteArray) (n : Int) (E : Nat), fdV k l = .tuple #[.agg #[.int .i64 q.st, .string q.line, .int .i64 q.left, .int .i64 q.size], .string D, .int .i64 n, .int .i64 (E : Int)] ∧ q = (fd k l).k ∧ D = bs (fd k l).d ∧ n = fdN k l ∧ E = (fd k l).e := ⟨_, _, _, _, rfl, rfl, rfl, rfl, rfl⟩

theorem irow_one (w : World) (n : Nat) : IRow (w.alloc (.cells #[.int .i64 (n : Int)] 3)) (.slice (some ⟨w.heap.size, 0, none⟩) 1 1) [(n : Int)] := by
  refine ⟨_, 1, rfl, Nat.le_refl _, fun k hk => ⟨w.heap.size, 0, rfl, by simp, ?_⟩⟩
  obtain rfl : k = 0 := by simp at hk; exact hk
  rw [World.cell?_alloc_new]; rfl

theorem IOwn.form {b : Nat} {w : World} {v : Value} {l : List Int} (h : IOwn b w v l) (hn : 0 < l.length) : ∃ g cap, v = .slice (some ⟨g, 0, none⟩) l.length cap ∧ b ≤ g ∧ g < w.heap.size ∧ l.length ≤ cap := by
  rcases h.2 with ⟨_, h0⟩ | ⟨g, cap, cur, hv, hb, hg, hc, _⟩
  · omega
  · exact ⟨g, cap, hv, hb, (Array.getElem?_eq_some_iff.1 hg).1, hc⟩
theorem unhid {p : Prop} (h : Hid p) : p := h.out

/-- What lies in memory between two pieces: what was read at once, what was read so far, the row of the cuts. -/
structure Bag (w wr : World) (Nw Nn : Nat) (wq now : K) (v : Value) (l : List Int) : Prop where
  wh : Four wr Nw wq
  nw : Four wr Nn now
  ro : IOwn (Nn + 1) wr v l
  lt : Nw < Nn
  ge : w.heap.size ≤ Nw
  be : Below w.heap.size w wr
theorem Bag.below {w wr w' : World} {Nw Nn : Nat} {wq now : K} {v : Value} {l : List Int} (h : Bag w wr Nw Nn wq now v l) (hb : Below wr.heap.size wr w') : Bag w w' Nw Nn wq now v l :=
  ⟨h.wh.below hb, h.nw.below hb, h.ro.below hb, h.lt, h.ge, h.be.trans (hb.mono h.be.size)⟩
theorem Bag.put {w wr : World} {Nw Nn : Nat} {wq now : K} {v : Value} {l : List Int} (h : Bag w wr Nw Nn wq now v l) (q : K) : Bag w (put4 wr Nn q) Nw Nn wq q v l :=
  ⟨put4_other h.wh q (Nat.ne_of_gt h.lt), put4_four h.nw q, (((h.ro.other _ _).other _ _).other _ _).other _ _, h.lt, h.ge, put4_below h.be (Nat.le_trans h.ge (Nat.le_of_lt h.lt)) q⟩

set_option maxRecDepth 100000 in
set_option maxHeartbeats 8000000 in
theorem cuts_walk (k : K) (s : ByteArray) (ad : Option Addr) (cap : Nat) (L : List Int) (w : World) (hl : k.line.size ≤ maxLen) (hs : s.size ≤ maxLen) (hcl : L.length ≤ cap) (hcm : cap ≤ maxLen)
    (hrow : ∀ i (h : i < L.length), ∃ g off, ad = some ⟨g, off, none⟩ ∧ g < w.heap.size ∧ w.cell? ⟨g, off + i, none⟩ = some (.int .i64 L[i])) :
    Calls Try.prog 3 #[k.v, .string s, .slice ad L.length cap] w fun e w' => e = .returned (.bool true) ∧ Below w.heap.size w w' := by
  unfold maxLen at hs hcm
  obtain ⟨m, hm, hm2, hm3⟩ : ∃ m : Nat, min (s.size : Int) 3000 = (m : Int) ∧ m ≤ 3000 ∧ m ≤ s.size := ⟨(min (s.size : Int) 3000).toNat, by omega, by omega, by omega⟩
  have hmi : (m : Int) ≤ (s.size : Int) := by omega
  have hms : (s.extract 0 m).size ≤ 3000 := by rw [ByteArray.size_extract]; omega
  obtain ⟨p, hp, hp2, hp3⟩ : ∃ p : Nat, min (L.length : Int) 20 = (p : Int) ∧ p ≤ 20 ∧ p ≤ L.length := ⟨(min (L.length : Int) 20).toNat, by omega, by omega, by omega⟩
  have hpi : (p : Int) ≤ (cap : Int) := by omega
  have hpz : (0 : Int) ≤ (p : Int) := by omega
  have HIR : Hid (IRow w (.slice ad p cap) (L.take p)) := by
    have e : (L.take p).length = p := by rw [List.length_take]; omega
    refine ⟨ad, cap, by rw [e], by rw [e]; omega, fun i hi => ?_⟩
    obtain ⟨g, off, e1, e2, e3⟩ := hrow i (by omega)
    exact ⟨g, off, e1, e2, by rw [List.getElem_take]; exact e3⟩
  have HTL : Hid ((L.take p).length = p) := by unfold Hid; rw [List.length_take]; omega
  clear hrow
  have hfew := few_any k
  have hcl3 := fewK_line k
  have hX0 : Four (w.alloc (.cells #[.int .i64 k.st, .string k.line, .int .i64 k.left, .int .i64 k.size] 23)) w.heap.size k := Four.new w k
  have hB0 : Below w.heap.size w (w.alloc (.cells #[.int .i64 k.st, .string k.line, .int .i64 k.left, .int .i64 k.size] 23)) := (Below.refl _ _).alloc (Nat.le_refl _) _
  unfold K.v at hfew ⊢
  generalize fewK k = c at hfew hcl3
  go_enter Try.func3, Try.ntmps3
  go_wp2_with fail
  generalize World.alloc _ _ = W0 at hX0 hB0 ⊢
  have hX1 := hX0.drew
  have hB1 := below_drew hB0
  refine wp_region_held_drew (S := (fun _ => True)) (by kernel_rfl) (trivial) (fun hHeld => ?_)
  generalize W0.drew = W1 at hX1 hB1 ⊢
  have c0 := hX1.c0
  have c1 := hX1.c1
  have c2 := hX1.c2
  have c3 := hX1.c3
  refine wpAnyH_take (i := 2) (oi := _) (v := .string s) rfl (by kernel_rfl) (by kernel_rfl) (by kernel_rfl) (fun _ _ _ h => h) (Or.inl ⟨by rfl, fun wS hSw => by go_simp⟩) (by first | trivial | assumption) ?_
  simp only [Act.put, List.getElem_toArray, List.getElem_cons_zero, List.getElem_cons_succ, List.setIfInBounds_toArray, List.set_cons_zero, List.set_cons_succ]
  refine wpAnyH_take (i := 3) (oi := _) (v := .string s) rfl (by kernel_rfl) (by kernel_rfl) (by kernel_rfl) (fun _ _ _ h => h) (Or.inl ⟨by rfl, fun wS hSw => by go_simp⟩) (by first | trivial | assumption) ?_
  simp only [Act.put, List.getElem_toArray, List.getElem_cons_zero, List.getElem_cons_succ, List.setIfInBounds_toArray, List.set_cons_zero, List.set_cons_succ]
  refine wpAnyH_take (i := 4) (oi := _) (v := .int .i64 (s.size : Int)) rfl (by kernel_rfl) (by kernel_rfl) (by kernel_rfl) (fun _ _ _ h => h) (Or.inl ⟨by rfl, fun wS hSw => by go_simp⟩) (by first | trivial | assumption) ?_
  simp only [Act.put, List.getElem_toArray, List.getElem_cons_zero, List.getElem_cons_succ, List.setIfInBounds_toArray, List.set_cons_zero, List.set_cons_succ]
  refine wpAnyH_take (i := 5) (oi := _) (v := .int .i64 (m : Int)) rfl (by kernel_rfl) (by kernel_rfl) (by kernel_rfl) (fun _ _ _ h => h) (Or.inl ⟨by rfl, fun wS hSw => by go_simp⟩) (by first | trivial | assumption) ?_
  simp only [Act.put, List.getElem_toArray, List.getElem_cons_zero, List.getElem_cons_succ, List.setIfInBounds_toArray, List.set_cons_zero, List.set_cons_succ]
  refine wpAnyH_take (i := 6) (oi := _) (v := .string (s.extract 0 m)) rfl (by kernel_rfl) (by kernel_rfl) (by kernel_rfl) (fun _ _ _ h => h) (Or.inl ⟨by rfl, fun wS hSw => by go_simp⟩) (by first | trivial | assumption) ?_
  simp only [Act.put, List.getElem_toArray, List.getElem_cons_zero, List.getElem_cons_succ, List.setIfInBounds_toArray, List.set_cons_zero, List.set_cons_succ]
  refine wpAnyH_ready (rs := [0]) (by kernel_rfl) (by simp) ?_
  refine AllReadyH.cons (o := _) rfl (fun K hK => ?_) AllReadyH.nil
  go_simp
  refine hK.out _ _ (trivial) (fun hHeld => ?_)
  clear hK K
  refine wpAnyH_ready (rs := [1]) (by kernel_rfl) (by simp) ?_
  refine AllReadyH.cons (o := _) rfl (fun K hK => ?_) AllReadyH.nil
  go_simp
  refine (hfew _ hl).mono ?_
  rintro e w2 ⟨rfl, hb2⟩
  refine hK.out _ _ (trivial) (fun hHeld => ?_)
  clear hK K
  clear c0 c1 c2 c3
  have hX2 := hX1.below hb2
  have hB2 := hB1.trans (hb2.mono hB1.size)
  have c0 := hX2.c0
  have c1 := hX2.c1
  have c2 := hX2.c2
  have c3 := hX2.c3
  have cf := hX2.fz
  refine wpAnyH_ready (rs := [7]) (by kernel_rfl) (by simp) ?_
  refine AllReadyH.cons (o := _) rfl (fun K hK => ?_) AllReadyH.nil
  go_simp
  refine hK.out _ _ (trivial) (fun hHeld => ?_)
  clear hK K
  refine wpAnyH_ready (rs := [8]) (by kernel_rfl) (by simp) ?_
  refine AllReadyH.cons (o := _) rfl (fun K hK => ?_) AllReadyH.nil
  go_simp
  refine hK.out _ _ (trivial) (fun hHeld => ?_)
  clear hK K
  refine wpAnyH_done (by kernel_rfl) ?_ _
  clear c0 c1 c2 c3 cf
  have hX3 := put4_four hX2 c
  have hB3 := put4_below hB2 (Nat.le_refl w.heap.size) c
  dsimp only [put4] at hX3 hB3
  generalize World.setCell _ _ _ = W3 at hX3 hB3 ⊢
  have c0 := hX3.c0
  have c1 := hX3.c1
  have c2 := hX3.c2
  have c3 := hX3.c3
  generalize s.extract 0 m = S at hms ⊢
  obtain ⟨wq, wD, wn, wE, hv0, hq1, hq2, hq3, hq4⟩ := fdV_any c S.data.toList
  have hfd := feed_any c S
  unfold K.v at hfd
  rw [hv0] at hfd
  have HQ := hide (And.intro hq1 (And.intro hq2 (And.intro hq3 hq4)))
  clear hq1 hq2 hq3 hq4 hv0 hX0 hX1 hX2 hB0 hB1 hB2 hb2 hfew hm hm2 hm3 hmi hs hl
  go_wp2_with fail
  refine (hfd _ hcl3 (by omega)).mono ?_
  rintro e w4 ⟨rfl, hb4⟩
  clear c0 c1 c2 c3
  have hX4 := hX3.below hb4
  have hB4 := hB3.trans (hb4.mono hB3.size)
  have hXa := hX4.below ((Below.refl _ _).alloc (Nat.le_refl _) (.cells #[.int .i64 wq.st, .string wq.line, .int .i64 wq.left, .int .i64 wq.size] 23))
  have c0 := hXa.c0
  have c1 := hXa.c1
  have c2 := hXa.c2
  have c3 := hXa.c3
  clear hX3 hB3 hb4
  have hs1 : (w4.alloc (.cells #[.int .i64 wq.st, .string wq.line, .int .i64 wq.left, .int .i64 wq.size] 23)).heap.size = w4.heap.size + 1 := by simp
  have hs2 : ((w4.alloc (.cells #[.int .i64 wq.st, .string wq.line, .int .i64 wq.left, .int .i64 wq.size] 23)).alloc (.cells #[.int .i64 c.st, .string c.line, .int .i64 c.left, .int .i64 c.size] 23)).heap.size = w4.heap.size + 1 + 1 := by simp
  have hW1 : Four (w4.alloc (.cells #[.int .i64 wq.st, .string wq.line, .int .i64 wq.left, .int .i64 wq.size] 23)) w4.heap.size wq := Four.new w4 wq
  have hN1 := Four.new (w4.alloc (.cells #[.int .i64 wq.st, .string wq.line, .int .i64 wq.left, .int .i64 wq.size] 23)) c
  rw [hs1] at hN1
  have hB5 : Below w.heap.size w (((w4.alloc (.cells #[.int .i64 wq.st, .string wq.line, .int .i64 wq.left, .int .i64 wq.size] 23)).alloc (.cells #[.int .i64 c.st, .string c.line, .int .i64 c.left, .int .i64 c.size] 23)).alloc (.cells #[] 3)) := ((hB4.alloc hB4.size _).alloc (by have := hB4.size; rw [hs1]; omega) _).alloc (by have := hB4.size; rw [hs2]; omega) _
  have hW2 := (hW1.below ((Below.refl _ _).alloc (Nat.le_refl _) (.cells #[.int .i64 c.st, .string c.line, .int .i64 c.left, .int .i64 c.size] 23))).below ((Below.refl _ _).alloc (Nat.le_refl _) (.cells #[] 3))
  have hN2 := hN1.below ((Below.refl _ _).alloc (Nat.le_refl _) (.cells #[] 3))
  have hO2 : IOwn (w4.heap.size + 1 + 1) (((w4.alloc (.cells #[.int .i64 wq.st, .string wq.line, .int .i64 wq.left, .int .i64 wq.size] 23)).alloc (.cells #[.int .i64 c.st, .string c.line, .int .i64 c.left, .int .i64 c.size] 23)).alloc (.cells #[] 3)) (.slice (some ⟨w4.heap.size + 1 + 1, 0, none⟩) 0 0) [] := by
    have := World.ownsRow_lit (base := w4.heap.size + 1 + 1) (e := 3) (size := 1) ((w4.alloc (.cells #[.int .i64 wq.st, .string wq.line, .int .i64 wq.left, .int .i64 wq.size] 23)).alloc (.cells #[.int .i64 c.st, .string c.line, .int .i64 c.left, .int .i64 c.size] 23)) #[] 0 (by rw [hs2]; exact Nat.le_refl _) (by decide) rfl
    rw [hs2] at this
    exact this
  have hs3 : w4.heap.size + 1 + 1 ≤ (((w4.alloc (.cells #[.int .i64 wq.st, .string wq.line, .int .i64 wq.left, .int .i64 wq.size] 23)).alloc (.cells #[.int .i64 c.st, .string c.line, .int .i64 c.left, .int .i64 c.size] 23)).alloc (.cells #[] 3)).heap.size := by simp
  have hr2 := HIR.out.below hB5
  generalize L.take p = R at HIR HTL hr2
  obtain ⟨l, hlR⟩ : ∃ l, R ++ [(S.size : Int)] = l := ⟨_, rfl⟩
  have HL := hide hlR
  have hB4z := hB4.size
  have HX := hide (And.intro hO2 (And.intro hr2 (And.intro hs3 (And.intro hW2 (And.intro hN2 hB5)))))
  have HTR : Hid (R.length ≤ 20) := by unfold Hid; rw [HTL.out]; exact hp2
  clear hs1 hs2 hW1 hN1 hB5 hW2 hN2 hO2 hs3 hr2 hlR hX4 hB4 hXa
  go_wp2_with (first
    | (at_builtin; refine wpList_append_Ints rfl (.tmp 37) (.tmp 42) rfl (w4.heap.size + 1 + 1) (.slice (some ⟨w4.heap.size + 1 + 1, 0, none⟩) 0 0) (.slice ad p cap) [] R rfl rfl HX.out.1 HX.out.2.1 (by have := HTR.out; simp; omega) HX.out.2.2.1 ?_; intro v5 w5 ho5 hg5; rw [List.nil_append] at ho5; have HY := hide (And.intro ho5 hg5); clear ho5 hg5)
    | (at_builtin; refine unhid ?_))
  unfold Hid
  have hO5 := HY.out.1.below ((Below.refl _ _).alloc (Nat.le_refl _) (.cells #[.int .i64 (S.size : Int)] 3))
  have hs5 : w4.heap.size + 1 + 1 ≤ (w5.alloc (.cells #[.int .i64 (S.size : Int)] 3)).heap.size := by
    have h1 := HY.out.2.size
    have h2 := HX.out.2.2.1
    have h3 : (w5.alloc (.cells #[.int .i64 (S.size : Int)] 3)).heap.size = w5.heap.size + 1 := by simp
    omega
  refine wpList_append_Ints rfl (.tmp 43) (.tmp 46) rfl (w4.heap.size + 1 + 1) v5 (.slice (some ⟨w5.heap.size, 0, none⟩) 1 1) R [(S.size : Int)] rfl rfl hO5 (irow_one w5 S.size) (by have := HTR.out; simp; omega) hs5 ?_
  intro v6 w6 ho6 hg6
  rw [HL.out] at ho6
  obtain ⟨g, cp, hv6, hge6, hlt6, hcp6⟩ := ho6.form (by rw [← HL.out]; simp)
  subst hv6
  have hBag : Bag w w6 w4.heap.size (w4.heap.size + 1) wq c (.slice (some ⟨g, 0, none⟩) l.length cp) l := by
    obtain ⟨hO2, hr2, hs3, hW2, hN2, hB5⟩ := HX.out
    have b5 := (Below.refl (w4.heap.size + 1 + 1) _).grown HY.out.2 hs3 (fun k e => (World.ownsRow.lt hO2 k e).1)
    have b5z := HY.out.2.size
    have b6 := (b5.alloc (by omega) (.cells #[.int .i64 (S.size : Int)] 3)).grown hg6 hs5 (fun k e => (World.ownsRow.lt hO5 k e).1)
    exact ⟨hW2.under (by omega) b6, hN2.under (by omega) b6, ho6, by omega, hB4z, hB5.trans (b6.mono (by omega))⟩
  have HTL2 : Hid (l.length = p + 1) := by unfold Hid; rw [← HL.out, List.length_append, HTL.out]; rfl
  have HLA : Hid (∀ j (h : j < l.length), j + 1 = l.length → l[j] = (S.size : Int)) := by
    unfold Hid
    intro j h e
    have e2 : j = R.length := by rw [HTL2.out] at e; rw [HTL.out]; omega
    subst e2
    have := HL.out
    subst this
    simp
  have HCS := hide (Cut.start c S.data.toList hcl3)
  have hll : l.length ≤ 21 := by have := HTL2.out; omega
  clear ho6 hg6 hO5 hs5 HX HY c0 c1 c2 c3 HIR hge6 hlt6 hfd
  generalize w4.heap.size = Nw at hBag ⊢
  go_wp2_with fail
  go_loopw [12, 13, 15, 16, 17, 18, 19, 20, 49] (fun gt at1 k1 to1 x1 t1 m1 f1 i wr => ∃ (j a : Nat) (now : K) (got : List UInt8), j ≤ l.length ∧ i = .int .i64 j ∧ at1 = .int .i64 a ∧ gt = .string (bs got) ∧ Bag w wr Nw (Nw + 1) wq now (.slice (some ⟨g, 0, none⟩) l.length cp) l ∧ Hid (Cut c S.data.toList a now got) ∧ got.length ≤ 3000 ∧ Hid (j = 0 ∨ rtB c = true) ∧ Hid (j = l.length → a = S.size)) (fun _ _ _ _ _ _ _ _ i _ => l.length - (intOf i).toNat)
  case atStart => exact ⟨0, 0, c, [], Nat.zero_le _, rfl, rfl, rfl, hBag, HCS, by simp, Or.inl rfl, fun e => by have := HTL2.out; omega⟩
  case round =>
    obtain ⟨j, a, now, got, hj, rfl, rfl, rfl, hbag, HC, hgl, HR0, HRE⟩ := hrel
    have hgs : (bs got).size ≤ 3000 := by rw [bs_size]; exact hgl
    by_cases hjl : j < l.length
    · have hjz : (j : Int) < (l.length : Int) := by omega
      have hjc : (j : Int) < (cp : Int) := by omega
      have r0 := hbag.ro.pick j hjl
      have HLJ := hide (HLA.out j hjl)
      have hale := HC.out.le
      rw [size_list] at hale
      generalize l[j] = x at r0 HLJ
      obtain ⟨b, hb, hab, hbS, HBE⟩ : ∃ b : Nat, min (max x (a : Int)) (S.size : Int) = (b : Int) ∧ a ≤ b ∧ b ≤ S.size ∧ Hid (x = (S.size : Int) → b = S.size) := ⟨(min (max x (a : Int)) (S.size : Int)).toNat, by omega, by omega, by omega, by unfold Hid; omega⟩
      have hz1 : (0 : Int) ≤ (a : Int) := by omega
      have hz2 : (a : Int) ≤ (b : Int) := by omega
      have hz3 : (b : Int) ≤ (S.size : Int) := by omega
      have hpz2 : (S.extract a b).size ≤ 3000 := by rw [ByteArray.size_extract]; omega
      obtain ⟨E, q, D, n, hv, hcase⟩ := HC.out.round b hab (by rw [size_list]; exact hbS)
      have hfn := fun w' => feed_any now (S.extract a b) w' HC.out.sh (by omega)
      unfold K.v at hfn
      rw [ext_mid, hv] at hfn
      have HCASE := hide hcase
      clear hv hcase
      go_upto_region 8 with fail
      go_cut [17, 18, 19, 20] (fun s17 s18 s19 s20 wc => ∃ M : Nat, s17 = .pointer (some ⟨M, 0, none⟩) ∧ s18 = .string (bs D) ∧ s19 = .int .i64 (n : Int) ∧ s20 = .int .i64 (E : Int) ∧ Four wc M q ∧ Bag w wc Nw (Nw + 1) wq now (.slice (some ⟨g, 0, none⟩) l.length cp) l ∧ Nw + 1 < M)
      case first =>
        clear r0
        have hbx : Bag w wr.drew Nw (Nw + 1) wq now (.slice (some ⟨g, 0, none⟩) l.length cp) l := hbag.below (below_drew (Below.refl _ _))
        refine wp_region_held_drew (S := (fun w' => Four w' (Nw + 1) now)) (by kernel_rfl) (hbx.nw) (fun hHeld => ?_)
        generalize wr.drew = wX at hbx hHeld ⊢
        have hMN : Nw + 1 < wX.heap.size := hbx.nw.lt
        refine wpAnyH_take (i := 0) (oi := _) (v := .agg #[.int .i64 now.st, .string now.line, .int .i64 now.left, .int .i64 now.size]) rfl (by kernel_rfl) (by kernel_rfl) (by kernel_rfl) (fun _ _ _ h => h) (Or.inl ⟨by kernel_rfl, fun wS hSw => by have l0 := hSw.c0; have l1 := hSw.c1; have l2 := hSw.c2; have l3 := hSw.c3; go_simp⟩) (by first | trivial | assumption) ?_
        simp only [Act.put, List.getElem_toArray, List.getElem_cons_zero, List.getElem_cons_succ, List.setIfInBounds_toArray, List.set_cons_zero, List.set_cons_succ]
        refine wpAnyH_take (i := 1) (oi := _) (v := .string S) rfl (by kernel_rfl) (by kernel_rfl) (by kernel_rfl) (fun _ _ _ h => h) (Or.inl ⟨by rfl, fun wS hSw => by go_simp⟩) (by first | trivial | assumption) ?_
        simp only [Act.put, List.getElem_toArray, List.getElem_cons_zero, List.getElem_cons_succ, List.setIfInBounds_toArray, List.set_cons_zero, List.set_cons_succ]
        refine wpAnyH_take (i := 2) (oi := _) (v := .int .i64 (a : Int)) rfl (by kernel_rfl) (by kernel_rfl) (by kernel_rfl) (fun _ _ _ h => h) (Or.inl ⟨by rfl, fun wS hSw => by go_simp⟩) (by first | trivial | assumption) ?_
        simp only [Act.put, List.getElem_toArray, List.getElem_cons_zero, List.getElem_cons_succ, List.setIfInBounds_toArray, List.set_cons_zero, List.set_cons_succ]
        refine wpAnyH_take (i := 3) (oi := _) (v := .int .i64 (b : Int)) rfl (by kernel_rfl) (by kernel_rfl) (by kernel_rfl) (fun _ _ _ h => h) (Or.inl ⟨by rfl, fun wS hSw => by go_simp⟩) (by first | trivial | assumption) ?_
        simp only [Act.put, List.getElem_toArray, List.getElem_cons_zero, List.getElem_cons_succ, List.setIfInBounds_toArray, List.set_cons_zero, List.set_cons_succ]
        refine wpAnyH_take (i := 4) (oi := _) (v := .string (S.extract a b)) rfl (by kernel_rfl) (by kernel_rfl) (by kernel_rfl) (fun _ _ _ h => h) (Or.inl ⟨by rfl, fun wS hSw => by go_simp⟩) (by first | trivial | assumption) ?_
        simp only [Act.put, List.getElem_toArray, List.getElem_cons_zero, List.getElem_cons_succ, List.setIfInBounds_toArray, List.set_cons_zero, List.set_cons_succ]
        refine wpAnyH_ready (rs := [5, 11]) (by kernel_rfl) (by simp) ?_
        refine AllReadyH.cons (o := _) rfl (fun K hK => ?_) (AllReadyH.cons (o := _) rfl (fun K hK => ?_) AllReadyH.nil)
        · go_simp
          refine (hfn wX).mono ?_
          rintro e w7 ⟨rfl, hb7⟩
          refine hK.out _ _ (hbx.nw.below hb7) (fun hHeld => ?_)
          clear hK K
          refine wpAnyH_take (i := 6) (oi := _) (v := .tuple #[.agg #[.int .i64 q.st, .string q.line, .int .i64 q.left, .int .i64 q.size], .string (bs D), .int .i64 (n : Int), .int .i64 (E : Int)]) rfl (by kernel_rfl) (by kernel_rfl) (by kernel_rfl) (fun _ _ _ h => h) (Or.inl ⟨by rfl, fun wS hSw => by go_simp⟩) (by first | trivial | assumption) ?_
          simp only [Act.put, List.getElem_toArray, List.getElem_cons_zero, List.getElem_cons_succ, List.setIfInBounds_toArray, List.set_cons_zero, List.set_cons_succ]
          refine wpAnyH_take (i := 7) (oi := _) (v := .agg #[.int .i64 q.st, .string q.line, .int .i64 q.left, .int .i64 q.size]) rfl (by kernel_rfl) (by kernel_rfl) (by kernel_rfl) (fun _ _ _ h => h) (Or.inl ⟨by rfl, fun wS hSw => by go_simp⟩) (by first | trivial | assumption) ?_
          simp only [Act.put, List.getElem_toArray, List.getElem_cons_zero, List.getElem_cons_succ, List.setIfInBounds_toArray, List.set_cons_zero, List.set_cons_succ]
          refine wpAnyH_take (i := 8) (oi := _) (v := .string (bs D)) rfl (by kernel_rfl) (by kernel_rfl) (by kernel_rfl) (fun _ _ _ h => h) (Or.inl ⟨by rfl, fun wS hSw => by go_simp⟩) (by first | trivial | assumption) ?_
          simp only [Act.put, List.getElem_toArray, List.getElem_cons_zero, List.getElem_cons_succ, List.setIfInBounds_toArray, List.set_cons_zero, List.set_cons_succ]
          refine wpAnyH_take (i := 9) (oi := _) (v := .int .i64 (n : Int)) rfl (by kernel_rfl) (by kernel_rfl) (by kernel_rfl) (fun _ _ _ h => h) (Or.inl ⟨by rfl, fun wS hSw => by go_simp⟩) (by first | trivial | assumption) ?_
          simp only [Act.put, List.getElem_toArray, List.getElem_cons_zero, List.getElem_cons_succ, List.setIfInBounds_toArray, List.set_cons_zero, List.set_cons_succ]
          refine wpAnyH_take (i := 10) (oi := _) (v := .int .i64 (E : Int)) rfl (by kernel_rfl) (by kernel_rfl) (by kernel_rfl) (fun _ _ _ h => h) (Or.inl ⟨by rfl, fun wS hSw => by go_simp⟩) (by first | trivial | assumption) ?_
          simp only [Act.put, List.getElem_toArray, List.getElem_cons_zero, List.getElem_cons_succ, List.setIfInBounds_toArray, List.set_cons_zero, List.set_cons_succ]
          have hY : Four (w7.alloc (.cells #[.int .i64 0, .string ⟨#[]⟩, .int .i64 0, .int .i64 0] 23)) w7.heap.size k0 := Four.new w7 k0
          have Bl := hb7.alloc hb7.size (.cells #[.int .i64 0, .string ⟨#[]⟩, .int .i64 0, .int .i64 0] 23)
          have hNc := hbx.nw.below Bl
          have hMx := hb7.size
          have hMN2 : Nw + 1 < w7.heap.size := by omega
          clear hMN
          have hMN := hMN2
          refine wpAnyH_ready (rs := [11]) (by kernel_rfl) (by simp) ?_
          refine AllReadyH.cons (o := _) rfl (fun K hK => ?_) AllReadyH.nil
          go_simp
          refine hK.out _ _ (hNc) (fun hHeld => ?_)
          clear hK K
          generalize w7.heap.size = M at hY hMx hMN hMN2 ⊢
          generalize World.alloc _ _ = w8 at hY Bl hNc hHeld ⊢
          have y0 := hY.c0
          have y1 := hY.c1
          have y2 := hY.c2
          have y3 := hY.c3
          have yf := hY.fz
          have hS12 := put4_other (M := M) hNc q (by omega)
          dsimp only [put4] at hS12
          refine wpAnyH_ready (rs := [12]) (by kernel_rfl) (by simp) ?_
          refine AllReadyH.cons (o := _) rfl (fun K hK => ?_) AllReadyH.nil
          go_simp
          refine hK.out _ _ (hS12) (fun hHeld => ?_)
          clear hK K
          refine wpAnyH_ready (rs := [13]) (by kernel_rfl) (by simp) ?_
          refine AllReadyH.cons (o := _) rfl (fun K hK => ?_) AllReadyH.nil
          go_simp
          refine hK.out _ _ (hHeld) (fun hHeld => ?_)
          clear hK K
          refine wpAnyH_ready (rs := [14]) (by kernel_rfl) (by simp) ?_
          refine AllReadyH.cons (o := _) rfl (fun K hK => ?_) AllReadyH.nil
          go_simp
          refine hK.out _ _ (hHeld) (fun hHeld => ?_)
          clear hK K
          refine wpAnyH_ready (rs := [15]) (by kernel_rfl) (by simp) ?_
          refine AllReadyH.cons (o := _) rfl (fun K hK => ?_) AllReadyH.nil
          go_simp
          refine hK.out _ _ (hHeld) (fun hHeld => ?_)
          clear hK K
          refine wpAnyH_done (by kernel_rfl) ?_ _
          go_wp2_with fail
          go_meet
          have hP := put4_four hY q
          have hE := hbx.below (put4_below Bl hMx q)
          dsimp only [put4] at hP hE
          exact ⟨M, rfl, rfl, rfl, rfl, hP, hE, hMN⟩
        · go_simp
          have hY0 : Four (wX.alloc (.cells #[.int .i64 0, .string ⟨#[]⟩, .int .i64 0, .int .i64 0] 23)) wX.heap.size k0 := Four.new wX k0
          have Bl0 := (Below.refl wX.heap.size wX).alloc (Nat.le_refl _) (.cells #[.int .i64 0, .string ⟨#[]⟩, .int .i64 0, .int .i64 0] 23)
          have hN0 := hbx.nw.below Bl0
          refine hK.out _ _ hN0 (fun hHeld => ?_)
          clear hK K
          have hMx : wX.heap.size ≤ wX.heap.size := Nat.le_refl _
          obtain ⟨M, hM⟩ : ∃ M, wX.heap.size = M := ⟨_, rfl⟩
          generalize World.alloc _ _ = w8 at hY0 Bl0 hN0 hHeld ⊢
          refine wpAnyH_ready (rs := [5]) (by kernel_rfl) (by simp) ?_
          refine AllReadyH.cons (o := _) rfl (fun K hK => ?_) AllReadyH.nil
          go_simp
          refine (hfn w8).mono ?_
          rintro e w9 ⟨rfl, hb9⟩
          refine hK.out _ _ (hN0.below hb9) (fun hHeld => ?_)
          clear hK K
          have hY := hY0.below hb9
          have Bl := Bl0.trans (hb9.mono Bl0.size)
          have hNc := hN0.below hb9
          refine wpAnyH_take (i := 6) (oi := _) (v := .tuple #[.agg #[.int .i64 q.st, .string q.line, .int .i64 q.left, .int .i64 q.size], .string (bs D), .int .i64 (n : Int), .int .i64 (E : Int)]) rfl (by kernel_rfl) (by kernel_rfl) (by kernel_rfl) (fun _ _ _ h => h) (Or.inl ⟨by rfl, fun wS hSw => by go_simp⟩) (by first | trivial | assumption) ?_
          simp only [Act.put, List.getElem_toArray, List.getElem_cons_zero, List.getElem_cons_succ, List.setIfInBounds_toArray, List.set_cons_zero, List.set_cons_succ]
          refine wpAnyH_take (i := 7) (oi := _) (v := .agg #[.int .i64 q.st, .string q.line, .int .i64 q.left, .int .i64 q.size]) rfl (by kernel_rfl) (by kernel_rfl) (by kernel_rfl) (fun _ _ _ h => h) (Or.inl ⟨by rfl, fun wS hSw => by go_simp⟩) (by first | trivial | assumption) ?_
          simp only [Act.put, List.getElem_toArray, List.getElem_cons_zero, List.getElem_cons_succ, List.setIfInBounds_toArray, List.set_cons_zero, List.set_cons_succ]
          refine wpAnyH_take (i := 8) (oi := _) (v := .string (bs D)) rfl (by kernel_rfl) (by kernel_rfl) (by kernel_rfl) (fun _ _ _ h => h) (Or.inl ⟨by rfl, fun wS hSw => by go_simp⟩) (by first | trivial | assumption) ?_
          simp only [Act.put, List.getElem_toArray, List.getElem_cons_zero, List.getElem_cons_succ, List.setIfInBounds_toArray, List.set_cons_zero, List.set_cons_succ]
          refine wpAnyH_take (i := 9) (oi := _) (v := .int .i64 (n : Int)) rfl (by kernel_rfl) (by kernel_rfl) (by kernel_rfl) (fun _ _ _ h => h) (Or.inl ⟨by rfl, fun wS hSw => by go_simp⟩) (by first | trivial | assumption) ?_
          simp only [Act.put, List.getElem_toArray, List.getElem_cons_zero, List.getElem_cons_succ, List.setIfInBounds_toArray, List.set_cons_zero, List.set_cons_succ]
          refine wpAnyH_take (i := 10) (oi := _) (v := .int .i64 (E : Int)) rfl (by kernel_rfl) (by kernel_rfl) (by kernel_rfl) (fun _ _ _ h => h) (Or.inl ⟨by rfl, fun wS hSw => by go_simp⟩) (by first | trivial | assumption) ?_
          simp only [Act.put, List.getElem_toArray, List.getElem_cons_zero, List.getElem_cons_succ, List.setIfInBounds_toArray, List.set_cons_zero, List.set_cons_succ]
          rw [hM] at hY hMN
          replace hMx : wX.heap.size ≤ M := by omega
          have y0 := hY.c0
          have y1 := hY.c1
          have y2 := hY.c2
          have y3 := hY.c3
          have yf := hY.fz
          have hS12 := put4_other (M := M) hNc q (by omega)
          dsimp only [put4] at hS12
          refine wpAnyH_ready (rs := [12]) (by kernel_rfl) (by simp) ?_
          refine AllReadyH.cons (o := _) rfl (fun K hK => ?_) AllReadyH.nil
          go_simp
          refine hK.out _ _ (hS12) (fun hHeld => ?_)
          clear hK K
          refine wpAnyH_ready (rs := [13]) (by kernel_rfl) (by simp) ?_
          refine AllReadyH.cons (o := _) rfl (fun K hK => ?_) AllReadyH.nil
          go_simp
          refine hK.out _ _ (hHeld) (fun hHeld => ?_)
          clear hK K
          refine wpAnyH_ready (rs := [14]) (by kernel_rfl) (by simp) ?_
          refine AllReadyH.cons (o := _) rfl (fun K hK => ?_) AllReadyH.nil
          go_simp
          refine hK.out _ _ (hHeld) (fun hHeld => ?_)
          clear hK K
          refine wpAnyH_ready (rs := [15]) (by kernel_rfl) (by simp) ?_
          refine AllReadyH.cons (o := _) rfl (fun K hK => ?_) AllReadyH.nil
          go_simp
          refine hK.out _ _ (hHeld) (fun hHeld => ?_)
          clear hK K
          refine wpAnyH_done (by kernel_rfl) ?_ _
          go_wp2_with fail
          go_meet
          have hP := put4_four hY q
          have hE := hbx.below (put4_below Bl hMx q)
          dsimp only [put4] at hP hE
          exact ⟨M, rfl, rfl, rfl, rfl, hP, hE, hMN⟩
      case rest =>
        obtain ⟨M, rfl, rfl, rfl, rfl, hQ, hG, hMN⟩ := hcut
        clear r0 hbag hfn
        have hjl2 : j + 1 ≤ l.length := by omega
        have hjz2 : (j : Int) + 1 ≤ 21 := by omega
        clear hb hz1 hz2 hz3 hpz2
        rcases HCASE.out with ⟨hE0, rfl, rfl, hbad⟩ | ⟨rfl, hrt, hdl, hgd, han, hlt, heq⟩
        · have hEz : ((E : Int) != 0) = true := by simp; exact hE0
          obtain ⟨u1, u2, u3, u4⟩ := HQ.out
          rw [hbad] at u1 u4
          obtain rfl : wq = k0 := u1
          obtain rfl : wE = E := u4
          clear HCASE hbad u2 u3 HQ hE0
          go_wp2_with fail
          refine (alive_any _).mono ?_
          rintro e w20 ⟨rfl, hb20⟩
          have hG20 := hG.below hb20
          have hQ20 := hQ.below hb20
          have x0 : w20.cell? ⟨Nw, 0, none⟩ = some (.int .i64 0) := hG20.wh.c0
          have x1 : w20.cell? ⟨Nw, 1, none⟩ = some (.string ⟨#[]⟩) := hG20.wh.c1
          have x2 : w20.cell? ⟨Nw, 2, none⟩ = some (.int .i64 0) := hG20.wh.c2
          have x3 : w20.cell? ⟨Nw, 3, none⟩ = some (.int .i64 0) := hG20.wh.c3
          have z0 : w20.cell? ⟨M, 0, none⟩ = some (.int .i64 0) := hQ20.c0
          have z1 : w20.cell? ⟨M, 1, none⟩ = some (.string ⟨#[]⟩) := hQ20.c1
          have z2 : w20.cell? ⟨M, 2, none⟩ = some (.int .i64 0) := hQ20.c2
          have z3 : w20.cell? ⟨M, 3, none⟩ = some (.int .i64 0) := hQ20.c3
          go_wp2_with fail
          go_ret
          exact ⟨rfl, hG20.be⟩
        · have hQ0 := hQ.c0
          have hQ1 := hQ.c1
          have hQ2 := hQ.c2
          have hQ3 := hQ.c3
          have n0 := hG.nw.c0
          have n1 := hG.nw.c1
          have n2 := hG.nw.c2
          have n3 := hG.nw.c3
          have nf := hG.nw.fz
          have hG2 := hG.put q
          dsimp only [put4] at hG2
          have HG2 := hide hG2
          have hds : (bs D).size ≤ 3000 := by rw [bs_size]; rw [size_list] at hdl; omega
          have hgg : got.length + D.length ≤ 3000 := by rw [List.length_append, size_list] at hgd; omega
          have hnn : (0 : Int) ≤ (n : Int) := by omega
          have hn3 : decide ((n : Int) < 0) = false := decide_eq_false (by omega)
          have hn4 : decide ((b : Int) < (a : Int) + (n : Int)) = false := decide_eq_false (by omega)
          have hn5 : (a : Int) + (n : Int) ≤ 3000 := by omega
          have HGG : Hid (bs got ++ bs D = bs (got ++ D)) := by unfold Hid; apply bytes_ext; rw [app_list, bs_list, bs_list, bs_list]
          have HLT := hide hlt
          have HEQ := hide heq
          clear HCASE hlt heq hG2 hgd hdl
          by_cases hbr : a + n < b
          · have hn6 : decide ((a : Int) + (n : Int) < (b : Int)) = true := decide_eq_true (by omega)
            obtain ⟨r, hfd2, hrl⟩ := HLT.out hbr
            obtain ⟨u1, u2, u3, u4⟩ := HQ.out
            have u5 : wn = (a : Int) + (n : Int) := by
              rw [u3]; unfold fdN; rw [hfd2, if_pos rfl]
              show ((S.data.toList.length : Int)) - (r.length : Int) = _
              omega
            rw [hfd2] at u1 u2 u4
            obtain rfl : wq = q := u1
            obtain rfl : wD = bs (got ++ D) := u2
            obtain rfl : wE = 0 := u4
            subst u5
            clear HQ hfd2 hrl HLT HEQ hbr u3
            have hG := HG2.out
            have hcat := HGG.out
            go_wp2_with fail
            refine (alive_any _).mono ?_
            rintro e w20 ⟨rfl, hb20⟩
            have hG20 := hG.below hb20
            have x0 := hG20.wh.c0
            have x1 := hG20.wh.c1
            have x2 := hG20.wh.c2
            have x3 := hG20.wh.c3
            have z0 := hG20.nw.c0
            have z1 := hG20.nw.c1
            have z2 := hG20.nw.c2
            have z3 := hG20.nw.c3
            go_wp2_with fail
            go_ret
            exact ⟨rfl, hG20.be⟩
          · have hn6 : decide ((a : Int) + (n : Int) < (b : Int)) = false := decide_eq_false (by omega)
            have hab2 : a + n = b := by omega
            have HC2 := hide (HEQ.out hab2)
            clear HLT HEQ
            go_wp2_with fail
            refine ⟨⟨j + 1, b, q, got ++ D, by omega, by go_num, by go_num, by rw [HGG.out], HG2.out, HC2, by rw [List.length_append]; omega, Or.inr hrt, ?_⟩, by simp [intOf]; omega⟩
            intro e
            exact HBE.out (HLJ.out e)
    · obtain rfl : j = l.length := by omega
      have hjz : decide ((l.length : Int) < (l.length : Int)) = false := decide_eq_false (by omega)
      have hrt : rtB c = true := by
        rcases HR0.out with e | e
        · have := HTL2.out; omega
        · exact e
      obtain rfl : a = S.size := HRE.out rfl
      have hwh := Cut.whole (l := S.data.toList) (by rw [size_list]; exact HC.out) hrt
      obtain ⟨u1, u2, u3, u4⟩ := HQ.out
      have u5 : wn = (S.size : Int) := by
        rw [u3]; unfold fdN; rw [hwh, if_pos rfl, size_list]; simp
      rw [hwh] at u1 u2 u4
      obtain rfl : wq = now := u1
      obtain rfl : wD = bs got := u2
      obtain rfl : wE = 0 := u4
      subst u5
      have hG := hbag
      clear HQ hwh HC HR0 HRE hbag u3
      go_wp2_with fail
      refine (alive_any _).mono ?_
      rintro e w20 ⟨rfl, hb20⟩
      have hG20 := hG.below hb20
      have x0 := hG20.wh.c0
      have x1 := hG20.wh.c1
      have x2 := hG20.wh.c2
      have x3 := hG20.wh.c3
      have z0 := hG20.nw.c0
      have z1 := hG20.nw.c1
      have z2 := hG20.nw.c2
      have z3 := hG20.nw.c3
      go_wp2_with fail
      go_ret
      exact ⟨rfl, hG20.be⟩

end Go.Proofs.Ytalhfifippfnkaa
