/- First lines as lists of bytes: which may be, how they are written, what a line is read as; by plain reckoning. -/
import Derived.Test.YtmpijlaidnhpnaaGreatJCb
import Derived.Test.YtmpijlaidnhpnaaGreatJHm
import Derived.Test.YtmpijlaidnhpnaaGreatJMt
namespace Go.Proofs.YtmpijlaidnhpnaaGreat.Sr
set_option linter.unusedVariables false
set_option linter.unusedSimpArgs false

/- Bytes -/

def verL : List UInt8 := [72, 84, 84, 80, 47, 49, 46]

/-- The version, written. -/
def verN (n : Int) : List UInt8 := verL ++ dgs 10 (by omega) n.toNat
def wrL (s : St) : List UInt8 :=
  if s.c = 0 then s.m.data.toList ++ 32 :: (s.t.data.toList ++ 32 :: verN s.n) else verN s.n ++ 32 :: (dgs 10 (by omega) s.c.toNat ++ 32 :: s.r.data.toList)

def mnr (l : List UInt8) : Int := if l = verL ++ [48] then 0 else if l = verL ++ [49] then 1 else -1
def cod (l : List UInt8) : Int := if rdE 10 l = 0 ∧ l.length = 3 then (rdN 10 l : Int) else -1

def psU (s : ByteArray) : St := ⟨befS 32 s, befS 32 (aftS 32 s), 0, noS, mnr (aftS 32 (aftS 32 s)).data.toList⟩
def stU (s : ByteArray) : St := ⟨noS, noS, cod (befS 32 (aftS 32 s)).data.toList, aftS 32 (aftS 32 s), mnr (befS 32 s).data.toList⟩

theorem dgs_zero : dgs 10 (by omega) 0 = [48] := by decide +kernel
theorem dgs_one : dgs 10 (by omega) 1 = [49] := by decide +kernel
theorem verN_zero : verN 0 = verL ++ [48] := by unfold verN; rw [show (0 : Int).toNat = 0 from rfl, dgs_zero]
theorem verN_one : verN 1 = verL ++ [49] := by unfold verN; rw [show (1 : Int).toNat = 1 from rfl, dgs_one]
theorem mnr_zero : mnr (verN 0) = 0 := by rw [verN_zero, mnr, if_pos rfl]
theorem mnr_one : mnr (verN 1) = 1 := by rw [verN_one, mnr, if_neg (by decide), if_pos rfl]
theorem mnr_back {l : List UInt8} (h : mnr l = 0 ∨ mnr l = 1) : l = verN (mnr l) := by
  unfold mnr at h ⊢
  by_cases h0 : l = verL ++ [48]
  · rw [if_pos h0, verN_zero, h0]
  · rw [if_neg h0] at h ⊢
    by_cases h1 : l = verL ++ [49]
    · rw [if_pos h1, verN_one, h1]
    · rw [if_neg h1] at h; omega
theorem mnr_verN {n : Int} (h : n = 0 ∨ n = 1) : mnr (verN n) = n := by
  rcases h with rfl | rfl
  · exact mnr_zero
  · exact mnr_one
/- Cutting at the first blank -/

theorem tw_none {c : UInt8} {x r : List UInt8} (h : c ∉ x) : (x ++ c :: r).takeWhile (neB c) = x := by
  induction x with
  | nil => simp [neB]
  | cons a x ih =>
    have ha : neB c a = true := by
      have : a ≠ c := fun e => h (by rw [e]; simp)
      simpa [neB] using this
    rw [List.cons_append, List.takeWhile_cons, ha]
    simp [ih (fun e => h (by simp [e]))]
theorem dw_none {c : UInt8} {x r : List UInt8} (h : c ∉ x) : (x ++ c :: r).dropWhile (neB c) = c :: r := by
  rw [← drop_takeWhile, tw_none h, List.drop_left]
theorem tw_all {c : UInt8} {x : List UInt8} (h : c ∉ x) : x.takeWhile (neB c) = x := by
  have := takeWhile_all (p := neB c) (l := x) (fun a ha => by
    have : a ≠ c := fun e => h (e ▸ ha)
    simpa [neB] using this)
  rw [← take_tw, this, List.take_length]
theorem dw_all {c : UInt8} {x : List UInt8} (h : c ∉ x) : x.dropWhile (neB c) = [] := by
  rw [← drop_takeWhile, tw_all h, List.drop_length]
theorem bef_cut {c : UInt8} {s : ByteArray} {x r : List UInt8} (hs : s.data.toList = x ++ c :: r) (h : c ∉ x) : (befS c s).data.toList = x := by
  rw [befS_list, hs, tw_none h]
theorem aft_cut {c : UInt8} {s : ByteArray} {x r : List UInt8} (hs : s.data.toList = x ++ c :: r) (h : c ∉ x) : (aftS c s).data.toList = r := by
  rw [aftS_list, hs, dw_none h]; rfl
theorem bef_all {c : UInt8} {s : ByteArray} (h : c ∉ s.data.toList) : (befS c s).data.toList = s.data.toList := by rw [befS_list, tw_all h]
theorem aft_all {c : UInt8} {s : ByteArray} (h : c ∉ s.data.toList) : (aftS c s).data.toList = [] := by rw [aftS_list, dw_all h]; rfl
theorem bef_free (c : UInt8) (s : ByteArray) : c ∉ (befS c s).data.toList := by
  rw [befS_list]
  intro h
  have := List.all_eq_true.1 (List.all_takeWhile (p := neB c) (l := s.data.toList)) c h
  simp [neB] at this
theorem cut_back {c : UInt8} {s : ByteArray} (h : c ∈ s.data.toList) : s.data.toList = (befS c s).data.toList ++ c :: (aftS c s).data.toList := by
  have hl := (hasL_iff c s.data.toList).2 h
  unfold hasL at hl
  rw [decide_eq_true_eq] at hl
  have h1 : s.data.toList = s.data.toList.takeWhile (neB c) ++ s.data.toList.dropWhile (neB c) := (List.takeWhile_append_dropWhile).symm
  rw [befS_list, aftS_list]
  cases hd : s.data.toList.dropWhile (neB c) with
  | nil =>
    rw [hd, List.append_nil] at h1
    unfold atN at hl
    rw [← h1] at hl
    omega
  | cons a r =>
    have ha := dropWhile_head (neB c) s.data.toList a (by rw [hd]; rfl)
    have : a = c := by simpa [neB] using ha
    rw [hd, this] at h1
    exact h1

/- Which bytes are where -/

theorem tgt_free {l : List UInt8} (h : tgtL l = true) : 32 ∉ l := by
  unfold tgtL at h
  rw [Bool.or_eq_true, Bool.and_eq_true] at h
  rcases h with h | h
  · rw [decide_eq_true_eq] at h; rw [h]; decide
  · exact all_free h.2 (by decide)
theorem ver_free {n : Int} (h : n = 0 ∨ n = 1) : (32 : UInt8) ∉ verN n ∧ (47 : UInt8) ∈ verN n := by
  rcases h with rfl | rfl
  · rw [verN_zero]; decide
  · rw [verN_one]; decide
theorem ver_len {n : Int} (h : n = 0 ∨ n = 1) : (verN n).length = 8 := by
  rcases h with rfl | rfl
  · rw [verN_zero]; decide
  · rw [verN_one]; decide
theorem dgs_free (u : Nat) : (32 : UInt8) ∉ dgs 10 (by omega) u := by
  intro h
  have := List.all_eq_true.1 (dgs_okay (b := 10) (by omega) (by omega) u) 32 h
  revert this
  decide

theorem hx_vl_fin : ∀ c : Fin 256, vl (UInt8.ofNat c.val) < 10 → hx (vl (UInt8.ofNat c.val)) = UInt8.ofNat c.val := by decide +kernel
theorem hx_vl {c : UInt8} (h : vl c < 10) : hx (vl c) = c := by
  have := hx_vl_fin ⟨c.toNat, c.toNat_lt⟩
  simp at this
  exact this h
theorem three {l : List UInt8} (hl : l.length = 3) (ho : okay 10 l = true) (hv : 100 ≤ val 10 l) : dgs 10 (by omega) (val 10 l) = l := by
  match l, hl with
  | [a, b, c], _ =>
    simp only [okay, List.all_cons, List.all_nil, Bool.and_true, Bool.and_eq_true, decide_eq_true_eq] at ho
    obtain ⟨ha, hb, hc⟩ := ho
    have e : val 10 [a, b, c] = (vl a * 10 + vl b) * 10 + vl c := by simp [val]
    rw [e] at hv ⊢
    rw [dgs_big _ (by omega), show ((vl a * 10 + vl b) * 10 + vl c) / 10 = vl a * 10 + vl b by omega, show ((vl a * 10 + vl b) * 10 + vl c) % 10 = vl c by omega]
    rw [dgs_big _ (by omega), show (vl a * 10 + vl b) / 10 = vl a by omega, show (vl a * 10 + vl b) % 10 = vl b by omega]
    rw [dgs_small _ (by omega), hx_vl ha, hx_vl hb, hx_vl hc]
    rfl
theorem dgs_three {n : Nat} (h0 : 100 ≤ n) (h1 : n ≤ 599) : (dgs 10 (by omega) n).length = 3 := by
  rw [dgs_big _ (by omega), dgs_big _ (by omega), dgs_small _ (by omega)]
  rfl
theorem rd_dgs {n : Nat} (h1 : n ≤ 599) : rdE 10 (dgs 10 (by omega) n) = 0 ∧ rdN 10 (dgs 10 (by omega) n) = n := by
  have hv : val 10 (dgs 10 (by omega) n) = n := by
    have := val_dgs (b := 10) (by omega) (by omega) [] rfl n
    simpa using this
  have h0 := dgs_ne_nil (b := 10) (by omega) n
  have h2 := dgs_okay (b := 10) (by omega) (by omega) n
  exact ⟨rdE_fine h0 h2 (by rw [hv]; omega), by rw [rdN_fine h0 h2 (by rw [hv]; omega), hv]⟩
theorem cod_dgs {n : Int} (h0 : 100 ≤ n) (h1 : n ≤ 599) : cod (dgs 10 (by omega) n.toNat) = n := by
  unfold cod
  have := rd_dgs (n := n.toNat) (by omega)
  rw [if_pos ⟨this.1, dgs_three (by omega) (by omega)⟩, this.2]
  omega
theorem cod_of {l : List UInt8} (h0 : 100 ≤ cod l) : cod l = rdN 10 l ∧ dgs 10 (by omega) (rdN 10 l) = l := by
  unfold cod at h0 ⊢
  by_cases h : rdE 10 l = 0 ∧ l.length = 3
  · rw [if_pos h] at h0 ⊢
    refine ⟨rfl, ?_⟩
    have hne : l ≠ [] := fun e => by rw [e] at h; simp at h
    have hok : okay 10 l = true := by
      cases hk : okay 10 l
      · have := rdE_bad (b := 10) (Or.inr hk); omega
      · rfl
    have hv : ¬ 1099511627776 < val 10 l := fun e => by have := rdE_long hne hok e; omega
    rw [rdN_fine hne hok hv] at h0 ⊢
    exact three h.2 hok (by omega)
  · rw [if_neg h] at h0; omega

/- What is written is read again -/

def wrS (s : St) : ByteArray := bytes (wrL s)
theorem wrS_list (s : St) : (wrS s).data.toList = wrL s := bytes_list _
theorem wr_req {s : St} (h : s.c = 0) : wrL s = s.m.data.toList ++ 32 :: (s.t.data.toList ++ 32 :: verN s.n) := by rw [wrL, if_pos h]
theorem wr_sta {s : St} (h : s.c ≠ 0) : wrL s = verN s.n ++ 32 :: (dgs 10 (by omega) s.c.toNat ++ 32 :: s.r.data.toList) := by rw [wrL, if_neg h]

theorem cuts {x y z : List UInt8} {s : ByteArray} (hs : s.data.toList = x ++ 32 :: (y ++ 32 :: z)) (hx : 32 ∉ x) (hy : 32 ∉ y) :
    (befS 32 s).data.toList = x ∧ (befS 32 (aftS 32 s)).data.toList = y ∧ (aftS 32 (aftS 32 s)).data.toList = z :=
  ⟨bef_cut hs hx, bef_cut (aft_cut hs hx) hy, aft_cut (aft_cut hs hx) hy⟩

theorem back_req {s : St} (h : rtB s = true) (g : s.c = 0) : psU (wrS s) = s := by
  have q := rt_req h g
  obtain ⟨h1, h2, h3⟩ := cuts (s := wrS s) (by rw [wrS_list, wr_req g]) (tok_free q.k (by decide)) (tgt_free q.t)
  refine St.ext ?_ ?_ ?_ ?_ ?_
  · exact h1
  · exact h2
  · exact g.symm
  · exact q.r.symm
  · show mnr _ = _
    rw [h3, mnr_verN (rt_minor h)]
theorem back_sta {s : St} (h : rtB s = true) (g : s.c ≠ 0) : stU (wrS s) = s := by
  have q := rt_sta h g
  obtain ⟨h1, h2, h3⟩ := cuts (s := wrS s) (by rw [wrS_list, wr_sta g]) (ver_free (rt_minor h)).1 (dgs_free _)
  refine St.ext ?_ ?_ ?_ ?_ ?_
  · exact q.m.symm
  · exact q.t.symm
  · show cod _ = _
    rw [h2, cod_dgs q.c0 q.c1]
  · exact h3
  · show mnr _ = _
    rw [h1, mnr_verN (rt_minor h)]
/- What is read is written so -/

theorem ps_written {s : ByteArray} (h : rtB (psU s) = true) : wrS (psU s) = s := by
  have hn : mnr (aftS 32 (aftS 32 s)).data.toList = 0 ∨ mnr (aftS 32 (aftS 32 s)).data.toList = 1 := rt_minor h
  have hv := mnr_back hn
  have hne : (aftS 32 (aftS 32 s)).data.toList ≠ [] := fun e => by
    have := ver_len hn
    rw [← hv, e] at this
    cases this
  have h2 : 32 ∈ (aftS 32 s).data.toList := Decidable.byContradiction fun k => hne (aft_all k)
  have h1 : 32 ∈ s.data.toList := Decidable.byContradiction fun k => by rw [aft_all k] at h2; cases h2
  apply bytes_ext
  rw [wrS_list, wr_req rfl]
  show (befS 32 s).data.toList ++ 32 :: ((befS 32 (aftS 32 s)).data.toList ++ 32 :: verN (mnr (aftS 32 (aftS 32 s)).data.toList)) = s.data.toList
  rw [← hv, ← cut_back h2, ← cut_back h1]
theorem st_code {s : ByteArray} (h : rtB (stU s) = true) : (stU s).c ≠ 0 := by
  intro g
  have := (rt_req h g).k
  rw [tok_nil (s := (stU s).m) rfl] at this
  cases this
/-- What a status line is written as: with a blank behind its code. -/
def lineS (s : ByteArray) : ByteArray := if 32 ∈ (aftS 32 s).data.toList then s else s ++ ⟨#[32]⟩
theorem st_head {s : ByteArray} (h : rtB (stU s) = true) : s.data.toList = verN (mnr (befS 32 s).data.toList) ++ 32 :: (aftS 32 s).data.toList := by
  have q := rt_sta h (st_code h)
  have hv := mnr_back (rt_minor h : mnr (befS 32 s).data.toList = 0 ∨ mnr (befS 32 s).data.toList = 1)
  have hc := (cod_of q.c0).2
  have h1 : 32 ∈ s.data.toList := Decidable.byContradiction fun k => by
    have e0 := aft_all k
    have e1 := bef_all (c := 32) (s := aftS 32 s) (by rw [e0]; simp)
    rw [e0] at e1
    rw [e1] at hc
    exact dgs_ne_nil _ _ hc
  rw [← hv, ← cut_back h1]
theorem st_written {s : ByteArray} (h : rtB (stU s) = true) : wrS (stU s) = lineS s := by
  have q := rt_sta h (st_code h)
  have hc := cod_of q.c0
  apply bytes_ext
  have e : wrL (stU s) = verN (mnr (befS 32 s).data.toList) ++ 32 :: ((befS 32 (aftS 32 s)).data.toList ++ 32 :: (aftS 32 (aftS 32 s)).data.toList) := by
    rw [wr_sta (st_code h)]
    show verN (mnr (befS 32 s).data.toList) ++ 32 :: (dgs 10 _ (cod (befS 32 (aftS 32 s)).data.toList).toNat ++ 32 :: (aftS 32 (aftS 32 s)).data.toList) = _
    rw [hc.1, Int.toNat_natCast, hc.2]
  rw [wrS_list, e, lineS]
  have hh := st_head h
  split
  · rename_i k
    rw [← cut_back k, ← hh]
  · rename_i k
    rw [aft_all k, bef_all k, app_list]
    generalize (aftS 32 s).data.toList = A at hh ⊢
    rw [hh]
    simp
/- The document's own readings -/

def rpU (s : ByteArray) : St := ⟨befS 32 s, befS 32 (aftS 32 s), 0, noS, if (aftS 32 (aftS 32 s)).data.toList = verL ++ [49] then 1 else 0⟩
def rsU (s : ByteArray) : St := ⟨noS, noS, (rdN 10 (befS 32 (aftS 32 s)).data.toList : Int), aftS 32 (aftS 32 s), if (befS 32 s).data.toList = verL ++ [49] then 1 else 0⟩

theorem pick_minor {l : List UInt8} (h : mnr l = 0 ∨ mnr l = 1) : (if l = verL ++ [49] then (1 : Int) else 0) = mnr l := by
  have hv := mnr_back h
  rcases h with h | h
  · rw [h] at hv ⊢
    rw [verN_zero] at hv
    rw [if_neg (by rw [hv]; decide)]
  · rw [h] at hv ⊢
    rw [verN_one] at hv
    rw [if_pos hv]
theorem rp_same {s : ByteArray} (h : rtB (psU s) = true) : rpU s = psU s := by
  have := pick_minor (rt_minor h : mnr (aftS 32 (aftS 32 s)).data.toList = 0 ∨ mnr (aftS 32 (aftS 32 s)).data.toList = 1)
  exact St.ext rfl rfl rfl rfl this
theorem rp_yes {s : ByteArray} (h : rtB (psU s) = true) : rtB (rpU s) = true ∧ wrS (rpU s) = s := by
  rw [rp_same h]
  exact ⟨h, ps_written h⟩
theorem rp_no {s : ByteArray} (h : rtB (psU s) = false) (g : rtB (rpU s) = true) : wrS (rpU s) ≠ s := by
  intro e
  have := back_req g rfl
  rw [e] at this
  rw [this, g] at h
  cases h
theorem rs_same {s : ByteArray} (h : rtB (stU s) = true) : rsU s = stU s := by
  have := pick_minor (rt_minor h : mnr (befS 32 s).data.toList = 0 ∨ mnr (befS 32 s).data.toList = 1)
  exact St.ext rfl rfl (cod_of (rt_sta h (st_code h)).c0).1.symm rfl this
theorem rs_yes {s : ByteArray} (h : rtB (stU s) = true) : (rsU s).c ≠ 0 ∧ rtB (rsU s) = true ∧ wrS (rsU s) = lineS s := by
  rw [rs_same h]
  exact ⟨st_code h, h, st_written h⟩
theorem line_same {s t : ByteArray} (h : lineS s = t) (ht : 32 ∈ (aftS 32 t).data.toList) : stU s = stU t := by
  unfold lineS at h
  by_cases k : 32 ∈ (aftS 32 s).data.toList
  · rw [if_pos k] at h; rw [h]
  · rw [if_neg k] at h
    subst h
    by_cases k1 : 32 ∈ s.data.toList
    · have hb := cut_back k1
      have hf := bef_free 32 s
      have e0 : (s ++ ⟨#[32]⟩ : ByteArray).data.toList = (befS 32 s).data.toList ++ 32 :: ((aftS 32 s).data.toList ++ 32 :: []) := by
        rw [app_list]
        generalize (befS 32 s).data.toList = X at hb ⊢
        generalize (aftS 32 s).data.toList = Y at hb ⊢
        rw [hb]; simp
      obtain ⟨c1, c2, c3⟩ := cuts e0 hf k
      refine St.ext rfl rfl ?_ ?_ ?_
      · show cod _ = cod _
        rw [c2, bef_all k]
      · show (aftS 32 (aftS 32 s)).data.toList = _
        rw [aft_all k]
        exact c3.symm
      · show mnr _ = mnr _
        rw [c1]
    · exfalso
      have e0 : (s ++ ⟨#[32]⟩ : ByteArray).data.toList = s.data.toList ++ 32 :: [] := by rw [app_list]
      rw [aft_cut e0 k1] at ht
      cases ht
theorem rs_no {s : ByteArray} (h : rtB (stU s) = false) (g0 : (rsU s).c ≠ 0) (g : rtB (rsU s) = true) : wrS (rsU s) ≠ lineS s := by
  intro e
  have hb := back_sta g g0
  obtain ⟨h1, h2, h3⟩ := cuts (s := wrS (rsU s)) (by rw [wrS_list, wr_sta g0]) (ver_free (rt_minor g)).1 (dgs_free _)
  have ht : 32 ∈ (aftS 32 (wrS (rsU s))).data.toList := by
    rw [aft_cut (s := wrS (rsU s)) (by rw [wrS_list, wr_sta g0]) (ver_free (rt_minor g)).1]
    simp
  rw [← line_same e.symm ht] at hb
  rw [hb, g] at h
  cases h

end Go.Proofs.YtmpijlaidnhpnaaGreat.Sr
