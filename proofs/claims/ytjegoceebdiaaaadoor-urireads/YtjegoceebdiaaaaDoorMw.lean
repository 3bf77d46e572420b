/- What the document's own Parse finds is what the program's finds; by plain reckoning. -/
import Derived.Test.YtjegoceebdiaaaaDoorRe
namespace Go.Proofs.YtjegoceebdiaaaaDoor
set_option linter.unusedVariables false
set_option linter.unusedSimpArgs false

theorem lastN_map (p : UInt8 → Bool) (f : UInt8 → UInt8) (l : List UInt8) : lastN p (l.map f) = lastN (fun c => p (f c)) l := by
  unfold lastN
  rw [← List.map_reverse, List.takeWhile_map, List.length_map, List.length_map]
  rfl

theorem low_58_fin : ((List.range 256).all fun n => neB 58 (lowB (UInt8.ofNat n)) == neB 58 (UInt8.ofNat n)) = true := by decide +kernel
theorem low_58 (c : UInt8) : neB 58 (lowB c) = neB 58 c := by
  have := u8_all (fun c => neB 58 (lowB c) == neB 58 c) low_58_fin c
  simpa using this
theorem laI_low (l : List UInt8) : laI 58 (lowL l) = laI 58 l := by
  unfold laI lowL
  rw [lastN_map]
  have : (fun c => neB 58 (lowB c)) = neB 58 := by funext c; exact low_58 c
  rw [this]

theorem low_vl_fin : ((List.range 256).all fun n => vl (lowB (UInt8.ofNat n)) == vl (UInt8.ofNat n)) = true := by decide +kernel
theorem low_vl (c : UInt8) : vl (lowB c) = vl c := by
  have := u8_all (fun c => vl (lowB c) == vl c) low_vl_fin c
  simpa using this
theorem rd_low (b : Nat) (l : List UInt8) : rdE b (lowL l) = rdE b l ∧ rdN b (lowL l) = rdN b l := by
  have h1 : okay b (lowL l) = okay b l := by unfold okay lowL; rw [List.all_map]; congr 1; funext c; simp [low_vl]
  have h2 : val b (lowL l) = val b l := by unfold val lowL; rw [List.foldl_map]; congr 1; funext n c; rw [low_vl]
  have h3 : (lowL l = []) = (l = []) := by unfold lowL; rw [List.map_eq_nil_iff]
  unfold rdE rdN
  simp only [h1, h2, h3]
  exact ⟨trivial, trivial⟩
theorem rdE_ne {b : Nat} {l : List UInt8} (h : rdE b l ≠ 0) : rdN b l = 0 := by
  unfold rdE at h
  unfold rdN
  split at h
  · rw [if_pos (by assumption)]
  · rw [if_neg (by assumption)]
    split at h
    · rw [if_pos (by assumption)]
    · exact absurd rfl h

theorem lowL_take (l : List UInt8) (k : Nat) : lowL (l.take k) = (lowL l).take k := by unfold lowL; rw [List.map_take]
theorem lowL_drop (l : List UInt8) (k : Nat) : lowL (l.drop k) = (lowL l).drop k := by unfold lowL; rw [List.map_drop]

theorem lastN_last {p : UInt8 → Bool} {l : List UInt8} {k : Nat} (h : lastN p l = k + 1) : ∃ (hk : k < l.length), p l[k] = false := by
  have hle := lastN_le p l
  refine ⟨by omega, ?_⟩
  unfold lastN at h
  have hlt : (l.reverse.takeWhile p).length < l.reverse.length := by rw [List.length_reverse]; omega
  have hd : l.reverse.drop (l.reverse.takeWhile p).length = l.reverse.dropWhile p := drop_takeWhile p l.reverse
  have hh : (l.reverse.dropWhile p).head? = some (l.reverse[(l.reverse.takeWhile p).length]) := by
    rw [← hd, List.head?_drop, List.getElem?_eq_getElem hlt]
  have := dropWhile_head p _ _ hh
  rw [List.getElem_reverse] at this
  have e : l.length - 1 - (l.reverse.takeWhile p).length = k := by omega
  simp only [e] at this
  exact this

theorem has58 {l : List UInt8} {k : Nat} (h : laI 58 l = k) : 58 ∈ l := by
  unfold laI at h
  obtain ⟨hk, g⟩ := lastN_last (p := neB 58) (l := l) (k := k) (by omega)
  have : l[k] = 58 := by simpa [neB] using g
  rw [← this]; exact List.getElem_mem hk

theorem host_no58 {l : List UInt8} (h : 58 ∈ l) : hostOk l = false := by
  unfold hostOk
  have : allB hostB l = false := by
    unfold allB
    rw [List.all_eq_false]
    exact ⟨58, h, by decide⟩
  rw [this]; simp

theorem rt_host {u : U} (ha : u.abs = true) (h : hostOk u.host.data.toList = false) : rtU u = false := by
  refine rt_noplace ?_
  unfold placeB; rw [ha, h]; rfl

/-- Host and port, as both find them. -/
theorem host_both (s : ByteArray) (p q : ByteArray) (a : Bool) :
    rtU ⟨true, (plU s).host, (plU s).port, p, a, q⟩ = rtU ⟨true, cpS (lowS s), cpP (lowS s), p, a, q⟩ ∧
    (rtU ⟨true, cpS (lowS s), cpP (lowS s), p, a, q⟩ = true → (⟨true, (plU s).host, (plU s).port, p, a, q⟩ : U) = ⟨true, cpS (lowS s), cpP (lowS s), p, a, q⟩) := by
  have hlow : laI 58 (lowS s).data.toList = laI 58 s.data.toList := by rw [lowS_list, laI_low]
  have hge := laI_ge 58 s.data.toList
  by_cases hneg : laI 58 s.data.toList = -1
  · have h1 := pl_none hneg
    obtain ⟨h2, h3⟩ := cut_keep (s := lowS s) (Or.inl (by rw [hlow]; omega))
    rw [h1, h2, h3]
    exact ⟨rfl, fun _ => rfl⟩
  · obtain ⟨k, hk⟩ : ∃ k : Nat, laI 58 s.data.toList = k := ⟨(laI 58 s.data.toList).toNat, by omega⟩
    have hk' : laI 58 (lowS s).data.toList = k := by rw [hlow, hk]
    have hD : (lowS s).data.toList.drop (k + 1) = lowL (s.data.toList.drop (k + 1)) := by rw [lowS_list, lowL_drop]
    have hDl : (lowL (s.data.toList.drop (k + 1))).length = s.size - (k + 1) := by rw [lowL_length, List.length_drop, size_list]
    have h58 := has58 hk
    have h58' := has58 hk'
    have hkl : k < s.size := by
      have := lastN_le (neB 58) s.data.toList
      rw [size_list] at this
      unfold laI at hk
      omega
    by_cases hbad : rdN 10 (s.data.toList.drop (k + 1)) = 0 ∨ 6 < s.size - k
    · have h1 := pl_bad hk (Or.inr hbad)
      have hc : 5 < ((lowS s).data.toList.drop (k + 1)).length ∨ rdN 10 ((lowS s).data.toList.drop (k + 1)) = 0 := by
        rw [hD, hDl, (rd_low 10 _).2]
        rcases hbad with h | h
        · exact Or.inr h
        · left; omega
      have e : ((k : Int) + 1).toNat = k + 1 := by omega
      obtain ⟨h2, h3⟩ := cut_keep (s := lowS s) (Or.inr (by rw [hk', e]; exact hc))
      rw [h1, h2, h3]
      have f1 : rtU ⟨true, lowS (s.extract 0 k), -1, p, a, q⟩ = false := rt_noplace (place_neg (Or.inl (show (-1 : Int) < 0 by omega)))
      have f2 : rtU ⟨true, lowS s, 0, p, a, q⟩ = false := rt_host rfl (host_no58 h58')
      refine ⟨?_, fun h => ?_⟩
      · show rtU ⟨true, lowS (s.extract 0 k), -1, p, a, q⟩ = _
        rw [f1, f2]
      · rw [f2] at h; exact absurd h (by simp)
    · rw [not_or] at hbad
      have hE : rdE 10 (s.data.toList.drop (k + 1)) = 0 := by
        by_cases e : rdE 10 (s.data.toList.drop (k + 1)) = 0
        · exact e
        · exact absurd (rdE_ne e) hbad.1
      have h1 := pl_good hk hE hbad.1 hbad.2
      obtain ⟨h2, h3⟩ := cut_part hk' (by rw [hD, hDl]; omega) (by rw [hD, (rd_low 10 _).2]; exact hbad.1)
      rw [hD, (rd_low 10 _).2] at h3
      have h4 : lowS (s.extract 0 k) = (lowS s).extract 0 k := by
        apply bytes_ext
        rw [lowS_list, ext_take, ext_take, lowS_list, lowL_take]
      rw [h1, h2, h3, h4]
      exact ⟨rfl, fun _ => rfl⟩

theorem tw_both (l : List UInt8) : (l.takeWhile (neB 63)).takeWhile (neB 47) = l.takeWhile stopB := by
  induction l with
  | nil => rfl
  | cons x l ih =>
    rw [List.takeWhile_cons, List.takeWhile_cons]
    cases h1 : neB 63 x <;> cases h2 : neB 47 x <;> simp [stopB, h1, h2, ih]

theorem stop_head {r : List UInt8} : r.dropWhile stopB = [] ∨ (∃ t, r.dropWhile stopB = 47 :: t) ∨ ∃ t, r.dropWhile stopB = 63 :: t := by
  cases h : r.dropWhile stopB with
  | nil => exact Or.inl rfl
  | cons x t =>
    have := dropWhile_head stopB r x (by rw [h]; rfl)
    right
    by_cases e : x = 47
    · subst e; exact Or.inl ⟨t, rfl⟩
    · right
      have : x = 63 := by
        simp [stopB, neB] at this
        exact this e
      subst this; exact ⟨t, rfl⟩

/-- Path and query, as both find them: r is what stands behind the scheme. -/
theorem tail_both (r : List UInt8) (t : List UInt8) (ht : t = if pre [47] (r.dropWhile stopB) then r.dropWhile stopB else 47 :: r.dropWhile stopB) :
    t.takeWhile (neB 63) = 47 :: ((r.takeWhile (neB 63)).dropWhile (neB 47)).drop 1 ∧ hasL 63 t = hasL 63 r ∧ (t.dropWhile (neB 63)).drop 1 = (r.dropWhile (neB 63)).drop 1 := by
  have hall : ∀ c ∈ r.takeWhile stopB, stopB c = true := fun c hc => List.all_eq_true.1 List.all_takeWhile c hc
  have h47 : ∀ c ∈ r.takeWhile stopB, neB 47 c = true := fun c hc => by have := hall c hc; simp [stopB] at this; exact this.1
  have h63 : ∀ c ∈ r.takeWhile stopB, neB 63 c = true := fun c hc => by have := hall c hc; simp [stopB] at this; exact this.2
  have hn63 : 63 ∉ r.takeWhile stopB := fun h => by have := h63 63 h; simp [neB] at this
  have hr : r = r.takeWhile stopB ++ r.dropWhile stopB := (List.takeWhile_append_dropWhile).symm
  have hmem : 63 ∈ r ↔ 63 ∈ r.dropWhile stopB := by
    constructor
    · intro h
      rw [hr] at h
      rcases List.mem_append.1 h with h | h
      · exact absurd h hn63
      · exact h
    · intro h
      rw [hr]; exact List.mem_append.2 (Or.inr h)
  have hA : r.takeWhile (neB 63) = r.takeWhile stopB ++ (r.dropWhile stopB).takeWhile (neB 63) := by
    conv => lhs; rw [hr]
    rw [tw_all h63]
  have hQ : r.dropWhile (neB 63) = (r.dropWhile stopB).dropWhile (neB 63) := by
    conv => lhs; rw [hr]
    rw [dw_all h63]
  rw [hA, dw_all h47, hQ]
  have hhas : hasL 63 r = hasL 63 (r.dropWhile stopB) := by rw [Bool.eq_iff_iff, hasL_iff, hasL_iff, hmem]
  rw [hhas, ht]
  have n1 : neB 63 47 = true := rfl
  have n2 : neB 47 47 = false := rfl
  have n3 : neB 63 63 = false := rfl
  rcases stop_head (r := r) with e | ⟨x, e⟩ | ⟨x, e⟩ <;> rw [e]
  · simp [pre, List.isPrefixOf, List.takeWhile_cons, List.dropWhile_cons, n1, n2, n3, hasL, atN]
  · simp [pre, List.isPrefixOf, List.takeWhile_cons, List.dropWhile_cons, n1, n2, n3]
  · simp [pre, List.isPrefixOf, List.takeWhile_cons, List.dropWhile_cons, n1, n2, n3, hasL, atN]

theorem drop_seven (p q : List UInt8) (h : p.length = 7) : (p ++ q).drop 7 = q := by rw [← h]; simp

theorem cand_both (s : ByteArray) : rtU (candR s) = rtU (cand s.data.toList) ∧ (rtU (cand s.data.toList) = true → candR s = cand s.data.toList) := by
  cases hab : absL s.data.toList
  · rw [cand_ref hab]
    unfold candR
    rw [if_neg (by simp [hab])]
    exact ⟨rfl, fun _ => rfl⟩
  · rw [cand_abs hab]
    unfold candR
    rw [if_pos hab]
    obtain ⟨h1, h2⟩ := abs_split hab
    have hl : s.data.toList = s.data.toList.take 7 ++ s.data.toList.drop 7 := (List.take_append_drop 7 _).symm
    have hX : (s.extract 7 s.size).data.toList = s.data.toList.drop 7 := ext_drop _ _
    have hA : ((befS 63 s).extract 7 (befS 63 s).size).data.toList = (s.data.toList.drop 7).takeWhile (neB 63) := by
      rw [ext_drop, befS_list]
      conv => lhs; rw [hl]
      rw [tw_all (http_all h1)]
      exact drop_seven _ _ h2
    have hH : befS 47 ((befS 63 s).extract 7 (befS 63 s).size) = (s.extract 7 s.size).extract 0 (hpN (s.extract 7 s.size)) := by
      apply bytes_ext
      rw [befS_list, hA, tw_both, ext_take, hX]
      unfold hpN
      rw [hX, take_tw]
    have hT := tail_both (s.data.toList.drop 7) (slashed ((s.extract 7 s.size).extract (hpN (s.extract 7 s.size)) (s.extract 7 s.size).size)).data.toList (by
      have e : ((s.extract 7 s.size).extract (hpN (s.extract 7 s.size)) (s.extract 7 s.size).size).data.toList = (s.data.toList.drop 7).dropWhile stopB := by
        rw [ext_drop, hX]
        unfold hpN
        rw [hX, drop_takeWhile]
      unfold slashed
      rw [e]
      split
      · exact e
      · rw [app_list, e]; rfl)
    generalize hTT : slashed ((s.extract 7 s.size).extract (hpN (s.extract 7 s.size)) (s.extract 7 s.size).size) = T at hT
    obtain ⟨t1, t2, t3⟩ := hT
    have p1 : befS 63 T = (⟨#[47]⟩ : ByteArray) ++ aftS 47 ((befS 63 s).extract 7 (befS 63 s).size) := by
      apply bytes_ext
      rw [befS_list, t1, app_list, aftS_list, hA]; rfl
    have p2 : hasB 63 T = hasB 63 s := by
      show hasL 63 T.data.toList = hasL 63 s.data.toList
      rw [t2]
      rw [Bool.eq_iff_iff, hasL_iff, hasL_iff]
      constructor
      · intro h; exact List.mem_of_mem_drop h
      · intro h
        rw [hl] at h
        rcases List.mem_append.1 h with h | h
        · have := http_all h1 63 h; simp [neB] at this
        · exact h
    have p3 : aftS 63 T = aftS 63 s := by
      apply bytes_ext
      rw [aftS_list, aftS_list, t3]
      conv => rhs; rw [hl]
      rw [dw_all (http_all h1)]
    rw [hH]
    unfold tailU
    rw [p1, p2, p3]
    have hpa : ∀ x, (plU x).abs = true := fun x => by unfold plU; split <;> rfl
    rw [hpa]
    exact host_both _ _ _ _

theorem pick_is {a b : Bool} {x y z : U} (h : a = b) (g : b = true → x = y) : (if a then x else z) = (if b then y else z) := by
  subst h
  cases a with
  | false => rfl
  | true => rw [g rfl]
theorem pr_is (s : ByteArray) : prU s = psU s.data.toList ∧ prErr s = psE s.data.toList := by
  obtain ⟨h1, h2⟩ := cand_both s
  have h3 := pick_is (z := U0) h1 h2
  unfold prU prErr psU psE
  rw [size_list, h3, h1]
  exact ⟨rfl, rfl⟩

end Go.Proofs.YtjegoceebdiaaaaDoor
