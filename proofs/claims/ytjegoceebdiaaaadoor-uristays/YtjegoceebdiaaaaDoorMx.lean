/- What is written is read again; what is resolved may be; by plain reckoning. -/
import Derived.Test.YtjegoceebdiaaaaDoorUg
namespace Go.Proofs.YtjegoceebdiaaaaDoor
set_option linter.unusedVariables false
set_option linter.unusedSimpArgs false

theorem host_low_fin : ((List.range 256).all fun n => decide (hostB (lowB (UInt8.ofNat n)) = true → UInt8.ofNat n ≠ 47 ∧ UInt8.ofNat n ≠ 58 ∧ UInt8.ofNat n ≠ 63)) = true := by decide +kernel
theorem host_low {c : UInt8} (h : hostB (lowB c) = true) : c ≠ 47 ∧ c ≠ 58 ∧ c ≠ 63 := by
  have := u8_all (fun c => decide (hostB (lowB c) = true → c ≠ 47 ∧ c ≠ 58 ∧ c ≠ 63)) host_low_fin c
  rw [decide_eq_true_eq] at this
  exact this h
theorem host_plain_fin : ((List.range 256).all fun n => decide (hostB (UInt8.ofNat n) = true → UInt8.ofNat n ≠ 58)) = true := by decide +kernel
theorem host_plain {c : UInt8} (h : hostB c = true) : c ≠ 58 := by
  have := u8_all (fun c => decide (hostB c = true → c ≠ 58)) host_plain_fin c
  rw [decide_eq_true_eq] at this
  exact this h
theorem digit_fin : ((List.range 256).all fun n => decide (vl (UInt8.ofNat n) < 10 → lowB (UInt8.ofNat n) = UInt8.ofNat n ∧ UInt8.ofNat n ≠ 47 ∧ UInt8.ofNat n ≠ 58 ∧ UInt8.ofNat n ≠ 63)) = true := by decide +kernel
theorem digit_plain {c : UInt8} (h : vl c < 10) : lowB c = c ∧ c ≠ 47 ∧ c ≠ 58 ∧ c ≠ 63 := by
  have := u8_all (fun c => decide (vl c < 10 → lowB c = c ∧ c ≠ 47 ∧ c ≠ 58 ∧ c ≠ 63)) digit_fin c
  rw [decide_eq_true_eq] at this
  exact this h

theorem dgs_all (n : Nat) : ∀ c ∈ dgs 10 (by omega) n, lowB c = c ∧ c ≠ 47 ∧ c ≠ 58 ∧ c ≠ 63 := by
  intro c hc
  have h := dgs_okay (b := 10) (by omega) (by omega) n
  unfold okay at h
  have := List.all_eq_true.1 h c hc
  exact digit_plain (by simpa using this)

theorem prt_all (p : Int) : ∀ c ∈ prtL p, lowB c = c ∧ c ≠ 47 ∧ c ≠ 63 := by
  intro c hc
  unfold prtL at hc
  split at hc
  · simp at hc
  · rcases List.mem_cons.1 hc with rfl | hc
    · decide
    · obtain ⟨h1, h2, h3, h4⟩ := dgs_all _ c hc
      exact ⟨h1, h2, h4⟩

theorem lowL_same {l : List UInt8} (h : ∀ c ∈ l, lowB c = c) : lowL l = l := by
  unfold lowL
  induction l with
  | nil => rfl
  | cons x l ih => rw [List.map_cons, h x (by simp), ih (fun c hc => h c (by simp [hc]))]

theorem lastN_none58 {l : List UInt8} (h : ∀ c ∈ l, c ≠ 58) : laI 58 l = -1 := by
  unfold laI
  rw [lastN_none (p := neB 58) (fun c hc => by simpa [neB] using h c hc)]; rfl

theorem cutP_back {H : List UInt8} {p : Int} (hH : ∀ c ∈ H, c ≠ 58) (h0 : 0 ≤ p) (h1 : p ≤ 65535) : cutP (H ++ prtL p) = (H, p) := by
  by_cases hz : p = 0
  · subst hz
    rw [show prtL 0 = [] from rfl, List.append_nil]
    unfold cutP
    rw [if_pos (Or.inl (by rw [lastN_none58 hH]; omega))]
  · obtain ⟨n, rfl⟩ : ∃ n : Nat, p = n := ⟨p.toNat, by omega⟩
    have hp : prtL (n : Int) = 58 :: dgs 10 (by omega) n := by unfold prtL; rw [if_neg hz, Int.toNat_natCast]
    rw [hp]
    have hla : laI 58 (H ++ 58 :: dgs 10 (by omega) n) = H.length := by
      unfold laI
      rw [lastN_at (p := neB 58) (k := H.length) (by simp)]
      · omega
      · intro c hc
        rw [List.drop_append, List.drop_of_length_le (by omega)] at hc
        have hc' : c ∈ dgs 10 (by omega) n := by simpa using hc
        simpa [neB] using (dgs_all n c hc').2.2.1
      · simp [neB]
    have hd : (H ++ 58 :: dgs 10 (by omega) n).drop (H.length + 1) = dgs 10 (by omega) n := by
      rw [List.drop_append, List.drop_of_length_le (by omega)]; simp
    have e : ((H.length : Int) + 1).toNat = H.length + 1 := by omega
    have hb := backN 10 (by omega) (by omega) 0 n
    rw [List.replicate_zero, List.nil_append, if_neg (by omega), if_neg (by omega)] at hb
    have hl := dgs_length_lt (b := 10) (by omega) 4 n (by omega)
    unfold cutP
    rw [hla, e, hd, hb.2, if_neg (by omega), Int.toNat_natCast]
    simp

theorem lowL_append (a b : List UInt8) : lowL (a ++ b) = lowL a ++ lowL b := by unfold lowL; rw [List.map_append]
theorem drop7 (p q : List UInt8) (h : p.length = 7) : (p ++ q).drop 7 = q := by rw [← h]; simp
theorem tw_stop {p : UInt8 → Bool} {a b : List UInt8} (h : ∀ c ∈ a, p c = true) (g : b = [] ∨ ∃ x t, b = x :: t ∧ p x = false) : (a ++ b).takeWhile p = a ∧ (a ++ b).dropWhile p = b := by
  rw [tw_all h, dw_all h]
  rcases g with rfl | ⟨x, t, rfl, hx⟩
  · simp
  · simp [List.takeWhile_cons, List.dropWhile_cons, hx]

/-- What an address that is written with a host is read as, in whatever letters. -/
theorem cand_written {P h H t : List UInt8} {p : Int} (hP : lowL P = httpL) (hh : lowL h = H) (hok : hostOk H = true) (h0 : 0 ≤ p) (h1 : p ≤ 65535) (ht : t = [] ∨ ∃ x, t = 47 :: x) :
    cand (P ++ (h ++ prtL p ++ t)) = ⟨true, bytes H, p, bytes (47 :: (t.takeWhile (neB 63)).drop 1), hasL 63 t, bytes ((t.dropWhile (neB 63)).drop 1)⟩ := by
  have hlen : P.length = 7 := by have := congrArg List.length hP; rw [lowL_length] at this; exact this
  have hHall : ∀ c ∈ H, hostB c = true := by
    unfold hostOk allB at hok
    simp only [Bool.and_eq_true] at hok
    exact List.all_eq_true.1 hok.2
  have hh3 : ∀ c ∈ h, c ≠ 47 ∧ c ≠ 58 ∧ c ≠ 63 := fun c hc => host_low (hHall _ (by rw [← hh]; exact List.mem_map_of_mem hc))
  have hp3 := prt_all p
  have hab : absL (P ++ (h ++ prtL p ++ t)) = true := by
    unfold absL
    rw [lowL_append, hP]
    exact List.isPrefixOf_iff_prefix.2 ⟨_, rfl⟩
  have a63 : ∀ c ∈ h ++ prtL p, neB 63 c = true := by
    intro c hc
    rcases List.mem_append.1 hc with hc | hc
    · simpa [neB] using (hh3 c hc).2.2
    · simpa [neB] using (hp3 c hc).2.2
  have a47 : ∀ c ∈ h ++ prtL p, neB 47 c = true := by
    intro c hc
    rcases List.mem_append.1 hc with hc | hc
    · simpa [neB] using (hh3 c hc).1
    · simpa [neB] using (hp3 c hc).2.1
  have hT : (P ++ (h ++ prtL p ++ t)).takeWhile (neB 63) = P ++ (h ++ prtL p ++ t.takeWhile (neB 63)) := by
    rw [tw_all (http_all hP), tw_all a63]
  have hD : (P ++ (h ++ prtL p ++ t)).dropWhile (neB 63) = t.dropWhile (neB 63) := by
    rw [dw_all (http_all hP), dw_all a63]
  have hg : t.takeWhile (neB 63) = [] ∨ ∃ x r, t.takeWhile (neB 63) = x :: r ∧ neB 47 x = false := by
    rcases ht with rfl | ⟨x, rfl⟩
    · exact Or.inl rfl
    · right
      exact ⟨47, x.takeWhile (neB 63), by rw [List.takeWhile_cons, show neB 63 47 = true from rfl, if_pos rfl], rfl⟩
  obtain ⟨s1, s2⟩ := tw_stop a47 hg
  have hlow : lowL (h ++ prtL p) = H ++ prtL p := by rw [lowL_append, hh, lowL_same (fun c hc => (hp3 c hc).1)]
  have hhas : hasL 63 (P ++ (h ++ prtL p ++ t)) = hasL 63 t := by
    rw [Bool.eq_iff_iff, hasL_iff, hasL_iff]
    constructor
    · intro hm
      rcases List.mem_append.1 hm with hm | hm
      · have := http_all hP 63 hm; simp [neB] at this
      · rcases List.mem_append.1 hm with hm | hm
        · have := a63 63 hm; simp [neB] at this
        · exact hm
    · intro hm
      exact List.mem_append.2 (Or.inr (List.mem_append.2 (Or.inr hm)))
  unfold cand
  rw [if_pos hab, hT, drop7 _ _ hlen, s1, s2, hlow, cutP_back (fun c hc => host_plain (hHall c hc)) h0 h1, hhas, hD]

theorem rt_abs {u : U} (h : rtU u = true) (ha : u.abs = true) : hostOk u.host.data.toList = true ∧ pre [47] u.path.data.toList = true := by
  have := rt_place h
  unfold placeB at this
  rw [ha, if_pos rfl] at this
  simp only [Bool.and_eq_true] at this
  exact ⟨this.1.1.1, this.2⟩
theorem rt_path {u : U} (h : rtU u = true) : hasL 63 u.path.data.toList = false ∧ (u.asks = true ∨ u.query.data.toList = []) ∧ (∀ c ∈ u.path.data.toList, addrB c = true) ∧ ∀ c ∈ u.query.data.toList, addrB c = true := by
  have := rt_bytes h
  unfold bytesB allB at this
  simp only [Bool.and_eq_true, Bool.or_eq_true, Bool.not_eq_true', List.isEmpty_iff] at this
  exact ⟨this.1.2, this.2, List.all_eq_true.1 this.1.1.1, List.all_eq_true.1 this.1.1.2⟩
theorem pre_slash {l : List UInt8} (h : pre [47] l = true) : ∃ x, l = 47 :: x := by
  obtain ⟨t, rfl⟩ := List.isPrefixOf_iff_prefix.1 h
  exact ⟨t, rfl⟩
theorem slash_pre (x : List UInt8) : pre [47] (47 :: x) = true := by simp [pre, List.isPrefixOf]

/-- Path and query of what is written. -/
theorem tail_written {u : U} (h : rtU u = true) : (u.path.data.toList ++ qryL u.asks u.query.data.toList).takeWhile (neB 63) = u.path.data.toList ∧ hasL 63 (u.path.data.toList ++ qryL u.asks u.query.data.toList) = u.asks ∧ ((u.path.data.toList ++ qryL u.asks u.query.data.toList).dropWhile (neB 63)).drop 1 = u.query.data.toList := by
  obtain ⟨h1, h2, -, -⟩ := rt_path h
  rw [hasL_false] at h1
  have hall : ∀ c ∈ u.path.data.toList, neB 63 c = true := by
    intro c hc
    simp only [neB, bne_iff_ne, ne_eq]
    intro e; subst e; exact h1 hc
  have hg : qryL u.asks u.query.data.toList = [] ∨ ∃ x r, qryL u.asks u.query.data.toList = x :: r ∧ neB 63 x = false := by
    unfold qryL
    cases u.asks
    · exact Or.inl rfl
    · exact Or.inr ⟨63, _, rfl, rfl⟩
  obtain ⟨s1, s2⟩ := tw_stop hall hg
  refine ⟨s1, ?_, ?_⟩
  · rw [Bool.eq_iff_iff, hasL_iff, List.mem_append]
    unfold qryL
    cases u.asks
    · simp [h1]
    · simp
  · rw [s2]
    unfold qryL
    cases ha : u.asks
    · rw [ha] at h2
      rcases h2 with h2 | h2
      · cases h2
      · rw [h2]; rfl
    · rfl

theorem u_ext {a b : U} (h1 : a.abs = b.abs) (h2 : a.host = b.host) (h3 : a.port = b.port) (h4 : a.path = b.path) (h5 : a.asks = b.asks) (h6 : a.query = b.query) : a = b := by
  cases a; cases b; simp_all

theorem cand_back_abs {u : U} (h : rtU u = true) (ha : u.abs = true) {P g : List UInt8} (hP : lowL P = httpL) (hg : lowL g = u.host.data.toList) : cand (P ++ (g ++ prtL u.port ++ (u.path.data.toList ++ qryL u.asks u.query.data.toList))) = u := by
  obtain ⟨k1, k2⟩ := rt_abs h ha
  obtain ⟨x, hx⟩ := pre_slash k2
  obtain ⟨p0, p1⟩ := place_port (rt_place h)
  obtain ⟨t1, t2, t3⟩ := tail_written h
  rw [cand_written hP hg k1 p0 p1 (Or.inr ⟨x ++ qryL u.asks u.query.data.toList, by rw [hx]; rfl⟩), t1, t2, t3]
  refine u_ext ha.symm (bytes_back _) rfl ?_ rfl (bytes_back _)
  apply bytes_ext
  rw [bytes_list, hx]; rfl

theorem not_abs {u : U} (h : rtU u = true) (ha : u.abs = false) : absL (u.path.data.toList ++ qryL u.asks u.query.data.toList) = false := by
  cases e : absL (u.path.data.toList ++ qryL u.asks u.query.data.toList) with
  | false => rfl
  | true =>
    exfalso
    have hp := rt_place h
    unfold placeB at hp
    rw [ha] at hp
    simp only [Bool.false_eq_true, if_false, Bool.and_eq_true] at hp
    have hs := hp.2
    unfold startB at hs
    simp only [Bool.and_eq_true, Bool.not_eq_true'] at hs
    have h58 := (hasL_false _ _).1 hs.2
    obtain ⟨f1, f2⟩ := abs_split e
    generalize hl : u.path.data.toList ++ qryL u.asks u.query.data.toList = l at f1 f2
    match l, f1, f2 with
    | a :: b :: c :: d :: f :: r, f1, f2 =>
      simp only [List.take_succ_cons, lowL, List.map_cons, httpL, List.cons.injEq] at f1
      have q : ∀ (x y : UInt8), lowB x = y → (y = 104 ∨ y = 116 ∨ y = 112 → x ≠ 47 ∧ x ≠ 63) ∧ (y = 58 → x = 58) := by
        intro x y hxy
        have := u8_all (fun x => decide ((lowB x = 104 ∨ lowB x = 116 ∨ lowB x = 112 → x ≠ 47 ∧ x ≠ 63) ∧ (lowB x = 58 → x = 58))) (by decide +kernel) x
        rw [decide_eq_true_eq] at this
        rw [← hxy]; exact this
      have ea := (q a _ f1.1).1 (Or.inl rfl)
      have eb := (q b _ f1.2.1).1 (Or.inr (Or.inl rfl))
      have ec := (q c _ f1.2.2.1).1 (Or.inr (Or.inl rfl))
      have ed := (q d _ f1.2.2.2.1).1 (Or.inr (Or.inr rfl))
      have ef := (q f _ f1.2.2.2.2.1).2 rfl
      subst ef
      have h63 : ∀ x ∈ [a, b, c, d, 58], x ≠ 63 ∧ (x ≠ 47) := by
        intro x hx
        simp only [List.mem_cons, List.mem_nil_iff, or_false] at hx
        rcases hx with rfl | rfl | rfl | rfl | rfl
        · exact ⟨ea.2, ea.1⟩
        · exact ⟨eb.2, eb.1⟩
        · exact ⟨ec.2, ec.1⟩
        · exact ⟨ed.2, ed.1⟩
        · exact ⟨by decide, by decide⟩
      obtain ⟨t1, -, -⟩ := tail_written h
      rw [hl] at t1
      have t2 : u.path.data.toList = [a, b, c, d, 58] ++ r.takeWhile (neB 63) := by
        rw [← t1]
        exact tw_all (a := [a, b, c, d, 58]) (b := r) (fun x hx => by simpa [neB] using (h63 x hx).1)
      apply h58
      rw [t2, tw_all (fun x hx => by simpa [neB] using (h63 x hx).2)]
      simp

theorem cand_back_ref {u : U} (h : rtU u = true) (ha : u.abs = false) : cand (u.path.data.toList ++ qryL u.asks u.query.data.toList) = u := by
  obtain ⟨t1, t2, t3⟩ := tail_written h
  have hp := rt_place h
  unfold placeB at hp
  rw [ha] at hp
  simp only [Bool.false_eq_true, if_false, Bool.and_eq_true, List.isEmpty_iff, decide_eq_true_eq] at hp
  unfold cand
  rw [if_neg (by rw [not_abs h ha]; simp), t1, t2, t3]
  refine u_ext ha.symm ?_ hp.1.2.symm (bytes_back _) rfl (bytes_back _)
  apply bytes_ext
  rw [hp.1.1]

theorem cand_wr {u : U} (h : rtU u = true) : cand (wrL u) = u := by
  cases ha : u.abs
  · have e : wrL u = u.path.data.toList ++ qryL u.asks u.query.data.toList := by unfold wrL; rw [ha]; rfl
    rw [e]; exact cand_back_ref h ha
  · have e : wrL u = httpL ++ (u.host.data.toList ++ prtL u.port ++ (u.path.data.toList ++ qryL u.asks u.query.data.toList)) := by
      unfold wrL; rw [ha, if_pos rfl]; simp only [List.append_assoc]
    rw [e]
    have hk := (rt_abs h ha).1
    have hl : lowL u.host.data.toList = u.host.data.toList := lowL_same (fun c hc => by
      have hall : hostB c = true := by
        unfold hostOk allB at hk
        simp only [Bool.and_eq_true] at hk
        exact List.all_eq_true.1 hk.2 c hc
      have := u8_all (fun c => decide (hostB c = true → lowB c = c)) (by decide +kernel) c
      rw [decide_eq_true_eq] at this
      exact this hall)
    exact cand_back_abs h ha (by decide +kernel) hl

theorem ps_wr {u : U} (h : rtU u = true) : psU (wrL u) = u ∧ psE (wrL u) = 0 := by
  have hl := rt_len h
  have hn : ¬ 500 < (wrL u).length := by omega
  unfold psU psE
  rw [if_neg hn, if_neg hn, cand_wr h, h]
  exact ⟨rfl, rfl⟩
theorem ps_cases (l : List UInt8) : (psE l = 0 ∧ rtU (psU l) = true) ∨ (¬ psE l = 0 ∧ psU l = U0) := by
  unfold psE psU
  by_cases h : 500 < l.length
  · right; rw [if_pos h, if_pos h]; exact ⟨by omega, rfl⟩
  · rw [if_neg h, if_neg h]
    cases hr : rtU (cand l)
    · right; exact ⟨by simp, rfl⟩
    · left; exact ⟨rfl, hr⟩

end Go.Proofs.YtjegoceebdiaaaaDoor
