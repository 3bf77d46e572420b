/- What is resolved is an address that may be, if it is not too long; by plain reckoning. -/
import Derived.Test.YtjegoceebdiaaaaDoorMx
namespace Go.Proofs.YtjegoceebdiaaaaDoor
set_option linter.unusedVariables false
set_option linter.unusedSimpArgs false

theorem place_abs {u : U} (ha : u.abs = true) (h1 : hostOk u.host.data.toList = true) (h2 : 0 ≤ u.port) (h3 : u.port ≤ 65535) (h4 : pre [47] u.path.data.toList = true) : placeB u = true := by
  unfold placeB; rw [ha, if_pos rfl, h1, decide_eq_true h2, decide_eq_true h3, h4]; rfl
theorem bytes_ok {u : U} (h1 : ∀ c ∈ u.path.data.toList, addrB c = true) (h2 : ∀ c ∈ u.query.data.toList, addrB c = true) (h3 : 63 ∉ u.path.data.toList) (h4 : u.asks = true ∨ u.query.data.toList = []) : bytesB u = true := by
  unfold bytesB
  rw [show allB addrB u.path.data.toList = true from List.all_eq_true.2 h1, show allB addrB u.query.data.toList = true from List.all_eq_true.2 h2, (hasL_false _ _).2 h3]
  rcases h4 with h | h <;> rw [h] <;> simp
theorem rt_of {u : U} (h1 : placeB u = true) (h2 : bytesB u = true) : rtU u = decide ((wrL u).length ≤ 500) := by
  unfold rtU; rw [h1, h2]; rfl

theorem head_of_slash {l : List UInt8} (h : pre [47] l = true) : l.head? = some 47 := by obtain ⟨x, rfl⟩ := pre_slash h; rfl
theorem slash_of_head {l : List UInt8} (h : l.head? = some 47) : pre [47] l = true := by
  cases l with
  | nil => cases h
  | cons x l => obtain rfl : x = 47 := by simpa using h
                exact slash_pre l

theorem clean_path {l : List UInt8} (h : pre [47] l = true) (h1 : ∀ c ∈ l, addrB c = true) (h2 : 63 ∉ l) : pre [47] (cleanL l) = true ∧ (∀ c ∈ cleanL l, addrB c = true) ∧ 63 ∉ cleanL l := by
  refine ⟨slash_of_head (clean_head (head_of_slash h)), ?_, ?_⟩
  · exact clean_all (p := fun c => addrB c = true) (by decide) h1
  · intro e
    exact clean_all (p := fun c => c ≠ 63) (by decide) (fun c hc e => by subst e; exact h2 hc) 63 e rfl

theorem from_path {b p : List UInt8} (hb : pre [47] b = true) (hp : p ≠ []) (h1 : ∀ c ∈ b, addrB c = true) (h2 : 63 ∉ b) (h3 : ∀ c ∈ p, addrB c = true) (h4 : 63 ∉ p) :
    pre [47] (fromL b p) = true ∧ (∀ c ∈ fromL b p, addrB c = true) ∧ 63 ∉ fromL b p := by
  unfold fromL
  split
  · exact ⟨by assumption, h3, h4⟩
  · obtain ⟨x, rfl⟩ := pre_slash hb
    have hl : 1 ≤ lastN (neB 47) (47 :: x) := by
      unfold lastN
      have : ((47 :: x).reverse.takeWhile (neB 47)).length < (47 :: x).length := by
        rw [show (47 :: x).length = (47 :: x).reverse.length from List.length_reverse.symm]
        rcases Nat.lt_or_ge ((47 :: x).reverse.takeWhile (neB 47)).length (47 :: x).reverse.length with h | h
        · exact h
        · exfalso
          have hle := takeWhile_le (neB 47) (47 :: x).reverse
          have he : (47 :: x).reverse.takeWhile (neB 47) = (47 :: x).reverse := by
            rw [← take_tw, List.take_of_length_le (by omega)]
          have hm : (47 : UInt8) ∈ (47 :: x).reverse.takeWhile (neB 47) := by rw [he]; simp
          have := List.all_eq_true.1 List.all_takeWhile 47 hm
          exact absurd this (by decide)
      omega
    obtain ⟨k, hk⟩ : ∃ k, lastN (neB 47) (47 :: x) = k + 1 := ⟨lastN (neB 47) (47 :: x) - 1, by omega⟩
    rw [hk, List.take_succ_cons]
    refine ⟨slash_pre _, ?_, ?_⟩
    · intro c hc
      rcases List.mem_append.1 hc with hc | hc
      · refine h1 c ?_
        rcases List.mem_cons.1 hc with rfl | hc
        · simp
        · exact List.mem_cons_of_mem _ (List.mem_of_mem_take hc)
      · exact h3 c hc
    · intro hc
      rcases List.mem_append.1 hc with hc | hc
      · apply h2
        rcases List.mem_cons.1 hc with e | hc
        · cases e
        · exact List.mem_cons_of_mem _ (List.mem_of_mem_take hc)
      · exact h4 hc

theorem from_head {b u : U} (hb : rtU b = true) (hu : rtU u = true) (ha : b.abs = true) (h0 : u.path.data.toList ≠ []) : pre [47] (fromL b.path.data.toList u.path.data.toList) = true ∧ (∀ c ∈ fromL b.path.data.toList u.path.data.toList, addrB c = true) ∧ 63 ∉ fromL b.path.data.toList u.path.data.toList := by
  obtain ⟨b1, b2, b3, b4⟩ := rt_path hb
  obtain ⟨u1, u2, u3, u4⟩ := rt_path hu
  exact from_path (rt_abs hb ha).2 h0 b3 ((hasL_false _ _).1 b1) u3 ((hasL_false _ _).1 u1)

/-- What is seen from an address that may be is one, but for its length. -/
theorem seen_right {b u : U} (hb : rtU b = true) (hu : rtU u = true) (ha : b.abs = true) : rtU (seen b u) = decide ((wrL (seen b u)).length ≤ 500) ∧ (seen b u).abs = true := by
  obtain ⟨b1, b2, b3, b4⟩ := rt_path hb
  obtain ⟨u1, u2, u3, u4⟩ := rt_path hu
  obtain ⟨k1, k2⟩ := rt_abs hb ha
  obtain ⟨p0, p1⟩ := place_port (rt_place hb)
  cases hua : u.abs
  · by_cases h0 : u.path.data.toList = []
    · cases hq : u.asks
      · rw [seen_base hua h0 hq]
        exact ⟨rt_of (rt_place hb) (rt_bytes hb), ha⟩
      · rw [seen_query hua h0 hq]
        exact ⟨rt_of (place_abs ha k1 p0 p1 k2) (bytes_ok b3 u4 ((hasL_false _ _).1 b1) (Or.inl rfl)), ha⟩
    · rw [seen_path hua h0]
      obtain ⟨f1, f2, f3⟩ := from_head hb hu ha h0
      obtain ⟨g1, g2, g3⟩ := clean_path f1 f2 f3
      have e : (cleanS (fromS b.path u.path)).data.toList = cleanL (fromL b.path.data.toList u.path.data.toList) := by rw [cleanS_list, fromS_list]
      refine ⟨rt_of (place_abs ha k1 p0 p1 (by show pre [47] (cleanS (fromS b.path u.path)).data.toList = true; rw [e]; exact g1)) (bytes_ok ?_ u4 ?_ u2), ha⟩
      · show ∀ c ∈ (cleanS (fromS b.path u.path)).data.toList, addrB c = true
        rw [e]; exact g2
      · show 63 ∉ (cleanS (fromS b.path u.path)).data.toList
        rw [e]; exact g3
  · rw [seen_abs hua]
    obtain ⟨j1, j2⟩ := rt_abs hu hua
    obtain ⟨q0, q1⟩ := place_port (rt_place hu)
    obtain ⟨g1, g2, g3⟩ := clean_path j2 u3 ((hasL_false _ _).1 u1)
    refine ⟨rt_of (place_abs rfl j1 q0 q1 (by show pre [47] (cleanS u.path).data.toList = true; rw [cleanS_list]; exact g1)) (bytes_ok ?_ u4 ?_ u2), rfl⟩
    · show ∀ c ∈ (cleanS u.path).data.toList, addrB c = true
      rw [cleanS_list]; exact g2
    · show 63 ∉ (cleanS u.path).data.toList
      rw [cleanS_list]; exact g3

theorem rs_rt {b u : U} (h : (rtU b && rtU u && b.abs) = true) : rsU b u = (if rtU (seen b u) then seen b u else U0) ∧ rsE b u = (if rtU (seen b u) then 0 else 2) := by
  have h' := h
  simp only [Bool.and_eq_true] at h'
  obtain ⟨⟨hb, hu⟩, ha⟩ := h'
  obtain ⟨e, -⟩ := seen_right hb hu ha
  unfold rsU rsE
  rw [if_pos h, if_pos h, e]
  by_cases g : 500 < (wrL (seen b u)).length
  · rw [if_pos g, if_pos g, decide_eq_false (by omega)]; exact ⟨rfl, rfl⟩
  · rw [if_neg g, if_neg g, decide_eq_true (by omega)]; exact ⟨rfl, rfl⟩

end Go.Proofs.YtjegoceebdiaaaaDoor
