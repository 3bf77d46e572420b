/- The steps of a path that is cleaned; what is resolved again; by plain reckoning. -/
import Derived.Test.YtjegoceebdiaaaaDoorMy
import Derived.Lib.SplitLaws
namespace Go.Proofs.YtjegoceebdiaaaaDoor
set_option linter.unusedVariables false
set_option linter.unusedSimpArgs false

theorem index_seg (s t : List UInt8) (h : ∀ c ∈ s, notS c = true) : Lib.index (s ++ 47 :: t) [47] = (s.length : Int) := by
  induction s with
  | nil => rw [List.nil_append, Lib.index]; simp [List.isPrefixOf]
  | cons x s ih =>
    have hx := notS_ne (h x (by simp))
    have hp : ([47] : List UInt8).isPrefixOf (x :: (s ++ 47 :: t)) = false := by simp [List.isPrefixOf, Ne.symm hx]
    have := ih (fun c hc => h c (by simp [hc]))
    rw [List.cons_append, Lib.index, hp, this]
    have hn : ((s.length : Int) == -1) = false := by rw [beq_eq_false_iff_ne]; omega
    simp [hn]

theorem count_seg (s : List UInt8) (h : ∀ c ∈ s, notS c = true) : s.count 47 = 0 := List.count_eq_zero.2 (fun hm => notS_ne (h 47 hm) rfl)

/-- Parted at the slashes a path is its steps. -/
theorem split_path : ∀ (r : List (List UInt8)) (s : List UInt8), (∀ c ∈ s, notS c = true) → (∀ x ∈ r, ∀ c ∈ x, notS c = true) → Lib.splitK [47] 0 (Lib.count (s ++ pathOf r) [47]) (s ++ pathOf r) = s :: r
  | [], s, hs, _ => by
    rw [show pathOf [] = [] from rfl, List.append_nil, Lib.count_one, count_seg s hs]; rfl
  | x :: r, s, hs, hr => by
    have ih := split_path r x (hr x (by simp)) (fun y hy => hr y (by simp [hy]))
    have hc : Lib.count (s ++ pathOf (x :: r)) [47] = Lib.count (x ++ pathOf r) [47] + 1 := by
      rw [Lib.count_one, Lib.count_one, pathOf_cons, List.count_append, count_seg s hs, List.count_cons]; simp
    have hi : Lib.index (s ++ pathOf (x :: r)) [47] = (s.length : Int) := by rw [pathOf_cons]; exact index_seg _ _ hs
    have hn : ¬ ((s.length : Int) == -1) = true := by rw [beq_iff_eq]; omega
    rw [hc, Lib.splitK, hi, if_neg hn, Int.toNat_natCast]
    have h1 : (s ++ pathOf (x :: r)).take (s.length + 0) = s := by simp
    have h2 : (s ++ pathOf (x :: r)).drop (s.length + ([47] : List UInt8).length) = x ++ pathOf r := by
      rw [pathOf_cons]; simp [List.drop_append]
    rw [h1, h2, ih]

/-- The steps of a text. -/
def steps (s : ByteArray) : List ByteArray := Lib.splitB ⟨#[47]⟩ 0 (Lib.countB s ⟨#[47]⟩) s
theorem steps_len (s : ByteArray) : (steps s).length = Lib.countB s ⟨#[47]⟩ + 1 := Lib.splitB_all _ (by decide) 0 _ s rfl
theorem steps_map (s : ByteArray) : (steps s).map (·.data.toList) = Lib.splitK [47] 0 (Lib.count s.data.toList [47]) s.data.toList := Lib.splitB_data _ 0 _ s

theorem steps_ok {s : ByteArray} (h : pre [47] s.data.toList = true) {k : Nat} {p : ByteArray} (hp : (steps (cleanS s))[k + 1]? = some p) : p.data.toList ≠ [46] ∧ p.data.toList ≠ [46, 46] := by
  obtain ⟨segs, e, hs⟩ := clean_good (head_of_slash h)
  have hm := steps_map (cleanS s)
  rw [cleanS_list, e] at hm
  have hsp := split_path segs [] (by simp) (fun x hx => (hs x hx).1)
  rw [List.nil_append] at hsp
  rw [hsp] at hm
  have h1 : ((steps (cleanS s)).map (·.data.toList))[k + 1]? = some p.data.toList := by rw [List.getElem?_map, hp]; rfl
  rw [hm, List.getElem?_cons_succ] at h1
  have := hs _ (List.mem_of_getElem? h1)
  exact ⟨this.2.1, this.2.2⟩

theorem cleanS_twice {s : ByteArray} (h : pre [47] s.data.toList = true) : cleanS (cleanS s) = cleanS s := by
  apply bytes_ext
  rw [cleanS_list, cleanS_list, clean_twice (head_of_slash h)]

/-- What is seen, its path cleaned. -/
def againU (u : U) : U := ⟨u.abs, u.host, u.port, cleanS u.path, u.asks, u.query⟩
theorem seen_again {o u : U} (ha : u.abs = true) : seen o u = againU u := by rw [seen_abs ha, againU, ha]

theorem seen_clean {b u : U} (hb : rtU b = true) (hu : rtU u = true) (ha : b.abs = true) (h0 : u.path.data.toList ≠ []) : cleanS (seen b u).path = (seen b u).path := by
  cases hua : u.abs
  · rw [seen_path hua h0]
    have := (from_head hb hu ha h0).1
    rw [← fromS_list] at this
    exact cleanS_twice this
  · rw [seen_abs hua]
    exact cleanS_twice (rt_abs hu hua).2

end Go.Proofs.YtjegoceebdiaaaaDoor
