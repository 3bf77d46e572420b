/- What a text is read as, part by part; by plain reckoning. -/
import Derived.Test.YtjegoceebdiaaaaDoorMu
namespace Go.Proofs.YtjegoceebdiaaaaDoor
set_option linter.unusedVariables false
set_option linter.unusedSimpArgs false

theorem low_http_fin : ((List.range 256).all fun n => decide (lowB (UInt8.ofNat n) ∈ httpL → (UInt8.ofNat n) ≠ 63)) = true := by decide +kernel
theorem low_http (c : UInt8) (h : lowB c ∈ httpL) : c ≠ 63 := by
  have := u8_all (fun c => decide (lowB c ∈ httpL → c ≠ 63)) low_http_fin c
  rw [decide_eq_true_eq] at this
  exact this h

theorem abs_split {l : List UInt8} (h : absL l = true) : lowL (l.take 7) = httpL ∧ (l.take 7).length = 7 := by
  obtain ⟨t, ht⟩ := List.isPrefixOf_iff_prefix.1 h
  have e : lowL (l.take 7) = httpL := by
    unfold lowL at ht ⊢
    rw [List.map_take, ← ht]
    rfl
  refine ⟨e, ?_⟩
  have := congrArg List.length e
  rw [lowL_length] at this
  exact this

theorem http_all {p : List UInt8} (h : lowL p = httpL) : ∀ c ∈ p, neB 63 c = true := by
  intro c hc
  have : lowB c ∈ httpL := by rw [← h]; exact List.mem_map_of_mem hc
  simpa [neB] using low_http c this

theorem tw_all {p : UInt8 → Bool} {a b : List UInt8} (h : ∀ c ∈ a, p c = true) : (a ++ b).takeWhile p = a ++ b.takeWhile p := by
  rw [List.takeWhile_append_of_pos h]
theorem dw_all {p : UInt8 → Bool} {a b : List UInt8} (h : ∀ c ∈ a, p c = true) : (a ++ b).dropWhile p = b.dropWhile p := by
  rw [List.dropWhile_append_of_pos h]

theorem abs7 {l : List UInt8} (h : absL l = true) : 7 ≤ (l.takeWhile (neB 63)).length := by
  obtain ⟨h1, h2⟩ := abs_split h
  rw [← List.take_append_drop 7 l, tw_all (http_all h1), List.length_append, h2]
  omega

end Go.Proofs.YtjegoceebdiaaaaDoor
