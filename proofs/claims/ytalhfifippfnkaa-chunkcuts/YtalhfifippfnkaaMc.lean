/- Bytes in pieces, by plain reckoning on what Feed tells: no condition beside each theorem's own. -/
import Derived.Test.YtalhfifippfnkaaKg
namespace Go.Proofs.Ytalhfifippfnkaa
set_option linter.unusedVariables false
set_option linter.unusedSimpArgs false
open Go.RowKit

/-- Behind what ends nothing more is read. -/
theorem run_app_left : ∀ (a : List UInt8) (k : K) (b : List UInt8), (run k a).e = 0 → (run k a).r ≠ [] → run k (a ++ b) = ⟨0, (run k a).k, (run k a).d, (run k a).r ++ b⟩ := by
  intro a k b h g
  obtain ⟨x, e1, e2, e3, e4, e5⟩ := run_part a k h
  have h4 := run_left a k h g
  have e : a ++ b = x ++ ((run k a).r ++ b) := by rw [← List.append_assoc, ← e1]
  rw [e, run_app_go x k _ e2 e3, e4, e5, run_done h4]
  unfold Rs.on
  rw [if_pos rfl, List.append_nil]
theorem run_d_le : ∀ (a : List UInt8) (k : K), (run k a).e = 0 → (run k a).d.length + (run k a).r.length ≤ a.length
  | [], k, h => by simp [run]
  | c :: s, k, h => by
    rw [run] at h ⊢
    rw [List.length_cons]
    by_cases h4 : k.st = 4
    · rw [if_pos h4]; simp
    rw [if_neg h4] at h ⊢
    by_cases h1 : k.st = 1
    · rw [if_pos h1] at h ⊢
      rw [on_e] at h
      have := run_d_le s _ h
      rw [on_r, on_d h, List.length_append]
      simp only [List.length_cons, List.length_nil]
      omega
    rw [if_neg h1] at h ⊢
    by_cases hc : c = 10
    · rw [if_pos hc] at h ⊢
      by_cases hd : (dd (kl k ⟨#[]⟩) (bareL k.line.data.toList)).1 = 0
      · rw [if_pos hd] at h ⊢
        have := run_d_le s _ h
        omega
      · rw [if_neg hd] at h; exact absurd h hd
    rw [if_neg hc] at h ⊢
    by_cases hl : 200 ≤ k.line.size
    · rw [if_pos hl] at h; exact absurd h (by decide)
    · rw [if_neg hl] at h ⊢
      have := run_d_le s _ h
      omega

/-- So many bytes were read in pieces. -/
structure Cut (k : K) (l : List UInt8) (a : Nat) (now : K) (got : List UInt8) : Prop where
  le : a ≤ l.length
  sh : now.line.size ≤ 1000
  st : (rtB k = true ∧ run k (l.take a) = ⟨0, now, got, []⟩) ∨ (rtB k = false ∧ now = k)

theorem Cut.start (k : K) (l : List UInt8) (h : k.line.size ≤ 1000) : Cut k l 0 k [] := by
  refine ⟨Nat.zero_le _, h, ?_⟩
  cases hr : rtB k
  · exact Or.inr ⟨rfl, rfl⟩
  · exact Or.inl ⟨rfl, rfl⟩

/-- One more piece. -/
theorem Cut.round {k : K} {l : List UInt8} {a : Nat} {now : K} {got : List UInt8} (h : Cut k l a now got) (b : Nat) (hab : a ≤ b) (hb : b ≤ l.length) :
    ∃ (E : Nat) (q : K) (D : List UInt8) (n : Nat), fdV now ((l.take b).drop a) = .tuple #[.agg #[.int .i64 q.st, .string q.line, .int .i64 q.left, .int .i64 q.size], .string (bs D), .int .i64 (n : Int), .int .i64 (E : Int)] ∧
      ((E ≠ 0 ∧ q = k0 ∧ D = [] ∧ fd k l = bad E) ∨ (E = 0 ∧ rtB k = true ∧ D.length ≤ l.length ∧ (got ++ D).length ≤ l.length ∧ a + n ≤ b ∧ (a + n < b → ∃ r, fd k l = ⟨0, q, got ++ D, r⟩ ∧ a + n + r.length = l.length) ∧ (a + n = b → Cut k l b q (got ++ D)))) := by
  rcases h.st with ⟨hr, hq⟩ | ⟨hr, rfl⟩
  · have hx : l.take b = l.take a ++ (l.take b).drop a := by
      have e : (l.take b).take a = l.take a := by rw [List.take_take, Nat.min_eq_left hab]
      rw [← e, List.take_append_drop]
    have hg : Good now := by
      have := good_run (l.take a) k ((rt_good k).1 hr) (by rw [hq])
      rw [hq] at this; exact this
    have hfn : fd now ((l.take b).drop a) = run now ((l.take b).drop a) := by unfold fd; rw [if_pos ((rt_good now).2 hg)]
    have hfk : ∀ m, fd k m = run k m := fun m => by unfold fd; rw [if_pos hr]
    have hxl : ((l.take b).drop a).length = b - a := by rw [List.length_drop, List.length_take]; omega
    have hrb : run k (l.take b) = (run now ((l.take b).drop a)).on got := by
      have := run_app_go (l.take a) k ((l.take b).drop a) (by rw [hq]) (by rw [hq])
      rw [hq, ← hx] at this; exact this
    by_cases hE : (run now ((l.take b).drop a)).e = 0
    · have hdl := run_d_le _ now hE
      have hkl : (run k (l.take b)).d.length + (run k (l.take b)).r.length ≤ (l.take b).length := run_d_le _ k (by rw [hrb, on_e]; exact hE)
      rw [hrb, on_d hE, on_r, List.length_take] at hkl
      have hgq := good_run _ now hg hE
      refine ⟨0, (run now ((l.take b).drop a)).k, (run now ((l.take b).drop a)).d, b - a - (run now ((l.take b).drop a)).r.length, ?_, Or.inr ⟨rfl, hr, by omega, by omega, by omega, fun hlt => ?_, fun heq => ?_⟩⟩
      · rw [fdV_good (q := (run now ((l.take b).drop a)).k) (d := (run now ((l.take b).drop a)).d) (r := (run now ((l.take b).drop a)).r) (by rw [hfn]; generalize run now ((l.take b).drop a) = Q at hE ⊢; cases Q; simp at hE; subst hE; rfl), hxl]
        have e : (((b - a : Nat) : Int)) - ((run now ((l.take b).drop a)).r.length : Int) = ((b - a - (run now ((l.take b).drop a)).r.length : Nat) : Int) := by omega
        rw [e]; rfl
      · have hne : (run k (l.take b)).r ≠ [] := by
          rw [hrb, on_r]
          intro e
          rw [e, List.length_nil] at hlt
          omega
        have hl2 := run_app_left (l.take b) k (l.drop b) (by rw [hrb, on_e]; exact hE) hne
        rw [List.take_append_drop, hrb, on_k, on_r, on_d hE] at hl2
        refine ⟨_, by rw [hfk]; exact hl2, ?_⟩
        rw [List.length_append, List.length_drop]
        omega
      · refine ⟨hb, Nat.le_trans hgq.ln (by omega), Or.inl ⟨hr, ?_⟩⟩
        have hz : (run now ((l.take b).drop a)).r = [] := List.eq_nil_of_length_eq_zero (by omega)
        rw [hrb]
        unfold Rs.on
        rw [if_pos hE, hz]
    · have hbad := run_bad _ now hE
      refine ⟨(run now ((l.take b).drop a)).e, k0, [], 0, ?_, Or.inl ⟨hE, rfl, rfl, ?_⟩⟩
      · rw [fdV_bad hE (by rw [hfn]; exact hbad)]; rfl
      · have h2 := run_app_bad (l.take b) k (l.drop b) (by rw [hrb, on_e]; exact hE)
        rw [List.take_append_drop, hrb, hbad, on_bad hE] at h2
        rw [hfk, h2]
  · refine ⟨1, k0, [], 0, ?_, Or.inl ⟨by decide, rfl, rfl, ?_⟩⟩
    · rw [fdV_bad (E := 1) (by decide) (by unfold fd; rw [if_neg (by rw [hr]; decide)])]; rfl
    · unfold fd; rw [if_neg (by rw [hr]; decide)]
theorem Cut.whole {k : K} {l : List UInt8} {now : K} {got : List UInt8} (h : Cut k l l.length now got) (hr : rtB k = true) : fd k l = ⟨0, now, got, []⟩ := by
  rcases h.st with ⟨-, hq⟩ | ⟨hn, -⟩
  · unfold fd; rw [if_pos hr, ← hq, List.take_of_length_le (Nat.le_refl _)]
  · rw [hr] at hn; exact absurd hn (by decide)

end Go.Proofs.Ytalhfifippfnkaa
