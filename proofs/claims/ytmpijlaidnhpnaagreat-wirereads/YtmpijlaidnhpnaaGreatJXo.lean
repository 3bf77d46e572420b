/- What Feed makes of a reader and bytes, by plain reckoning; which readers may be. -/
import Derived.Test.YtmpijlaidnhpnaaGreatJXm
import Derived.Test.YtmpijlaidnhpnaaGreatJKw
namespace Go.Proofs.YtmpijlaidnhpnaaGreat
set_option linter.unusedVariables false
set_option linter.unusedSimpArgs false
open Hd (enU enA enV lns)

/-- Nothing was read. -/
def noneB (r : Rr) : Bool := decide (r.m.s.m.data.toList = []) && decide (r.m.s.t.data.toList = []) && decide (r.m.s.c = 0) && decide (r.m.s.r.data.toList = []) && decide (r.m.s.n = 0) && decide (r.m.L = []) && decide (r.m.b = []) && decide (r.k = 0) && decide (r.z = 0) && zeroB r.c
  where zeroB (c : Ck.K) : Bool := decide (c.st = 0) && decide (c.line.data.toList = []) && decide (c.left = 0) && decide (c.size = 0)
theorem zero_iff (c : Ck.K) : noneB.zeroB c = true ↔ c = Ck.k0 := by
  obtain ⟨st, line, left, size⟩ := c
  unfold noneB.zeroB Ck.k0
  simp only [Bool.and_eq_true, decide_eq_true_eq]
  constructor
  · rintro ⟨⟨⟨rfl, h⟩, rfl⟩, rfl⟩
    rw [bytes_ext (a := line) (b := ⟨#[]⟩) (by simpa using h)]
  · intro h
    injection h with h1 h2 h3 h4
    subst h1 h2 h3 h4
    exact ⟨⟨⟨rfl, rfl⟩, rfl⟩, rfl⟩
theorem none_iff (r : Rr) : noneB r = true ↔ r.m = Ms.no ∧ r.k = 0 ∧ r.z = 0 ∧ r.c = Ck.k0 := by
  obtain ⟨a, t, buf, i, ⟨⟨sm, st, sc, sr, sn⟩, L, b⟩, k, z, c, e⟩ := r
  unfold noneB
  simp only [Bool.and_eq_true, decide_eq_true_eq, zero_iff]
  constructor
  · rintro ⟨⟨⟨⟨⟨⟨⟨⟨⟨h1, h2⟩, rfl⟩, h3⟩, rfl⟩, rfl⟩, rfl⟩, rfl⟩, rfl⟩, rfl⟩
    refine ⟨?_, rfl, rfl, rfl⟩
    unfold Ms.no St.no noS
    rw [bytes_ext (a := sm) (b := ⟨#[]⟩) (by simpa using h1), bytes_ext (a := st) (b := ⟨#[]⟩) (by simpa using h2), bytes_ext (a := sr) (b := ⟨#[]⟩) (by simpa using h3)]
  · rintro ⟨h, rfl, rfl, rfl⟩
    injection h with h1 h2 h3
    injection h1 with g1 g2 g3 g4 g5
    subst h2 h3 g1 g2 g3 g4 g5
    exact ⟨⟨⟨⟨⟨⟨⟨⟨⟨rfl, rfl⟩, rfl⟩, rfl⟩, rfl⟩, rfl⟩, rfl⟩, rfl⟩, rfl⟩, rfl⟩
/-- How much of the body is there, of a reader that may be. -/
def sofB (r : Rr) : Bool :=
  if r.k = 1 then decide ((r.m.b.length : Int) < r.z) && noneB.zeroB r.c
  else if r.k = 2 then Ck.rtB r.c && !decide (r.c.st = 4) && decide ((r.m.b.length : Int) = r.c.size)
  else if r.k = 3 then decide (r.m.b.length ≤ 20000) && noneB.zeroB r.c
  else false
/-- How long the body is, of a reader that may be. -/
def lenB (r : Rr) : Bool := decide ((lgF r.a r.t r.m.s r.m.L).2.2 = 0) && (decide (r.k = (lgF r.a r.t r.m.s r.m.L).1) && decide (r.z = (lgF r.a r.t r.m.s r.m.L).2.1))
def rgB (r : Rr) : Bool :=
  if r.e ≠ 0 then decide (r.buf = []) && !r.i && noneB r
  else if r.i = true then decide (r.buf = []) && lenB r && sofB r
  else decide (r.buf.length ≤ 4000) && noneB r

theorem rg_stop {a : Bool} {t : ByteArray} {e : Int} (h : e ≠ 0) : rgB (stopR a t e) = true := by
  unfold rgB
  rw [if_pos (show (stopR a t e).e ≠ 0 from h), (none_iff (stopR a t e)).2 ⟨rfl, rfl, rfl, rfl⟩]; rfl
theorem rg_wait {r : Rr} (h : Wait r) : rgB r = true := by
  unfold rgB
  rw [if_neg (by rw [h.mid.e0]; decide)]
  cases hi : r.i
  · rw [if_neg (by decide), (none_iff r).2 (h.mid.out hi), decide_eq_true (h.out hi)]; rfl
  · obtain ⟨h1, h2⟩ := h.mid.inn hi
    obtain ⟨g1, g2, g3⟩ := h.inn hi
    rw [if_pos rfl, decide_eq_true g1]
    have hl : lenB r = true := by unfold lenB; rw [h1]; simp
    rw [hl]
    unfold sofB
    by_cases k1 : r.k = 1
    · rw [if_pos k1, decide_eq_true (g3 k1), (zero_iff r.c).2 (h2.one k1).2]; rfl
    by_cases k2 : r.k = 2
    · obtain ⟨q1, q2, q3⟩ := h2.two k2
      rw [if_neg k1, if_pos k2, (Ck.rt_good r.c).2 q1, decide_eq_true q3, decide_eq_false q2]; rfl
    have k3 : r.k = 3 := by rcases g2 with h | h | h <;> first | exact absurd h k1 | exact absurd h k2 | exact h
    rw [if_neg k1, if_neg k2, if_pos k3, decide_eq_true (h2.tri k3).1, (zero_iff r.c).2 (h2.tri k3).2]; rfl
theorem wait_rg {r : Rr} (h : rgB r = true) (he : r.e = 0) : Wait r := by
  unfold rgB at h
  rw [if_neg (by simpa using he)] at h
  cases hi : r.i
  · rw [if_neg (by rw [hi]; decide)] at h
    rw [Bool.and_eq_true] at h
    exact ⟨⟨he, fun _ => (none_iff r).1 h.2, fun e => absurd (hi.symm.trans e) (by decide)⟩, fun _ => of_decide_eq_true h.1, fun e => absurd (hi.symm.trans e) (by decide)⟩
  · rw [if_pos hi, Bool.and_eq_true, Bool.and_eq_true] at h
    obtain ⟨⟨h1, h2⟩, h3⟩ := h
    have hl : lgF r.a r.t r.m.s r.m.L = (r.k, r.z, 0) := by
      unfold lenB at h2
      simp only [Bool.and_eq_true, decide_eq_true_eq] at h2
      rw [h2.2.1, h2.2.2, ← h2.1]
    unfold sofB at h3
    by_cases k1 : r.k = 1
    · rw [if_pos k1, Bool.and_eq_true] at h3
      have hz := of_decide_eq_true h3.1
      exact ⟨⟨he, fun e => absurd (hi.symm.trans e) (by decide), fun _ => ⟨hl, ⟨fun _ => ⟨Int.le_of_lt hz, (zero_iff _).1 h3.2⟩, fun e => absurd (k1.symm.trans e) (by decide), fun e => absurd (k1.symm.trans e) (by decide)⟩⟩⟩, fun e => absurd (hi.symm.trans e) (by decide), fun _ => ⟨of_decide_eq_true h1, Or.inl k1, fun _ => hz⟩⟩
    by_cases k2 : r.k = 2
    · rw [if_neg k1, if_pos k2] at h3
      simp only [Bool.and_eq_true, decide_eq_true_eq, Bool.not_eq_true', decide_eq_false_iff_not] at h3
      exact ⟨⟨he, fun e => absurd (hi.symm.trans e) (by decide), fun _ => ⟨hl, ⟨fun e => absurd e k1, fun _ => ⟨(Ck.rt_good _).1 h3.1.1, h3.1.2, h3.2⟩, fun e => absurd (k2.symm.trans e) (by decide)⟩⟩⟩, fun e => absurd (hi.symm.trans e) (by decide), fun _ => ⟨of_decide_eq_true h1, Or.inr (Or.inl k2), fun e => absurd e k1⟩⟩
    by_cases k3 : r.k = 3
    · rw [if_neg k1, if_neg k2, if_pos k3, Bool.and_eq_true] at h3
      exact ⟨⟨he, fun e => absurd (hi.symm.trans e) (by decide), fun _ => ⟨hl, ⟨fun e => absurd e k1, fun e => absurd e k2, fun _ => ⟨of_decide_eq_true h3.1, (zero_iff _).1 h3.2⟩⟩⟩⟩, fun e => absurd (hi.symm.trans e) (by decide), fun _ => ⟨of_decide_eq_true h1, Or.inr (Or.inr k3), fun e => absurd e k1⟩⟩
    · rw [if_neg k1, if_neg k2, if_neg k3] at h3; exact absurd h3 (by decide)
theorem stop_rg {r : Rr} (h : rgB r = true) (he : r.e ≠ 0) : r = stopR r.a r.t r.e := by
  obtain ⟨a, t, buf, i, m, k, z, c, e⟩ := r
  unfold rgB at h
  rw [if_pos he, Bool.and_eq_true, Bool.and_eq_true] at h
  obtain ⟨⟨h1, h2⟩, h3⟩ := h
  obtain ⟨g1, g2, g3, g4⟩ := (none_iff _).1 h3
  simp only at h1 h2 g1 g2 g3 g4
  have h1' := of_decide_eq_true h1
  subst g1 g2 g3 g4 h1'
  cases i
  · rfl
  · exact absurd h2 (by decide)

/-- WHAT FEED MAKES OF A READER AND BYTES. -/
def fdG (r : Rr) (s : List UInt8) : Rr × List Ms := if r.e ≠ 0 then (r, []) else go (r.app s)
theorem part_at (r : Rr) : (part r).2.1.a = r.a ∧ (part r).2.1.t = r.t := by
  unfold part partH partB
  dsimp only
  repeat' split
  all_goals exact ⟨rfl, rfl⟩
theorem goF_end : ∀ (n : Nat) (r : Rr), Mid r → mu r < n → ((goF n r).1.e = 0 → Wait (goF n r).1) ∧ ((goF n r).1.e ≠ 0 → (goF n r).1 = stopR r.a r.t (goF n r).1.e) ∧ (goF n r).1.a = r.a ∧ (goF n r).1.t = r.t
  | 0, r, _, h => absurd h (by omega)
  | n + 1, r, hm, h => by
    have hat : (part r).2.1.a = r.a ∧ (part r).2.1.t = r.t := part_at r
    rw [goF]
    by_cases hp : (part r).1 = true
    · rw [if_pos hp]
      have := part_mu hm hp
      have ih := goF_end n _ (mid_part hm hp) (by omega)
      rw [hat.1, hat.2] at ih
      exact ih
    · have hp' : (part r).1 = false := by simpa using hp
      rw [if_neg hp]
      refine ⟨fun e => wait_part hm hp' e, fun e => ?_, hat.1, hat.2⟩
      obtain ⟨E, h1, h2, -⟩ := stop_part hm e
      show (part r).2.1 = stopR r.a r.t (part r).2.1.e
      rw [h2]; rfl
theorem go_last {r : Rr} (hm : Mid r) : ((go r).1.e = 0 → Wait (go r).1) ∧ ((go r).1.e ≠ 0 → (go r).1 = stopR r.a r.t (go r).1.e) ∧ (go r).1.a = r.a ∧ (go r).1.t = r.t := goF_end _ _ hm (by omega)
theorem fd_right {r : Rr} (h : rgB r = true) (s : List UInt8) : rgB (fdG r s).1 = true := by
  unfold fdG
  by_cases he : r.e = 0
  · rw [if_neg (by simpa using he)]
    have hm := (wait_rg h he).mid.app s
    obtain ⟨g1, g2, -⟩ := go_last hm
    by_cases ge : (go (r.app s)).1.e = 0
    · exact rg_wait (g1 ge)
    · rw [g2 ge]; exact rg_stop ge
  · rw [if_pos he]; exact h
end Go.Proofs.YtmpijlaidnhpnaaGreat
