/- A head that ends at a place, as lists of bytes: what stands ahead of its empty line. What the document reads bytes as, at once, step by step: by plain reckoning. -/
import Derived.Test.YtmpijlaidnhpnaaGreatJXo
import Derived.Test.YtmpijlaidnhpnaaGreatJHr
namespace Go.Proofs.YtmpijlaidnhpnaaGreat
set_option linter.unusedVariables false
set_option linter.unusedSimpArgs false
open Hd (enU enA enV lns bareL endsB)

/-- An empty line. -/
def blankP (b : List UInt8) : Prop := b = [10] ∨ b = [13, 10]
theorem bare_empty {x : List UInt8} (h : bareL x = []) : x = [] ∨ x = [13] := by
  unfold bareL at h
  split at h
  · rename_i g
    cases x with
    | nil => exact Or.inl rfl
    | cons a r =>
      cases r with
      | nil => right; simpa using g
      | cons b r => simp at h
  · exact Or.inl h
theorem ends_cons (x : List UInt8) {p : List UInt8} (h : endsB p = true) : endsB (x ++ 10 :: p) = true := by
  unfold endsB at h ⊢
  cases p with
  | nil => simp
  | cons a r => simp at h ⊢; exact h
theorem ena_form (l : List UInt8) : ∀ (a n : Nat), enA (lns a l) = some n → ∃ p b, l.take (n - a) = p ++ b ∧ blankP b ∧ endsB p = true ∧ a < n := by
  induction l using Hd.lines_ind with
  | h0 l h => intro a n e; rw [Hd.lns_none h] at e; simp [enA] at e
  | h1 x r h ih =>
    intro a n e
    rw [Hd.lns_line h, enA] at e
    split at e
    · rename_i he
      have hb : bareL x = [] := by simpa using he
      have hn : a + x.length + 1 = n := by simpa using e
      refine ⟨[], x ++ [10], ?_, ?_, rfl, by omega⟩
      · rw [show n - a = x.length + 1 by omega, List.nil_append, List.take_append, List.take_of_length_le (by omega), show x.length + 1 - x.length = 1 by omega]; rfl
      · rcases bare_empty hb with rfl | rfl
        · exact Or.inl rfl
        · exact Or.inr rfl
    · obtain ⟨p, b, h1, h2, h3, h4⟩ := ih _ _ e
      refine ⟨x ++ 10 :: p, b, ?_, h2, ends_cons x h3, by omega⟩
      rw [show n - a = x.length + (n - (a + x.length + 1) + 1) by omega, List.take_append, List.take_of_length_le (by omega), show x.length + (n - (a + x.length + 1) + 1) - x.length = n - (a + x.length + 1) + 1 by omega, List.take_succ_cons, h1]
      simp
theorem en_form {l : List UInt8} {n : Nat} (h : enU l = ((n : Int), 0)) : ∃ p b, l.take n = p ++ b ∧ blankP b ∧ endsB p = true := by
  unfold enU at h
  cases he : enA (lns 0 (l.take 4000)) with
  | none =>
    rw [he, enV] at h
    split at h
    · exact absurd (Prod.mk.inj h).2 (by decide)
    · exact absurd (Prod.mk.inj h).2 (by decide)
  | some m =>
    rw [he, enV] at h
    have hm : m = n := by have := (Prod.mk.inj h).1; omega
    subst hm
    obtain ⟨p, b, h1, h2, h3, -⟩ := ena_form _ _ _ he
    obtain ⟨x, hx, e⟩ := ena_mem _ _ he
    have hl := Hd.lns_pos _ 0 x hx
    rw [List.length_take] at hl
    rw [Nat.sub_zero, List.take_take, Nat.min_eq_left (by omega)] at h1
    exact ⟨p, b, h1, h2, h3⟩
theorem ends_bare {p : List UInt8} (h : endsB p = true) : bareL p = p := by
  unfold bareL
  rw [if_neg]
  intro e
  unfold endsB at h
  rw [e] at h
  cases p with
  | nil => simp at e
  | cons a r => simp at h
theorem chop_form {p b : List UInt8} (h : endsB p = true) (hb : blankP b) : chopL (p ++ b) = p := by
  unfold chopL
  rcases hb with rfl | rfl
  · rw [if_pos (by simp), List.dropLast_concat]
    exact ends_bare h
  · rw [if_pos (by simp), show p ++ [13, 10] = (p ++ [13]) ++ [10] by simp, List.dropLast_concat]
    exact Hd.bareL_snoc p
theorem tw_form {p b : List UInt8} (h : Hd.atN 10 p < p.length) : (p ++ b).takeWhile (Hd.neB 10) = p.takeWhile (Hd.neB 10) ∧ Hd.atN 10 (p ++ b) = Hd.atN 10 p := by
  have e : (p ++ b).takeWhile (Hd.neB 10) = p.takeWhile (Hd.neB 10) := by
    have h1 := Hd.take_atN 10 p
    conv => lhs; rw [Hd.parted h, List.append_assoc, List.cons_append]
    rw [Hd.tw_all (Hd.take_no p), List.takeWhile_cons, if_neg (by simp [Hd.neB]), List.append_nil, h1]
  exact ⟨e, by unfold Hd.atN; rw [e]⟩
theorem first_form {p b : List UInt8} (h : Hd.atN 10 p < p.length) : firL (p ++ b) = firL p := by unfold firL; rw [(tw_form h).1]
theorem res_form {p b : List UInt8} (h : endsB p = true) (hb : blankP b) (hp : p ≠ []) : resL (p ++ b) = p.drop (Hd.atN 10 p + 1) := by
  have ha := Hd.ends_at h hp
  unfold resL
  rw [(tw_form ha).2, List.drop_append_of_le_length (by omega)]
  exact chop_form (Hd.ends_drop _ h) hb
theorem no_first (a : Bool) : rtB (fiU a []) = false := by cases a <;> decide +kernel
theorem blank_first {b : List UInt8} (h : blankP b) : firL b = [] := by
  rcases h with rfl | rfl <;> decide
/-- What a head is read as whose lines are p. -/
def hpF (a : Bool) (t : ByteArray) (p : List UInt8) : Hh :=
  if p = [] then ⟨30, St.no, [], 0, 0⟩
  else if rtB (fiU a (firL p)) = false then ⟨30, St.no, [], 0, 0⟩
  else if (Hd.psU (p.drop (Hd.atN 10 p + 1))).2 ≠ 0 then ⟨(Hd.psU (p.drop (Hd.atN 10 p + 1))).2, St.no, [], 0, 0⟩
  else ⟨(lgF a t (fiU a (firL p)) (Hd.psU (p.drop (Hd.atN 10 p + 1))).1).2.2, fiU a (firL p), (Hd.psU (p.drop (Hd.atN 10 p + 1))).1, (lgF a t (fiU a (firL p)) (Hd.psU (p.drop (Hd.atN 10 p + 1))).1).1, (lgF a t (fiU a (firL p)) (Hd.psU (p.drop (Hd.atN 10 p + 1))).1).2.1⟩
theorem hp_is (a : Bool) (t : ByteArray) {p b : List UInt8} (h : endsB p = true) (hb : blankP b) : hhF a t (p ++ b) = hpF a t p := by
  unfold hhF hpF
  by_cases hp : p = []
  · subst hp
    rw [if_pos rfl, List.nil_append, blank_first hb, if_pos (no_first a)]
  · rw [if_neg hp, first_form (Hd.ends_at h hp), res_form h hb hp]

end Go.Proofs.YtmpijlaidnhpnaaGreat

namespace Go.Proofs.YtmpijlaidnhpnaaGreat
set_option linter.unusedVariables false
set_option linter.unusedSimpArgs false
open Hd (enU enA enV lns)

/-- What was read so far: whole messages, what is left, whether a body is begun, the message that it is of, its kind, an error. -/
structure Td where
  out : List Ms
  left : List UInt8
  i : Bool
  last : Ms
  k : Int
  e : Int
def td0 (s : List UInt8) : Td := ⟨[], s, false, Ms.no, 0, 0⟩
/-- A message with its body, of what is left. -/
def bodyT (t : Td) (m : Ms) (k z : Int) : Td :=
  if k = 1 then
    if z ≤ t.left.length then ⟨t.out ++ [⟨m.s, m.L, t.left.take z.toNat⟩], t.left.drop z.toNat, t.i, t.last, 1, t.e⟩
    else ⟨t.out, [], true, ⟨m.s, m.L, t.left⟩, 1, t.e⟩
  else if k = 2 then
    if (Ck.run Ck.k0 t.left).e ≠ 0 then ⟨t.out, t.left, true, t.last, 2, (Ck.run Ck.k0 t.left).e⟩
    else if (Ck.run Ck.k0 t.left).k.st = 4 then ⟨t.out ++ [⟨m.s, m.L, (Ck.run Ck.k0 t.left).d⟩], (Ck.run Ck.k0 t.left).r, false, t.last, 2, 0⟩
    else ⟨t.out, [], true, ⟨m.s, m.L, (Ck.run Ck.k0 t.left).d⟩, 2, 0⟩
  else if k = 3 then
    if 20000 < t.left.length then ⟨t.out, t.left, true, t.last, 3, 2⟩
    else ⟨t.out, [], true, ⟨m.s, m.L, t.left⟩, 3, t.e⟩
  else ⟨t.out ++ [m], t.left, t.i, t.last, k, t.e⟩
/-- It is done. -/
structure Done (t : Td) (q : Rr × List Ms) : Prop where
  out : q.2 = t.out
  bad : q.1.e = t.e
  ok : t.e = 0 → q.1.buf = t.left ∧ q.1.i = t.i ∧ q.1.m = t.last ∧ (t.i = true → q.1.k = t.k)
/-- It goes on. -/
structure Open (a : Bool) (m : ByteArray) (t : Td) (q : Rr × List Ms) : Prop where
  e : t.e = 0
  i : t.i = false
  last : t.last = Ms.no
  go : q = ((go (fresh a m t.left)).1, t.out ++ (go (fresh a m t.left)).2)
def Goes (a : Bool) (m : ByteArray) (t : Td) (q : Rr × List Ms) : Prop := Open a m t q ∨ ((t.e ≠ 0 ∨ t.i = true) ∧ Done t q)
theorem open_start (a : Bool) (m : ByteArray) (s : List UInt8) : Open a m (td0 s) (go (fresh a m s)) := ⟨rfl, rfl, rfl, by simp [td0]⟩
theorem open_wait {a : Bool} {m : ByteArray} {t : Td} {q : Rr × List Ms} (h : Open a m t q) (he : (enU (lead a t.left)).2 = 3) : Done { t with left := lead a t.left } q := by
  have e : part (fresh a m t.left) = (false, fresh a m (lead a t.left), []) := by
    rw [part_out rfl, partH_eq, if_pos he]
  have hg := h.go
  rw [go_end (by rw [e]), e, List.append_nil] at hg
  subst hg
  exact ⟨rfl, h.e.symm, fun _ => ⟨rfl, h.i.symm, h.last.symm, fun hi => absurd (h.i.symm.trans hi) (by decide)⟩⟩
theorem open_stop {a : Bool} {m : ByteArray} {t : Td} {q : Rr × List Ms} (h : Open a m t q) (he : (enU (lead a t.left)).2 ≠ 3) (h0 : (enU (lead a t.left)).2 ≠ 0) : Done { t with left := lead a t.left, e := (enU (lead a t.left)).2 } q := by
  have e : part (fresh a m t.left) = (false, stopR a m (enU (lead a t.left)).2, []) := by
    rw [part_out rfl, partH_eq, if_neg he, if_pos h0]
  have hg := h.go
  rw [go_end (by rw [e]), e, List.append_nil] at hg
  subst hg
  exact ⟨rfl, rfl, fun e => absurd e h0⟩
/-- A head ends. -/
theorem open_head {a : Bool} {m : ByteArray} {t : Td} {q : Rr × List Ms} (h : Open a m t q) {n : Nat} (he : enU (lead a t.left) = ((n : Int), 0)) (hb : (hhF a m ((lead a t.left).take n)).e ≠ 0) :
    Goes a m { t with left := (lead a t.left).drop n, e := (hhF a m ((lead a t.left).take n)).e } q := by
  have e : part (fresh a m t.left) = (false, stopR a m (hhF a m ((lead a t.left).take n)).e, []) := by
    rw [part_out rfl, partH_at rfl he]
    unfold partO
    rw [if_pos hb]
  have hg := h.go
  rw [go_end (by rw [e]), e, List.append_nil] at hg
  subst hg
  exact Or.inr ⟨Or.inl hb, rfl, rfl, fun e => absurd e hb⟩
theorem open_over {a : Bool} {m : ByteArray} {t : Td} {q : Rr × List Ms} (h : Open a m t q) {n : Nat} (he : enU (lead a t.left) = ((n : Int), 0)) (hb : (hhF a m ((lead a t.left).take n)).e = 0) (hc : ¬ (a = true ∨ 200 ≤ (hhF a m ((lead a t.left).take n)).s.c)) :
    Goes a m { t with left := (lead a t.left).drop n } q := by
  have e : part (fresh a m t.left) = (true, fresh a m ((lead a t.left).drop n), []) := by
    rw [part_out rfl, partH_at rfl he]
    unfold partO
    rw [if_neg (by simpa using hb), if_neg hc]
  have hg := h.go
  rw [go_on (mid_fresh _ _ _) (by rw [e]), e] at hg
  exact Or.inl ⟨h.e, h.i, h.last, hg⟩
/-- A reader within a body of which nothing was read. -/
def inR (a : Bool) (m : ByteArray) (x : List UInt8) (s : St) (L : List Fd) (k z : Int) : Rr := ⟨a, m, x, true, ⟨s, L, []⟩, k, z, Ck.k0, 0⟩
theorem mid_inR {a : Bool} {m : ByteArray} {x : List UInt8} {s : St} {L : List Fd} {k z : Int} (h : lgF a m s L = (k, z, 0)) : Mid (inR a m x s L k z) :=
  ⟨rfl, fun h => nope h, fun _ => ⟨h, ⟨fun _ => ⟨lg_size h, rfl⟩, fun _ => ⟨Ck.good0, show (0 : Int) ≠ 4 by decide, rfl⟩, fun _ => ⟨by simp [inR], rfl⟩⟩⟩⟩
theorem body_goes {a : Bool} {m : ByteArray} {t : Td} {q : Rr × List Ms} {x : List UInt8} {s : St} {L : List Fd} {k z : Int} (h0 : t.e = 0) (h1 : t.i = false) (h2 : t.last = Ms.no) (hx : t.left = x) (hl : lgF a m s L = (k, z, 0))
    (hq : q = ((go (inR a m x s L k z)).1, t.out ++ (go (inR a m x s L k z)).2)) : Goes a m (bodyT t ⟨s, L, []⟩ k z) q := by
  have hm := mid_inR (x := x) hl
  have hz := lg_size hl
  have hp : part (inR a m x s L k z) = partB (inR a m x s L k z) := part_in rfl
  subst hx
  have hc : cnt (inR a m t.left s L k z) = min z.toNat t.left.length := by unfold cnt inR; simp
  unfold bodyT
  unfold partB at hp
  by_cases k1 : k = 1
  · rw [if_pos k1]
    rw [if_pos (show (inR a m t.left s L k z).k = 1 from k1), hc] at hp
    by_cases hle : z ≤ t.left.length
    · rw [if_pos hle]
      have hmin : min z.toNat t.left.length = z.toNat := by omega
      rw [hmin, if_pos (show (((inR a m t.left s L k z).m.b.length : Int) + (z.toNat : Int)) = (inR a m t.left s L k z).z by show ((0 : Nat) : Int) + _ = z; omega)] at hp
      rw [go_on hm (by rw [hp]), hp] at hq
      left
      exact ⟨h0, h1, h2, by rw [hq, List.append_assoc]; rfl⟩
    · rw [if_neg hle]
      have hmin : min z.toNat t.left.length = t.left.length := by omega
      rw [hmin, if_neg (show ¬ (((inR a m t.left s L k z).m.b.length : Int) + (t.left.length : Int)) = (inR a m t.left s L k z).z by show ¬ ((0 : Nat) : Int) + _ = z; omega)] at hp
      rw [go_end (by rw [hp]), hp, List.append_nil] at hq
      subst hq
      right
      refine ⟨Or.inr rfl, rfl, h0.symm, fun _ => ⟨?_, rfl, ?_, fun _ => k1⟩⟩
      · show t.left.drop t.left.length = []; simp
      · show Ms.more _ (t.left.take t.left.length) = _
        rw [List.take_length]; rfl
  rw [if_neg k1]
  rw [if_neg (show ¬ (inR a m t.left s L k z).k = 1 from k1)] at hp
  by_cases k2 : k = 2
  · rw [if_pos k2]
    rw [if_pos (show (inR a m t.left s L k z).k = 2 from k2)] at hp
    have hr : Ck.run (inR a m t.left s L k z).c (inR a m t.left s L k z).buf = Ck.run Ck.k0 t.left := rfl
    rw [hr] at hp
    by_cases he : (Ck.run Ck.k0 t.left).e = 0
    · rw [if_neg (by simpa using he)] at hp
      rw [if_neg (by simpa using he)]
      by_cases hd : (Ck.run Ck.k0 t.left).k.st = 4
      · rw [if_pos hd] at hp
        rw [if_pos hd]
        rw [go_on hm (by rw [hp]), hp] at hq
        left
        exact ⟨rfl, rfl, h2, by rw [hq, List.append_assoc]; rfl⟩
      · rw [if_neg hd] at hp
        rw [if_neg hd]
        rw [go_end (by rw [hp]), hp, List.append_nil] at hq
        subst hq
        right
        exact ⟨Or.inr rfl, rfl, rfl, fun _ => ⟨run_wait he hd, rfl, rfl, fun _ => k2⟩⟩
    · rw [if_pos he] at hp
      rw [if_pos he]
      rw [go_end (by rw [hp]), hp, List.append_nil] at hq
      subst hq
      right
      exact ⟨Or.inr rfl, rfl, rfl, fun e => absurd e (show ¬ ((Ck.run Ck.k0 t.left).e : Int) = 0 by omega)⟩
  rw [if_neg k2]
  rw [if_neg (show ¬ (inR a m t.left s L k z).k = 2 from k2)] at hp
  by_cases k3 : k = 3
  · rw [if_pos k3]
    rw [if_pos (show (inR a m t.left s L k z).k = 3 from k3)] at hp
    by_cases hg : 20000 < t.left.length
    · rw [if_pos hg]
      rw [if_pos (show 20000 < (inR a m t.left s L k z).m.b.length + (inR a m t.left s L k z).buf.length by show 20000 < 0 + t.left.length; omega)] at hp
      rw [go_end (by rw [hp]), hp, List.append_nil] at hq
      subst hq
      right
      exact ⟨Or.inr rfl, rfl, rfl, fun e => absurd (show (2 : Int) = 0 from e) (by decide)⟩
    · rw [if_neg hg]
      rw [if_neg (show ¬ 20000 < (inR a m t.left s L k z).m.b.length + (inR a m t.left s L k z).buf.length by show ¬ 20000 < 0 + t.left.length; omega)] at hp
      rw [go_end (by rw [hp]), hp, List.append_nil] at hq
      subst hq
      right
      exact ⟨Or.inr rfl, rfl, h0.symm, fun _ => ⟨rfl, rfl, rfl, fun _ => k3⟩⟩
  · rw [if_neg k3]
    rw [if_neg (show ¬ (inR a m t.left s L k z).k = 3 from k3)] at hp
    rw [go_on hm (by rw [hp]), hp] at hq
    left
    exact ⟨h0, h1, h2, by rw [hq, List.append_assoc]; rfl⟩
theorem open_body {a : Bool} {m : ByteArray} {t : Td} {q : Rr × List Ms} (h : Open a m t q) {n : Nat} (he : enU (lead a t.left) = ((n : Int), 0)) (hb : (hhF a m ((lead a t.left).take n)).e = 0) (hc : a = true ∨ 200 ≤ (hhF a m ((lead a t.left).take n)).s.c) :
    Goes a m (bodyT { t with left := (lead a t.left).drop n } ⟨(hhF a m ((lead a t.left).take n)).s, (hhF a m ((lead a t.left).take n)).L, []⟩ (hhF a m ((lead a t.left).take n)).k (hhF a m ((lead a t.left).take n)).z) q := by
  have hl := (hh_good hb).2.2
  have e : part (fresh a m t.left) = (true, inR a m ((lead a t.left).drop n) (hhF a m ((lead a t.left).take n)).s (hhF a m ((lead a t.left).take n)).L (hhF a m ((lead a t.left).take n)).k (hhF a m ((lead a t.left).take n)).z, []) := by
    rw [part_out rfl, partH_at rfl he]
    unfold partO
    rw [if_neg (by simpa using hb), if_pos hc]
    rfl
  have hg := h.go
  rw [go_on (mid_fresh _ _ _) (by rw [e]), e] at hg
  exact body_goes h.e h.i h.last rfl hl hg
/-- How much of it there is. -/
theorem body_few (t : Td) (m : Ms) (k z : Int) : (bodyT t m k z).out.length ≤ t.out.length + 1 ∧ (bodyT t m k z).left.length ≤ t.left.length := by
  have hr : (Ck.run Ck.k0 t.left).e = 0 → (Ck.run Ck.k0 t.left).r.length ≤ t.left.length := fun he => by
    obtain ⟨x, e1, -⟩ := Ck.run_part t.left Ck.k0 he
    have := congrArg List.length e1
    rw [List.length_append] at this
    omega
  unfold bodyT
  split
  · split
    · simp
    · simp
  · split
    · split
      · simp
      · rename_i he
        have := hr (by simpa using he)
        split
        · simpa using this
        · simp
    · split
      · split
        · simp
        · simp
      · simp

end Go.Proofs.YtmpijlaidnhpnaaGreat
