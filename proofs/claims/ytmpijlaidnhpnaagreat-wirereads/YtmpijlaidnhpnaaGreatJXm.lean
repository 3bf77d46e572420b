/- Messages, piece by piece, as lists of bytes: by plain reckoning. Readers that may be, and bytes in pieces, by plain reckoning. -/
import Derived.Test.YtmpijlaidnhpnaaGreatJHm
import Derived.Test.YtmpijlaidnhpnaaGreatJMt
import Derived.Test.YtmpijlaidnhpnaaGreatJMy
namespace Go.Proofs.YtmpijlaidnhpnaaGreat
set_option linter.unusedVariables false
set_option linter.unusedSimpArgs false
open Hd (enU enA enV lns)

/- Empty lines ahead -/

def skL : List UInt8 → List UInt8
  | [] => []
  | [c] => if c = 10 then [] else [c]
  | c :: d :: r => if c = 10 then skL (d :: r) else if c = 13 ∧ d = 10 then skL r else c :: d :: r
theorem sk_ten (r : List UInt8) : skL (10 :: r) = skL r := by
  cases r with
  | nil => rfl
  | cons d r => rw [skL, if_pos rfl]
theorem sk_two (r : List UInt8) : skL (13 :: 10 :: r) = skL r := by rw [skL, if_neg (by decide), if_pos ⟨rfl, rfl⟩]
/-- Whether an empty line stands ahead. -/
def emB : List UInt8 → Bool
  | [] => false
  | [c] => decide (c = 10)
  | c :: d :: _ => decide (c = 10) || (decide (c = 13) && decide (d = 10))
theorem sk_stay : ∀ {l : List UInt8}, emB l = false → skL l = l
  | [], _ => rfl
  | [c], h => by
    have : ¬ c = 10 := of_decide_eq_false h
    rw [skL, if_neg this]
  | c :: d :: r, h => by
    unfold emB at h
    rw [Bool.or_eq_false_iff] at h
    have h1 : ¬ c = 10 := of_decide_eq_false h.1
    rw [skL, if_neg h1, if_neg]
    rintro ⟨rfl, rfl⟩
    exact absurd h.2 (by decide)
theorem sk_app : ∀ (x b : List UInt8), skL (skL x ++ b) = skL (x ++ b)
  | [], b => rfl
  | [c], b => by
    by_cases hc : c = 10
    · subst hc
      rw [show skL [10] = [] from rfl, List.nil_append, List.singleton_append, sk_ten]
    · rw [skL, if_neg hc]
  | c :: d :: r, b => by
    by_cases hc : c = 10
    · subst hc
      rw [sk_ten, sk_app (d :: r) b, List.cons_append (a := 10), sk_ten]
    · by_cases hd : c = 13 ∧ d = 10
      · obtain ⟨rfl, rfl⟩ := hd
        rw [sk_two, sk_app r b, List.cons_append, List.cons_append, sk_two]
      · rw [skL, if_neg hc, if_neg hd]
theorem sk_le : ∀ (x : List UInt8), (skL x).length ≤ x.length
  | [] => Nat.le_refl _
  | [c] => by rw [skL]; split <;> simp
  | c :: d :: r => by
    rw [skL]
    split
    · have := sk_le (d :: r); simp at this ⊢; omega
    · split
      · have := sk_le r; simp; omega
      · exact Nat.le_refl _
/- Where a head ends -/

theorem ena_app : ∀ (x : List UInt8) (a n : Nat) (y : List UInt8), enA (lns a x) = some n → enA (lns a (x ++ y)) = some n := by
  intro x
  induction x using Hd.lines_ind with
  | h0 l h => intro a n y e; rw [Hd.lns_none h] at e; simp [enA] at e
  | h1 x r h ih =>
    intro a n y e
    rw [List.append_assoc, List.cons_append, Hd.lns_line h, enA]
    rw [Hd.lns_line h, enA] at e
    split
    · rename_i he; rw [if_pos he] at e; exact e
    · rename_i he; rw [if_neg he] at e; exact ih _ _ _ e
theorem ena_mem : ∀ (ls : List (List UInt8 × Nat)) (n : Nat), enA ls = some n → ∃ x ∈ ls, x.2 = n
  | [], n, h => by simp [enA] at h
  | x :: r, n, h => by
    rw [enA] at h
    split at h
    · exact ⟨x, by simp, by simpa using h⟩
    · obtain ⟨y, hy, e⟩ := ena_mem r n h
      exact ⟨y, by simp [hy], e⟩
theorem lns_ge (l : List UInt8) : ∀ a : Nat, ∀ x ∈ lns a l, a + 1 ≤ x.2 := by
  induction l using Hd.lines_ind with
  | h0 l h => intro a x hx; rw [Hd.lns_none h] at hx; simp at hx
  | h1 y r h ih =>
    intro a x hx
    rw [Hd.lns_line h] at hx
    rcases List.mem_cons.1 hx with rfl | hx
    · show a + 1 ≤ a + y.length + 1; omega
    · have := ih _ x hx; omega
/-- Where the head ends that l begins with: there, nowhere yet, or too late. -/
theorem en_three (l : List UInt8) : (∃ n : Nat, enU l = ((n : Int), 0) ∧ 1 ≤ n ∧ n ≤ l.length ∧ n ≤ 4000 ∧ ∀ b, enU (l ++ b) = ((n : Int), 0)) ∨ (enU l = (0, 3) ∧ l.length ≤ 4000) ∨ ((∀ b, enU (l ++ b) = (0, 2)) ∧ enU l = (0, 2)) := by
  have ht : ∀ b : List UInt8, (l ++ b).take 4000 = l.take 4000 ++ b.take (4000 - l.length) := fun b => List.take_append
  cases he : enA (lns 0 (l.take 4000)) with
  | some n =>
    left
    obtain ⟨x, hx, rfl⟩ := ena_mem _ _ he
    have h1 := Hd.lns_pos _ 0 x hx
    have h2 := lns_ge _ 0 x hx
    rw [List.length_take] at h1
    refine ⟨x.2, by rw [enU, he]; rfl, by omega, by omega, by omega, fun b => ?_⟩
    rw [enU, ht, ena_app _ _ _ _ he]; rfl
  | none =>
    right
    by_cases hl : 4000 < l.length
    · right
      refine ⟨fun b => ?_, by rw [enU, he, enV, if_pos hl]⟩
      have : (l ++ b).take 4000 = l.take 4000 := by rw [ht, show 4000 - l.length = 0 by omega, List.take_zero, List.append_nil]
      rw [enU, this, he, enV, if_pos (by rw [List.length_append]; omega)]
    · left
      exact ⟨by rw [enU, he, enV, if_neg hl], by omega⟩

/- Messages, readers -/

structure Ms where
  s : St
  L : List Fd
  b : List UInt8
def Ms.no : Ms := ⟨St.no, [], []⟩
structure Rr where
  a : Bool
  t : ByteArray
  buf : List UInt8
  i : Bool
  m : Ms
  k : Int
  z : Int
  c : Ck.K
  e : Int
/-- A reader with nothing but bytes that wait. -/
def fresh (a : Bool) (t : ByteArray) (x : List UInt8) : Rr := ⟨a, t, x, false, Ms.no, 0, 0, Ck.k0, 0⟩
/-- A reader that stopped. -/
def stopR (a : Bool) (t : ByteArray) (e : Int) : Rr := ⟨a, t, [], false, Ms.no, 0, 0, Ck.k0, e⟩
def Rr.app (r : Rr) (b : List UInt8) : Rr := { r with buf := r.buf ++ b }
theorem fresh_app (a : Bool) (t : ByteArray) (x b : List UInt8) : (fresh a t x).app b = fresh a t (x ++ b) := rfl

/-- How long the body is. -/
def lgF (a : Bool) (t : ByteArray) (s : St) (L : List Fd) : An := if a then reqF s L else ansF s L t

/- A head -/

def firL (l : List UInt8) : List UInt8 := Hd.bareL (l.takeWhile (Hd.neB 10))
/-- Without the 10, and then the 13, at the end. -/
def chopL (l : List UInt8) : List UInt8 := Hd.bareL (if l.getLast? = some 10 then l.dropLast else l)
def resL (l : List UInt8) : List UInt8 := chopL (l.drop (Hd.atN 10 l + 1))
def fiU (a : Bool) (l : List UInt8) : St := if a then Sr.psU (Ck.bs l) else Sr.stU (Ck.bs l)
/-- What a head is read as: an error, a message, how long its body is. -/
structure Hh where
  e : Int
  s : St
  L : List Fd
  k : Int
  z : Int
def hhF (a : Bool) (t : ByteArray) (l : List UInt8) : Hh :=
  if rtB (fiU a (firL l)) = false then ⟨30, St.no, [], 0, 0⟩
  else if (Hd.psU (resL l)).2 ≠ 0 then ⟨(Hd.psU (resL l)).2, St.no, [], 0, 0⟩
  else ⟨(lgF a t (fiU a (firL l)) (Hd.psU (resL l)).1).2.2, fiU a (firL l), (Hd.psU (resL l)).1, (lgF a t (fiU a (firL l)) (Hd.psU (resL l)).1).1, (lgF a t (fiU a (firL l)) (Hd.psU (resL l)).1).2.1⟩
theorem hh_first {a : Bool} {t : ByteArray} {l : List UInt8} (h : rtB (fiU a (firL l)) = false) : hhF a t l = ⟨30, St.no, [], 0, 0⟩ := by unfold hhF; rw [if_pos h]
theorem hh_rest {a : Bool} {t : ByteArray} {l : List UInt8} (h : rtB (fiU a (firL l)) = true) (g : (Hd.psU (resL l)).2 ≠ 0) : hhF a t l = ⟨(Hd.psU (resL l)).2, St.no, [], 0, 0⟩ := by
  unfold hhF; rw [if_neg (by rw [h]; decide), if_pos g]
theorem hh_all {a : Bool} {t : ByteArray} {l : List UInt8} (h : rtB (fiU a (firL l)) = true) (g : (Hd.psU (resL l)).2 = 0) : hhF a t l = ⟨(lgF a t (fiU a (firL l)) (Hd.psU (resL l)).1).2.2, fiU a (firL l), (Hd.psU (resL l)).1, (lgF a t (fiU a (firL l)) (Hd.psU (resL l)).1).1, (lgF a t (fiU a (firL l)) (Hd.psU (resL l)).1).2.1⟩ := by
  unfold hhF; rw [if_neg (by rw [h]; decide), if_neg (by simpa using g)]
theorem hh_good {a : Bool} {t : ByteArray} {l : List UInt8} (h : (hhF a t l).e = 0) : rtB (hhF a t l).s = true ∧ rightF (hhF a t l).L = true ∧ lgF a t (hhF a t l).s (hhF a t l).L = ((hhF a t l).k, (hhF a t l).z, 0) := by
  cases h1 : rtB (fiU a (firL l))
  · rw [hh_first h1] at h; exact absurd h (by decide)
  · by_cases h2 : (Hd.psU (resL l)).2 = 0
    · rw [hh_all h1 h2] at h ⊢
      refine ⟨h1, Hd.ps_right _, ?_⟩
      simp only at h ⊢
      rw [← h]
    · rw [hh_rest h1 h2] at h; exact absurd h h2

/- One part -/

def partH (r : Rr) : Bool × Rr × List Ms :=
  let b := if r.a then skL r.buf else r.buf
  if (enU b).2 = 3 then (false, { r with buf := b }, [])
  else if (enU b).2 ≠ 0 then (false, stopR r.a r.t (enU b).2, [])
  else if (hhF r.a r.t (b.take (enU b).1.toNat)).e ≠ 0 then (false, stopR r.a r.t (hhF r.a r.t (b.take (enU b).1.toNat)).e, [])
  else if r.a = true ∨ 200 ≤ (hhF r.a r.t (b.take (enU b).1.toNat)).s.c then
    (true, ⟨r.a, r.t, b.drop (enU b).1.toNat, true, ⟨(hhF r.a r.t (b.take (enU b).1.toNat)).s, (hhF r.a r.t (b.take (enU b).1.toNat)).L, []⟩, (hhF r.a r.t (b.take (enU b).1.toNat)).k, (hhF r.a r.t (b.take (enU b).1.toNat)).z, r.c, r.e⟩, [])
  else (true, { r with buf := b.drop (enU b).1.toNat }, [])
def Ms.more (m : Ms) (d : List UInt8) : Ms := ⟨m.s, m.L, m.b ++ d⟩
/-- How many bytes of a body of such a size are there. -/
def cnt (r : Rr) : Nat := min (r.z.toNat - r.m.b.length) r.buf.length
def partB (r : Rr) : Bool × Rr × List Ms :=
  if r.k = 1 then
    if (r.m.b.length + cnt r : Int) = r.z then (true, fresh r.a r.t (r.buf.drop (cnt r)), [r.m.more (r.buf.take (cnt r))])
    else (false, { r with m := r.m.more (r.buf.take (cnt r)), buf := r.buf.drop (cnt r) }, [])
  else if r.k = 2 then
    if (Ck.run r.c r.buf).e ≠ 0 then (false, stopR r.a r.t (Ck.run r.c r.buf).e, [])
    else if (Ck.run r.c r.buf).k.st = 4 then (true, fresh r.a r.t (Ck.run r.c r.buf).r, [r.m.more (Ck.run r.c r.buf).d])
    else (false, { r with m := r.m.more (Ck.run r.c r.buf).d, c := (Ck.run r.c r.buf).k, buf := (Ck.run r.c r.buf).r }, [])
  else if r.k = 3 then
    if 20000 < r.m.b.length + r.buf.length then (false, stopR r.a r.t 2, [])
    else (false, { r with m := r.m.more r.buf, buf := [] }, [])
  else (true, fresh r.a r.t r.buf, [r.m])
def part (r : Rr) : Bool × Rr × List Ms := if r.i then partB r else partH r

end Go.Proofs.YtmpijlaidnhpnaaGreat

namespace Go.Proofs.YtmpijlaidnhpnaaGreat
set_option linter.unusedVariables false
set_option linter.unusedSimpArgs false
open Hd (enU enA enV lns)

theorem nope {P : Prop} {b : Bool} (h : b = !b) : P := by cases b <;> exact absurd h (by decide)
/-- How much of the body may be there. -/
structure Sofar (k z : Int) (n : Nat) (c : Ck.K) : Prop where
  one : k = 1 → (n : Int) ≤ z ∧ c = Ck.k0
  two : k = 2 → Ck.Good c ∧ c.st ≠ 4 ∧ (n : Int) = c.size
  tri : k = 3 → n ≤ 20000 ∧ c = Ck.k0
/-- Between two parts. -/
structure Mid (r : Rr) : Prop where
  e0 : r.e = 0
  out : r.i = false → r.m = Ms.no ∧ r.k = 0 ∧ r.z = 0 ∧ r.c = Ck.k0
  inn : r.i = true → lgF r.a r.t r.m.s r.m.L = (r.k, r.z, 0) ∧ Sofar r.k r.z r.m.b.length r.c
theorem Mid.app {r : Rr} (h : Mid r) (b : List UInt8) : Mid (r.app b) := ⟨h.e0, h.out, h.inn⟩
theorem mid_fresh (a : Bool) (t : ByteArray) (x : List UInt8) : Mid (fresh a t x) := ⟨rfl, fun _ => ⟨rfl, rfl, rfl, rfl⟩, fun h => nope h⟩
theorem mid_eq {r : Rr} (h : Mid r) (hi : r.i = false) : r = fresh r.a r.t r.buf := by
  obtain ⟨a, t, buf, i, m, k, z, c, e⟩ := r
  obtain ⟨rfl, rfl, rfl, rfl⟩ := h.out hi
  have := h.e0
  simp only at this hi
  subst this; subst hi; rfl

/-- Ahead of a head: three ways. -/
def lead (a : Bool) (l : List UInt8) : List UInt8 := if a then skL l else l
theorem lead_app (a : Bool) (x b : List UInt8) : lead a (lead a x ++ b) = lead a (x ++ b) := by
  cases a
  · rfl
  · exact sk_app x b
theorem lead_le (a : Bool) (x : List UInt8) : (lead a x).length ≤ x.length := by
  cases a
  · exact Nat.le_refl _
  · exact sk_le x
/-- What a head does whose bytes are there. -/
def partO (a : Bool) (t : ByteArray) (h : List UInt8) (x : List UInt8) : Bool × Rr × List Ms :=
  if (hhF a t h).e ≠ 0 then (false, stopR a t (hhF a t h).e, [])
  else if a = true ∨ 200 ≤ (hhF a t h).s.c then (true, ⟨a, t, x, true, ⟨(hhF a t h).s, (hhF a t h).L, []⟩, (hhF a t h).k, (hhF a t h).z, Ck.k0, 0⟩, [])
  else (true, fresh a t x, [])
theorem partH_three (a : Bool) (t : ByteArray) (x : List UInt8) : (∃ n : Nat, 1 ≤ n ∧ n ≤ (lead a x).length ∧ n ≤ 4000 ∧ enU (lead a x) = ((n : Int), 0) ∧ (∀ b, enU (lead a x ++ b) = ((n : Int), 0)) ∧ partH (fresh a t x) = partO a t ((lead a x).take n) ((lead a x).drop n)) ∨
    (enU (lead a x) = (0, 3) ∧ (lead a x).length ≤ 4000 ∧ partH (fresh a t x) = (false, fresh a t (lead a x), [])) ∨
    (enU (lead a x) = (0, 2) ∧ (∀ b, enU (lead a x ++ b) = (0, 2)) ∧ partH (fresh a t x) = (false, stopR a t 2, [])) := by
  have e : partH (fresh a t x) = if (enU (lead a x)).2 = 3 then (false, fresh a t (lead a x), []) else if (enU (lead a x)).2 ≠ 0 then (false, stopR a t (enU (lead a x)).2, []) else partO a t ((lead a x).take (enU (lead a x)).1.toNat) ((lead a x).drop (enU (lead a x)).1.toNat) := rfl
  rcases en_three (lead a x) with ⟨n, h, h1, h2, h3, h4⟩ | ⟨h, h1⟩ | ⟨h1, h⟩
  · left
    refine ⟨n, h1, h2, h3, h, h4, ?_⟩
    rw [e, h, if_neg (show ¬ (0 : Int) = 3 by decide), if_neg (show ¬ (0 : Int) ≠ 0 by decide)]
    simp
  · right; left
    refine ⟨h, h1, ?_⟩
    rw [e, h, if_pos rfl]
  · right; right
    refine ⟨h, h1, ?_⟩
    rw [e, h, if_neg (by decide), if_pos (by decide)]
theorem part_out {r : Rr} (h : r.i = false) : part r = partH r := by unfold part; rw [h]; rfl
theorem part_in {r : Rr} (h : r.i = true) : part r = partB r := by unfold part; rw [h]; rfl

/-- The size that was read so far grows with the data. -/
theorem run_size : ∀ (s : List UInt8) (k : Ck.K), Ck.Good k → (Ck.run k s).e = 0 → (Ck.run k s).k.size = k.size + (Ck.run k s).d.length
  | [], k, g, h => by simp [Ck.run]
  | c :: s, k, g, h => by
    rw [Ck.run] at h ⊢
    by_cases h4 : k.st = 4
    · rw [if_pos h4]; simp
    rw [if_neg h4] at h ⊢
    by_cases h1 : k.st = 1
    · rw [if_pos h1] at h ⊢
      rw [Ck.on_e] at h
      have hg : Ck.Good (Ck.kd k 1) := Ck.good_kd g h1 (by have := (g.lf h1).1; omega)
      have := run_size s _ hg h
      rw [Ck.on_k, Ck.on_d h, this]
      show k.size + 1 + _ = _
      simp; omega
    rw [if_neg h1] at h ⊢
    by_cases hc : c = 10
    · rw [if_pos hc] at h ⊢
      by_cases hd : (Ck.dd (Ck.kl k ⟨#[]⟩) (Ck.bareL k.line.data.toList)).1 = 0
      · rw [if_pos hd] at h ⊢
        have hg : Ck.Good (Ck.dd (Ck.kl k ⟨#[]⟩) (Ck.bareL k.line.data.toList)).2 :=
          Ck.good_dd (k := Ck.kl k ⟨#[]⟩) (Ck.good_kl g h1 h4 (x := ⟨#[]⟩) (by decide) (by simp)) h1 h4 rfl _ hd
        have := run_size s _ hg h
        rw [this]
        congr 1
        unfold Ck.dd
        repeat' split
        all_goals rfl
      · rw [if_neg hd] at h; exact absurd h hd
    rw [if_neg hc] at h ⊢
    by_cases hl : 200 ≤ k.line.size
    · rw [if_pos hl] at h; exact absurd h (by decide)
    · rw [if_neg hl] at h ⊢
      have hg : Ck.Good (Ck.kl k (k.line ++ Ck.bs [c])) := by
        refine Ck.good_kl g h1 h4 (by rw [Ck.app_size, Ck.bs_size]; simp; omega) ?_
        intro d hd
        rw [show (k.line ++ Ck.bs [c]).data.toList = k.line.data.toList ++ [c] by simp [Ck.bs]] at hd
        rcases List.mem_append.1 hd with hd | hd
        · exact g.no d hd
        · obtain rfl : d = c := by simpa using hd
          unfold Ck.neB; simpa using hc
      exact run_size s _ hg h
theorem run_app_done {a : List UInt8} {k : Ck.K} (b : List UInt8) (h : (Ck.run k a).e = 0) (g : (Ck.run k a).k.st = 4) : Ck.run k (a ++ b) = ⟨0, (Ck.run k a).k, (Ck.run k a).d, (Ck.run k a).r ++ b⟩ := by
  obtain ⟨x, e1, e2, e3, e4, e5⟩ := Ck.run_part a k h
  have e : a ++ b = x ++ ((Ck.run k a).r ++ b) := by rw [← List.append_assoc, ← e1]
  rw [e, Ck.run_app_go x k _ e2 e3, e4, e5, Ck.run_done g]
  unfold Ck.Rs.on
  rw [if_pos rfl, List.append_nil]
theorem run_wait {a : List UInt8} {k : Ck.K} (h : (Ck.run k a).e = 0) (g : (Ck.run k a).k.st ≠ 4) : (Ck.run k a).r = [] := by
  by_cases hr : (Ck.run k a).r = []
  · exact hr
  · exact absurd (Ck.run_left a k h hr) g

theorem else_size (y : Sy) (k : Int) : 0 ≤ (elseF y k).2.1 := by unfold elseF; split <;> simp
theorem lg_nonneg (a : Bool) (t : ByteArray) (s : St) (L : List Fd) : 0 ≤ (lgF a t s L).2.1 := by
  unfold lgF
  split
  · unfold reqF; split
    · exact else_size _ _
    · exact Int.le_refl _
  · unfold ansF; split
    · split
      · exact Int.le_refl _
      · exact else_size _ _
    · exact Int.le_refl _
theorem lg_size {a : Bool} {t : ByteArray} {s : St} {L : List Fd} {k z e : Int} (h : lgF a t s L = (k, z, e)) : ((0 : Nat) : Int) ≤ z := by
  have := lg_nonneg a t s L
  rw [h] at this; exact this

/-- What a part leaves. -/
theorem mid_part {r : Rr} (h : Mid r) (g : (part r).1 = true) : Mid (part r).2.1 := by
  cases hi : r.i
  · rw [part_out hi] at g ⊢
    rw [mid_eq h hi] at g ⊢
    rcases partH_three r.a r.t r.buf with ⟨n, -, -, -, -, -, e⟩ | ⟨-, -, e⟩ | ⟨-, -, e⟩
    · rw [e] at g ⊢
      unfold partO at g ⊢
      by_cases h1 : (hhF r.a r.t ((lead r.a r.buf).take n)).e = 0
      · rw [if_neg (by simpa using h1)] at g ⊢
        split
        · refine ⟨rfl, fun h => nope h, fun _ => ⟨(hh_good h1).2.2, ?_⟩⟩
          refine ⟨fun hk => ⟨?_, rfl⟩, fun _ => ⟨Ck.good0, show (0 : Int) ≠ 4 by decide, rfl⟩, fun _ => ⟨by simp, rfl⟩⟩
          have := (hh_good h1).2.2
          exact lg_size this
        · exact mid_fresh _ _ _
      · rw [if_pos h1] at g; exact nope g
    · rw [e] at g; exact nope g
    · rw [e] at g; exact nope g
  · rw [part_in hi] at g ⊢
    unfold partB at g ⊢
    by_cases k1 : r.k = 1
    · rw [if_pos k1] at g ⊢
      by_cases hq : (r.m.b.length + cnt r : Int) = r.z
      · rw [if_pos hq]; exact mid_fresh _ _ _
      · rw [if_neg hq] at g; exact nope g
    rw [if_neg k1] at g ⊢
    by_cases k2 : r.k = 2
    · rw [if_pos k2] at g ⊢
      by_cases hr : (Ck.run r.c r.buf).e = 0
      · rw [if_neg (by simpa using hr)] at g ⊢
        by_cases hd : (Ck.run r.c r.buf).k.st = 4
        · rw [if_pos hd]; exact mid_fresh _ _ _
        · rw [if_neg hd] at g; exact nope g
      · rw [if_pos hr] at g; exact nope g
    rw [if_neg k2] at g ⊢
    by_cases k3 : r.k = 3
    · rw [if_pos k3] at g
      by_cases hq : 20000 < r.m.b.length + r.buf.length
      · rw [if_pos hq] at g; exact nope g
      · rw [if_neg hq] at g; exact nope g
    · rw [if_neg k3]; exact mid_fresh _ _ _

/-- What is left where bytes are waited for. -/
structure Wait (r : Rr) : Prop where
  mid : Mid r
  out : r.i = false → r.buf.length ≤ 4000
  inn : r.i = true → r.buf = [] ∧ (r.k = 1 ∨ r.k = 2 ∨ r.k = 3) ∧ (r.k = 1 → (r.m.b.length : Int) < r.z)
theorem wait_part {r : Rr} (h : Mid r) (g : (part r).1 = false) (he : (part r).2.1.e = 0) : Wait (part r).2.1 := by
  cases hi : r.i
  · rw [part_out hi] at g he ⊢
    rw [mid_eq h hi] at g he ⊢
    rcases partH_three r.a r.t r.buf with ⟨n, h1, h2, h3, h4, h5, e⟩ | ⟨h1, h2, e⟩ | ⟨h1, h2, e⟩
    · rw [e] at g he
      unfold partO at g he
      split at g
      · rename_i k1
        rw [if_pos k1] at he
        exact absurd he k1
      · split at g
        · exact nope g
        · exact nope g
    · rw [e]
      exact ⟨mid_fresh _ _ _, fun _ => h2, fun e => nope e⟩
    · rw [e] at he; exact absurd (show (2 : Int) = 0 from he) (by decide)
  · rw [part_in hi] at g he ⊢
    obtain ⟨hl, hs⟩ := h.inn hi
    have h0 := h.e0
    unfold partB at g he ⊢
    by_cases k1 : r.k = 1
    · have hz := (hs.one k1).1
      rw [if_pos k1] at g he ⊢
      by_cases hq : (r.m.b.length + cnt r : Int) = r.z
      · rw [if_pos hq] at g; exact nope g
      · rw [if_neg hq]
        have hn : cnt r = r.buf.length := by unfold cnt at hq ⊢; omega
        have hc : ((r.m.b ++ r.buf.take (cnt r)).length : Int) < r.z := by
          rw [List.length_append, List.length_take]
          unfold cnt at hq ⊢
          omega
        refine ⟨⟨h0, fun e => absurd (hi.symm.trans e) (by decide), fun _ => ⟨hl, ⟨fun _ => ⟨Int.le_of_lt hc, (hs.one k1).2⟩, fun e => absurd (k1.symm.trans e) (by decide), fun e => absurd (k1.symm.trans e) (by decide)⟩⟩⟩, fun e => absurd (hi.symm.trans e) (by decide), fun _ => ⟨?_, Or.inl k1, fun _ => hc⟩⟩
        show r.buf.drop (cnt r) = []
        rw [hn, List.drop_of_length_le (Nat.le_refl _)]
    rw [if_neg k1] at g he ⊢
    by_cases k2 : r.k = 2
    · rw [if_pos k2] at g he ⊢
      by_cases hr : (Ck.run r.c r.buf).e = 0
      · rw [if_neg (by simpa using hr)] at g he ⊢
        by_cases hd : (Ck.run r.c r.buf).k.st = 4
        · rw [if_pos hd] at g; exact nope g
        · rw [if_neg hd]
          obtain ⟨g1, g2, g3⟩ := hs.two k2
          have hsz := run_size r.buf r.c g1 hr
          refine ⟨⟨h0, fun e => absurd (hi.symm.trans e) (by decide), fun _ => ⟨hl, ⟨fun e => absurd e k1, fun _ => ⟨Ck.good_run _ _ g1 hr, hd, ?_⟩, fun e => absurd (k2.symm.trans e) (by decide)⟩⟩⟩, fun e => absurd (hi.symm.trans e) (by decide), fun _ => ⟨run_wait hr hd, Or.inr (Or.inl k2), fun e => absurd e k1⟩⟩
          show (((r.m.b ++ (Ck.run r.c r.buf).d).length : Nat) : Int) = _
          rw [List.length_append, hsz, ← g3]; simp
      · rw [if_pos hr] at he
        exact absurd (show (((Ck.run r.c r.buf).e : Nat) : Int) = 0 from he) (by omega)
    rw [if_neg k2] at g he ⊢
    by_cases k3 : r.k = 3
    · rw [if_pos k3] at g he ⊢
      by_cases hq : 20000 < r.m.b.length + r.buf.length
      · rw [if_pos hq] at he; exact absurd (show (2 : Int) = 0 from he) (by decide)
      · rw [if_neg hq]
        have hc : (r.m.b ++ r.buf).length ≤ 20000 := by rw [List.length_append]; omega
        exact ⟨⟨h0, fun e => absurd (hi.symm.trans e) (by decide), fun _ => ⟨hl, ⟨fun e => absurd e k1, fun e => absurd e k2, fun _ => ⟨hc, (hs.tri k3).2⟩⟩⟩⟩, fun e => absurd (hi.symm.trans e) (by decide), fun _ => ⟨rfl, Or.inr (Or.inr k3), fun e => absurd e k1⟩⟩
    · rw [if_neg k3] at g; exact nope g
theorem mid_wait {r : Rr} (h : Mid r) (g : (part r).1 = false) (he : (part r).2.1.e = 0) : Mid (part r).2.1 := (wait_part h g he).mid
/-- A reader that stopped bears nothing but why. -/
theorem stop_part {r : Rr} (h : Mid r) (he : (part r).2.1.e ≠ 0) : ∃ E, E ≠ 0 ∧ (part r).2.1 = stopR r.a r.t E ∧ (part r).1 = false ∧ (part r).2.2 = [] := by
  have h0 := h.e0
  cases hi : r.i
  · rw [part_out hi] at he ⊢
    rw [mid_eq h hi] at he ⊢
    rcases partH_three r.a r.t r.buf with ⟨n, h1, h2, h3, h4, h5, e⟩ | ⟨h1, h2, e⟩ | ⟨h1, h2, e⟩
    · rw [e] at he ⊢
      unfold partO at he ⊢
      by_cases k1 : (hhF r.a r.t ((lead r.a r.buf).take n)).e = 0
      · rw [if_neg (by simpa using k1)] at he
        split at he
        · exact absurd rfl he
        · exact absurd rfl he
      · rw [if_pos k1]; exact ⟨_, k1, rfl, rfl, rfl⟩
    · rw [e] at he; exact absurd rfl he
    · rw [e]; exact ⟨2, by decide, rfl, rfl, rfl⟩
  · rw [part_in hi] at he ⊢
    unfold partB at he ⊢
    by_cases k1 : r.k = 1
    · rw [if_pos k1] at he
      split at he
      · exact absurd rfl he
      · exact absurd h0 he
    rw [if_neg k1] at he ⊢
    by_cases k2 : r.k = 2
    · rw [if_pos k2] at he ⊢
      by_cases hr : (Ck.run r.c r.buf).e = 0
      · rw [if_neg (by simpa using hr)] at he
        split at he
        · exact absurd rfl he
        · exact absurd h0 he
      · rw [if_pos hr]
        exact ⟨((Ck.run r.c r.buf).e : Nat), by omega, rfl, rfl, rfl⟩
    rw [if_neg k2] at he ⊢
    by_cases k3 : r.k = 3
    · rw [if_pos k3] at he ⊢
      by_cases hq : 20000 < r.m.b.length + r.buf.length
      · rw [if_pos hq]; exact ⟨2, by decide, rfl, rfl, rfl⟩
      · rw [if_neg hq] at he; exact absurd h0 he
    · rw [if_neg k3] at he; exact absurd rfl he

/- Bytes in pieces -/

theorem em_sk : ∀ x : List UInt8, emB (skL x) = false
  | [] => rfl
  | [c] => by
    rw [skL]; split
    · rfl
    · rename_i h; exact decide_eq_false h
  | c :: d :: r => by
    rw [skL]; split
    · exact em_sk (d :: r)
    · split
      · exact em_sk r
      · rename_i h1 h2
        show (decide (c = 10) || (decide (c = 13) && decide (d = 10))) = false
        rw [decide_eq_false h1, Bool.false_or]
        by_cases hc : c = 13
        · have hd : ¬ d = 10 := fun e => h2 ⟨hc, e⟩
          rw [decide_eq_false hd, Bool.and_false]
        · rw [decide_eq_false hc, Bool.false_and]
theorem em_app {y : List UInt8} (b : List UInt8) (h : emB y = false) (h0 : y ≠ []) (h1 : y ≠ [13]) : emB (y ++ b) = false := by
  match y, h, h0, h1 with
  | [], _, h0, _ => exact absurd rfl h0
  | [c], h, _, h1 =>
    have hc : ¬ c = 10 := of_decide_eq_false h
    have hd : ¬ c = 13 := fun e => h1 (by rw [e])
    cases b with
    | nil => exact h
    | cons x b =>
      show (decide (c = 10) || (decide (c = 13) && decide (x = 10))) = false
      rw [decide_eq_false hc, decide_eq_false hd]; rfl
  | c :: d :: r, h, _, _ => exact h
theorem en_nil : enU [] = (0, 3) := by decide
theorem en_13 : enU [13] = (0, 3) := by decide
theorem lead_fix {a : Bool} {x : List UInt8} (b : List UInt8) (h : enU (lead a x) ≠ (0, 3)) : lead a (x ++ b) = lead a x ++ b := by
  rw [← lead_app]
  cases a
  · rfl
  · have h0 : lead true x ≠ [] := fun e => h (by rw [e, en_nil])
    have h1 : lead true x ≠ [13] := fun e => h (by rw [e, en_13])
    exact sk_stay (em_app b (em_sk x) h0 h1)
theorem partH_eq (a : Bool) (t : ByteArray) (x : List UInt8) : partH (fresh a t x) = if (enU (lead a x)).2 = 3 then (false, fresh a t (lead a x), []) else if (enU (lead a x)).2 ≠ 0 then (false, stopR a t (enU (lead a x)).2, []) else partO a t ((lead a x).take (enU (lead a x)).1.toNat) ((lead a x).drop (enU (lead a x)).1.toNat) := rfl
theorem partH_at {a : Bool} {t : ByteArray} {x y : List UInt8} {n : Nat} (hy : lead a x = y) (h : enU y = ((n : Int), 0)) : partH (fresh a t x) = partO a t (y.take n) (y.drop n) := by
  rw [partH_eq, hy, h, if_neg (show ¬ (0 : Int) = 3 by decide), if_neg (show ¬ (0 : Int) ≠ 0 by decide)]; simp
theorem partO_app (a : Bool) (t : ByteArray) (h x b : List UInt8) : ((partO a t h x).1 = true → partO a t h (x ++ b) = (true, (partO a t h x).2.1.app b, (partO a t h x).2.2)) ∧ ((partO a t h x).1 = false → (partO a t h x).2.1.e ≠ 0 ∧ partO a t h (x ++ b) = partO a t h x) := by
  by_cases h1 : (hhF a t h).e = 0
  · by_cases h2 : a = true ∨ 200 ≤ (hhF a t h).s.c
    · have E : ∀ y, partO a t h y = (true, ⟨a, t, y, true, ⟨(hhF a t h).s, (hhF a t h).L, []⟩, (hhF a t h).k, (hhF a t h).z, Ck.k0, 0⟩, []) := fun y => by unfold partO; rw [if_neg (not_not_intro h1), if_pos h2]
      rw [E, E]; exact ⟨fun _ => rfl, fun e => nope e⟩
    · have E : ∀ y, partO a t h y = (true, fresh a t y, []) := fun y => by unfold partO; rw [if_neg (not_not_intro h1), if_neg h2]
      rw [E, E]; exact ⟨fun _ => rfl, fun e => nope e⟩
  · have E : ∀ y, partO a t h y = (false, stopR a t (hhF a t h).e, []) := fun y => by unfold partO; rw [if_pos h1]
    rw [E, E]; exact ⟨fun e => nope e, fun _ => ⟨h1, rfl⟩⟩

theorem head_app (a : Bool) (t : ByteArray) (x b : List UInt8) :
    ((partH (fresh a t x)).1 = true → partH (fresh a t (x ++ b)) = (true, (partH (fresh a t x)).2.1.app b, (partH (fresh a t x)).2.2)) ∧
    ((partH (fresh a t x)).1 = false → (partH (fresh a t x)).2.1.e ≠ 0 → partH (fresh a t (x ++ b)) = partH (fresh a t x)) ∧
    ((partH (fresh a t x)).1 = false → (partH (fresh a t x)).2.1.e = 0 → (partH (fresh a t x)).2.2 = [] ∧ (partH (fresh a t x)).2.1 = fresh a t (lead a x) ∧ partH (fresh a t (x ++ b)) = partH (fresh a t (lead a x ++ b))) := by
  rcases partH_three a t x with ⟨n, h1, h2, h3, h4, h5, e⟩ | ⟨h1, h2, e⟩ | ⟨h1, h2, e⟩
  · have hf := lead_fix b (a := a) (x := x) (by rw [h4]; simp)
    have e2 : partH (fresh a t (x ++ b)) = partO a t ((lead a x).take n) ((lead a x).drop n ++ b) := by
      rw [partH_at hf (h5 b), List.take_append_of_le_length h2, List.drop_append_of_le_length h2]
    rw [e, e2]
    obtain ⟨p1, p2⟩ := partO_app a t ((lead a x).take n) ((lead a x).drop n) b
    exact ⟨p1, fun g _ => (p2 g).2, fun g g2 => absurd g2 (p2 g).1⟩
  · rw [e]
    refine ⟨fun g => nope g, fun _ g => absurd rfl g, fun _ _ => ⟨rfl, rfl, ?_⟩⟩
    rw [partH_eq, partH_eq, lead_app]
  · have hf := lead_fix b (a := a) (x := x) (by rw [h1]; decide)
    have e2 : partH (fresh a t (x ++ b)) = (false, stopR a t 2, []) := by
      rw [partH_eq, hf, h2 b, if_neg (by decide), if_pos (by decide)]
    rw [e, e2]
    exact ⟨fun g => nope g, fun _ _ => rfl, fun _ g => absurd (show (2 : Int) = 0 from g) (by decide)⟩

theorem cnt_le (r : Rr) : cnt r ≤ r.buf.length := Nat.min_le_right _ _
theorem body_app {r : Rr} (h : Mid r) (hi : r.i = true) (b : List UInt8) :
    ((partB r).1 = true → partB (r.app b) = (true, (partB r).2.1.app b, (partB r).2.2)) ∧
    ((partB r).1 = false → (partB r).2.1.e ≠ 0 → partB (r.app b) = partB r) ∧
    ((partB r).1 = false → (partB r).2.1.e = 0 → (partB r).2.2 = [] ∧ (partB r).2.1.i = true ∧ partB (r.app b) = partB ((partB r).2.1.app b)) := by
  obtain ⟨-, hs⟩ := h.inn hi
  have h0 := h.e0
  by_cases k1 : r.k = 1
  · have hz := (hs.one k1).1
    have hc := cnt_le r
    by_cases hq : (r.m.b.length + cnt r : Int) = r.z
    · have hn : cnt (r.app b) = cnt r := by
        unfold cnt Rr.app at *
        simp only [List.length_append]
        omega
      have e1 : partB r = (true, fresh r.a r.t (r.buf.drop (cnt r)), [r.m.more (r.buf.take (cnt r))]) := by unfold partB; rw [if_pos k1, if_pos hq]
      have e2 : partB (r.app b) = (true, fresh r.a r.t (r.buf.drop (cnt r) ++ b), [r.m.more (r.buf.take (cnt r))]) := by
        unfold partB
        rw [if_pos (show (r.app b).k = 1 from k1), hn, if_pos (show (((r.app b).m.b.length : Nat) + cnt r : Int) = (r.app b).z from hq)]
        unfold Rr.app
        rw [List.drop_append_of_le_length hc, List.take_append_of_le_length hc]
      rw [e1, e2]
      exact ⟨fun _ => rfl, fun g => nope g, fun g => nope g⟩
    · have hn : cnt r = r.buf.length := by
        unfold cnt at hq ⊢
        omega
      have e1 : partB r = (false, { r with m := r.m.more r.buf, buf := [] }, []) := by
        unfold partB; rw [if_pos k1, if_neg hq, hn, List.take_of_length_le (Nat.le_refl _), List.drop_of_length_le (Nat.le_refl _)]
      rw [e1]
      refine ⟨fun g => nope g, fun _ g => absurd h0 g, fun _ _ => ⟨rfl, hi, ?_⟩⟩
      have hm : cnt (r.app b) = r.buf.length + cnt (Rr.app { r with m := r.m.more r.buf, buf := [] } b) := by
        unfold cnt Rr.app Ms.more at *
        simp only [List.length_append, List.length_nil]
        omega
      generalize hj : cnt (Rr.app { r with m := r.m.more r.buf, buf := [] } b) = j at hm
      unfold partB
      rw [if_pos (show (r.app b).k = 1 from k1), if_pos (show (Rr.app { r with m := r.m.more r.buf, buf := [] } b).k = 1 from k1), hm, hj]
      have d1 : (r.app b).buf.drop (r.buf.length + j) = (Rr.app { r with m := r.m.more r.buf, buf := [] } b).buf.drop j := by
        unfold Rr.app; simp only [List.nil_append]; rw [List.drop_append, List.drop_of_length_le (by omega)]; simp
      have d2 : (r.app b).m.more ((r.app b).buf.take (r.buf.length + j)) = (Rr.app { r with m := r.m.more r.buf, buf := [] } b).m.more ((Rr.app { r with m := r.m.more r.buf, buf := [] } b).buf.take j) := by
        unfold Rr.app Ms.more; simp only [List.nil_append]; rw [List.take_append, List.take_of_length_le (by omega), List.append_assoc]; simp
      have hcond : (((r.app b).m.b.length : Int) + ((r.buf.length + j : Nat) : Int) = (r.app b).z) ↔ (((Rr.app { r with m := r.m.more r.buf, buf := [] } b).m.b.length : Int) + (j : Int) = (Rr.app { r with m := r.m.more r.buf, buf := [] } b).z) := by
        unfold Rr.app Ms.more; simp only [List.length_append]; omega
      rw [d1, d2]
      by_cases hx : (((r.app b).m.b.length : Int) + ((r.buf.length + j : Nat) : Int) = (r.app b).z)
      · rw [if_pos hx, if_pos (hcond.1 hx)]; rfl
      · rw [if_neg hx, if_neg (fun y => hx (hcond.2 y))]; rfl
  by_cases k2 : r.k = 2
  · by_cases he : (Ck.run r.c r.buf).e = 0
    · by_cases hd : (Ck.run r.c r.buf).k.st = 4
      · have e1 : partB r = (true, fresh r.a r.t (Ck.run r.c r.buf).r, [r.m.more (Ck.run r.c r.buf).d]) := by
          unfold partB; rw [if_neg k1, if_pos k2, if_neg (by simpa using he), if_pos hd]
        have e2 : partB (r.app b) = (true, fresh r.a r.t ((Ck.run r.c r.buf).r ++ b), [r.m.more (Ck.run r.c r.buf).d]) := by
          have hrun : Ck.run (r.app b).c (r.app b).buf = ⟨0, (Ck.run r.c r.buf).k, (Ck.run r.c r.buf).d, (Ck.run r.c r.buf).r ++ b⟩ := run_app_done b he hd
          unfold partB
          rw [if_neg (show ¬ (r.app b).k = 1 from k1), if_pos (show (r.app b).k = 2 from k2), hrun, if_neg (by simp), if_pos hd]; rfl
        rw [e1, e2]
        exact ⟨fun _ => rfl, fun g => nope g, fun g => nope g⟩
      · have hr := run_wait he hd
        have e1 : partB r = (false, { r with m := r.m.more (Ck.run r.c r.buf).d, c := (Ck.run r.c r.buf).k, buf := [] }, []) := by
          unfold partB; rw [if_neg k1, if_pos k2, if_neg (by simpa using he), if_neg hd, hr]
        rw [e1]
        refine ⟨fun g => nope g, fun _ g => absurd h0 g, fun _ _ => ⟨rfl, hi, ?_⟩⟩
        have hrun : Ck.run (r.app b).c (r.app b).buf = (Ck.run (Ck.run r.c r.buf).k b).on (Ck.run r.c r.buf).d := Ck.run_app_go _ _ b he hr
        have hrun2 : Ck.run (Rr.app { r with m := r.m.more (Ck.run r.c r.buf).d, c := (Ck.run r.c r.buf).k, buf := [] } b).c (Rr.app { r with m := r.m.more (Ck.run r.c r.buf).d, c := (Ck.run r.c r.buf).k, buf := [] } b).buf = Ck.run (Ck.run r.c r.buf).k b := rfl
        unfold partB
        rw [if_neg (show ¬ (r.app b).k = 1 from k1), if_pos (show (r.app b).k = 2 from k2), hrun, hrun2, if_neg (show ¬ (Rr.app { r with m := r.m.more (Ck.run r.c r.buf).d, c := (Ck.run r.c r.buf).k, buf := [] } b).k = 1 from k1), if_pos (show (Rr.app { r with m := r.m.more (Ck.run r.c r.buf).d, c := (Ck.run r.c r.buf).k, buf := [] } b).k = 2 from k2), Ck.on_e, Ck.on_k, Ck.on_r]
        by_cases h3 : (Ck.run (Ck.run r.c r.buf).k b).e = 0
        · have hmm : (r.app b).m.more ((Ck.run (Ck.run r.c r.buf).k b).on (Ck.run r.c r.buf).d).d = (Rr.app { r with m := r.m.more (Ck.run r.c r.buf).d, c := (Ck.run r.c r.buf).k, buf := [] } b).m.more (Ck.run (Ck.run r.c r.buf).k b).d := by
            rw [Ck.on_d h3]; unfold Rr.app Ms.more; simp only [List.append_assoc]
          rw [hmm]; rfl
        · rw [if_pos h3, if_pos h3]; rfl
    · have e1 : partB r = (false, stopR r.a r.t (Ck.run r.c r.buf).e, []) := by
        unfold partB; rw [if_neg k1, if_pos k2, if_pos he]
      have e2 : partB (r.app b) = (false, stopR r.a r.t (Ck.run r.c r.buf).e, []) := by
        have hrun : Ck.run (r.app b).c (r.app b).buf = Ck.run r.c r.buf := Ck.run_app_bad _ _ b he
        unfold partB
        rw [if_neg (show ¬ (r.app b).k = 1 from k1), if_pos (show (r.app b).k = 2 from k2), hrun, if_pos he]; rfl
      rw [e1, e2]
      exact ⟨fun g => nope g, fun _ _ => rfl, fun _ g => absurd (show (((Ck.run r.c r.buf).e : Nat) : Int) = 0 from g) (by omega)⟩
  by_cases k3 : r.k = 3
  · by_cases hl : 20000 < r.m.b.length + r.buf.length
    · have e1 : partB r = (false, stopR r.a r.t 2, []) := by unfold partB; rw [if_neg k1, if_neg k2, if_pos k3, if_pos hl]
      have e2 : partB (r.app b) = (false, stopR r.a r.t 2, []) := by
        unfold partB
        rw [if_neg (show ¬ (r.app b).k = 1 from k1), if_neg (show ¬ (r.app b).k = 2 from k2), if_pos (show (r.app b).k = 3 from k3), if_pos]
        · rfl
        · unfold Rr.app; simp only [List.length_append]; omega
      rw [e1, e2]
      exact ⟨fun g => nope g, fun _ _ => rfl, fun _ g => absurd (show (2 : Int) = 0 from g) (by decide)⟩
    · have e1 : partB r = (false, { r with m := r.m.more r.buf, buf := [] }, []) := by unfold partB; rw [if_neg k1, if_neg k2, if_pos k3, if_neg hl]
      rw [e1]
      refine ⟨fun g => nope g, fun _ g => absurd h0 g, fun _ _ => ⟨rfl, hi, ?_⟩⟩
      unfold partB
      rw [if_neg (show ¬ (r.app b).k = 1 from k1), if_neg (show ¬ (r.app b).k = 2 from k2), if_pos (show (r.app b).k = 3 from k3)]
      rw [if_neg (show ¬ (Rr.app { r with m := r.m.more r.buf, buf := [] } b).k = 1 from k1), if_neg (show ¬ (Rr.app { r with m := r.m.more r.buf, buf := [] } b).k = 2 from k2), if_pos (show (Rr.app { r with m := r.m.more r.buf, buf := [] } b).k = 3 from k3)]
      have hcond : (20000 < (r.app b).m.b.length + (r.app b).buf.length) ↔ (20000 < (Rr.app { r with m := r.m.more r.buf, buf := [] } b).m.b.length + (Rr.app { r with m := r.m.more r.buf, buf := [] } b).buf.length) := by
        unfold Rr.app Ms.more; simp only [List.length_append, List.length_nil]; omega
      have hmm : (r.app b).m.more (r.app b).buf = (Rr.app { r with m := r.m.more r.buf, buf := [] } b).m.more (Rr.app { r with m := r.m.more r.buf, buf := [] } b).buf := by
        unfold Rr.app Ms.more; simp only [List.append_assoc, List.nil_append]
      rw [hmm]
      by_cases hx : 20000 < (r.app b).m.b.length + (r.app b).buf.length
      · rw [if_pos hx, if_pos (hcond.1 hx)]; rfl
      · rw [if_neg hx, if_neg (fun y => hx (hcond.2 y))]; rfl
  · have e1 : partB r = (true, fresh r.a r.t r.buf, [r.m]) := by unfold partB; rw [if_neg k1, if_neg k2, if_neg k3]
    have e2 : partB (r.app b) = (true, fresh r.a r.t (r.buf ++ b), [r.m]) := by
      unfold partB
      rw [if_neg (show ¬ (r.app b).k = 1 from k1), if_neg (show ¬ (r.app b).k = 2 from k2), if_neg (show ¬ (r.app b).k = 3 from k3)]; rfl
    rw [e1, e2]
    exact ⟨fun _ => rfl, fun g => nope g, fun g => nope g⟩

/-- The three things that a part may do, of bytes in pieces. -/
theorem part_app {r : Rr} (h : Mid r) (b : List UInt8) :
    ((part r).1 = true → part (r.app b) = (true, (part r).2.1.app b, (part r).2.2)) ∧
    ((part r).1 = false → (part r).2.1.e ≠ 0 → part (r.app b) = part r) ∧
    ((part r).1 = false → (part r).2.1.e = 0 → (part r).2.2 = [] ∧ part (r.app b) = part ((part r).2.1.app b)) := by
  cases hi : r.i
  · have hr := mid_eq h hi
    have e1 : part r = partH (fresh r.a r.t r.buf) := by rw [part_out hi, ← hr]
    have e2 : part (r.app b) = partH (fresh r.a r.t (r.buf ++ b)) := by
      rw [part_out (show (r.app b).i = false from hi)]
      conv => lhs; rw [hr]
      rw [fresh_app]
    rw [e1, e2]
    obtain ⟨p1, p2, p3⟩ := head_app r.a r.t r.buf b
    refine ⟨p1, p2, fun g g2 => ?_⟩
    obtain ⟨q1, q2, q3⟩ := p3 g g2
    refine ⟨q1, ?_⟩
    rw [q2, q3, fresh_app, part_out (show (fresh r.a r.t (lead r.a r.buf ++ b)).i = false from rfl)]
  · obtain ⟨p1, p2, p3⟩ := body_app h hi b
    rw [part_in hi, part_in (show (r.app b).i = true from hi)]
    refine ⟨p1, p2, fun g g2 => ?_⟩
    obtain ⟨q1, q2, q3⟩ := p3 g g2
    exact ⟨q1, by rw [q3, part_in (show ((partB r).2.1.app b).i = true from q2)]⟩

/-- What is left to do. -/
def mu (r : Rr) : Nat := 2 * r.buf.length + (if r.i then 1 else 0)
theorem part_mu {r : Rr} (h : Mid r) (g : (part r).1 = true) : mu (part r).2.1 < mu r := by
  cases hi : r.i
  · rw [part_out hi] at g ⊢
    rw [mid_eq h hi] at g ⊢
    rcases partH_three r.a r.t r.buf with ⟨n, h1, h2, h3, h4, h5, e⟩ | ⟨h1, h2, e⟩ | ⟨h1, h2, e⟩
    · rw [e] at g ⊢
      have hl := lead_le r.a r.buf
      unfold partO at g ⊢
      split at g
      · exact nope g
      · rename_i k1
        rw [if_neg k1]
        split
        · show 2 * ((lead r.a r.buf).drop n).length + 1 < 2 * r.buf.length + 0
          rw [List.length_drop]; omega
        · show 2 * ((lead r.a r.buf).drop n).length + 0 < 2 * r.buf.length + 0
          rw [List.length_drop]; omega
    · rw [e] at g; exact nope g
    · rw [e] at g; exact nope g
  · have hm : ∀ x : List UInt8, x.length ≤ r.buf.length → mu (fresh r.a r.t x) < mu r := by
      intro x hx
      unfold mu fresh; rw [hi]; simp; omega
    rw [part_in hi] at g ⊢
    unfold partB at g ⊢
    by_cases k1 : r.k = 1
    · rw [if_pos k1] at g ⊢
      split at g
      · rename_i hq
        rw [if_pos hq]
        exact hm _ (by rw [List.length_drop]; omega)
      · exact nope g
    rw [if_neg k1] at g ⊢
    by_cases k2 : r.k = 2
    · rw [if_pos k2] at g ⊢
      split at g
      · exact nope g
      · rename_i he
        rw [if_neg he]
        split at g
        · rename_i hd
          rw [if_pos hd]
          refine hm _ ?_
          obtain ⟨x, e1, -⟩ := Ck.run_part r.buf r.c (by simpa using he)
          have := congrArg List.length e1
          rw [List.length_append] at this; omega
        · exact nope g
    rw [if_neg k2] at g ⊢
    by_cases k3 : r.k = 3
    · rw [if_pos k3] at g
      split at g
      · exact nope g
      · exact nope g
    rw [if_neg k3]
    exact hm _ (Nat.le_refl _)

/-- Part behind part. -/
def goF : Nat → Rr → Rr × List Ms
  | 0, r => (r, [])
  | n + 1, r => if (part r).1 = true then ((goF n (part r).2.1).1, (part r).2.2 ++ (goF n (part r).2.1).2) else ((part r).2.1, (part r).2.2)
theorem goF_same : ∀ (n m : Nat) (r : Rr), Mid r → mu r < n → mu r < m → goF n r = goF m r
  | 0, _, r, _, h, _ => absurd h (by omega)
  | _, 0, r, _, _, h => absurd h (by omega)
  | n + 1, m + 1, r, hm, h, g => by
    rw [goF, goF]
    by_cases hp : (part r).1 = true
    · have := part_mu hm hp
      rw [if_pos hp, if_pos hp, goF_same n m _ (mid_part hm hp) (by omega) (by omega)]
    · rw [if_neg hp, if_neg hp]
def go (r : Rr) : Rr × List Ms := goF (mu r + 1) r
theorem go_end {r : Rr} (h : (part r).1 = false) : go r = ((part r).2.1, (part r).2.2) := by unfold go; rw [goF, if_neg (by rw [h]; decide)]
theorem go_on {r : Rr} (hm : Mid r) (h : (part r).1 = true) : go r = ((go (part r).2.1).1, (part r).2.2 ++ (go (part r).2.1).2) := by
  have := part_mu hm h
  unfold go
  rw [goF, if_pos h, goF_same (mu r) (mu (part r).2.1 + 1) _ (mid_part hm h) (by omega) (by omega)]

/-- WHAT IS READ IN TWO PIECES IS READ AS AT ONCE. -/
theorem go_cut : ∀ (n : Nat) (r : Rr), Mid r → mu r < n → ∀ b, go (r.app b) = if (go r).1.e ≠ 0 then go r else ((go ((go r).1.app b)).1, (go r).2 ++ (go ((go r).1.app b)).2)
  | 0, r, _, h, _ => absurd h (by omega)
  | n + 1, r, hm, h, b => by
    obtain ⟨p1, p2, p3⟩ := part_app hm b
    cases hp : (part r).1
    · by_cases he : (part r).2.1.e = 0
      · obtain ⟨q1, q2⟩ := p3 hp he
        rw [go_end hp]
        simp only
        rw [if_neg (by simpa using he), q1, List.nil_append]
        have e : goF (mu (r.app b) + mu ((part r).2.1.app b) + 1) (r.app b) = goF (mu (r.app b) + mu ((part r).2.1.app b) + 1) ((part r).2.1.app b) := by
          rw [goF, goF, q2]
        have hm2 : Mid ((part r).2.1.app b) := (mid_wait hm hp he).app b
        unfold go
        rw [goF_same (mu (r.app b) + 1) (mu (r.app b) + mu ((part r).2.1.app b) + 1) _ (hm.app b) (by omega) (by omega), e,
          goF_same (mu ((part r).2.1.app b) + 1) (mu (r.app b) + mu ((part r).2.1.app b) + 1) _ hm2 (by omega) (by omega)]
      · have e := p2 hp he
        rw [go_end hp]
        simp only
        rw [if_pos he, go_end (by rw [e]; exact hp), e]
    · have e := p1 hp
      have hlt := part_mu hm hp
      have hm2 := mid_part hm hp
      rw [go_on (hm.app b) (by rw [e]), e]
      simp only
      rw [go_cut n _ hm2 (by omega) b, go_on hm hp]
      simp only
      by_cases he : (go (part r).2.1).1.e = 0
      · rw [if_neg (by simpa using he), if_neg (by simpa using he), List.append_assoc]
      · rw [if_pos he, if_pos he]

end Go.Proofs.YtmpijlaidnhpnaaGreat
