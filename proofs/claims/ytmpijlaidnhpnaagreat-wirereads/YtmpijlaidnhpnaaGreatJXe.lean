/- The walks of what takes a body, and of what reads one on. -/
import Derived.Test.YtmpijlaidnhpnaaGreatJXd
import Derived.Test.YtmpijlaidnhpnaaGreatJGf
import Derived.Laws.AppendOwn
namespace Go.Proofs.YtmpijlaidnhpnaaGreat
set_option linter.unusedVariables false
set_option linter.unusedSimpArgs false
set_option maxRecDepth 100000
open Go.RowKit Ck

theorem say_small {n : Int} {L : List Fd} (h : (sayF n L).2.2 = 0) : (sayF n L).2.1 ≤ 20000 := by
  unfold sayF at h ⊢
  split at h
  · rename_i h1
    rw [if_pos h1]
    split at h
    · exact absurd h (by decide)
    · rename_i h2; rw [if_neg h2]; exact Nat.zero_le _
  · rename_i h1
    rw [if_neg h1]
    cases hA : allF lenS L with
    | nil => exact Nat.zero_le _
    | cons x q =>
      rw [hA] at h
      replace h : (lensF x q).2.2 = 0 := h
      show (lensF x q).2.1 ≤ 20000
      unfold lensF at h ⊢
      split at h
      · rename_i h2
        rw [if_pos h2]
        unfold ls2 at h ⊢
        split at h
        · exact absurd h (by decide)
        · rename_i h3; rw [if_neg h3]; omega
      · exact absurd h (by decide)
theorem else_small {n : Int} {L : List Fd} {k : Int} (h : (elseF (sayF n L) k).2.2 = 0) : (elseF (sayF n L) k).2.1 ≤ 20000 := by
  unfold elseF at h ⊢
  split at h
  · rename_i h1; rw [if_pos h1]; show (0 : Int) ≤ 20000; decide
  · rename_i h1
    rw [if_neg h1]
    have := say_small (n := n) (L := L) (by simpa using h)
    show ((sayF n L).2.1 : Int) ≤ 20000
    omega
theorem lg_small {a : Bool} {t : ByteArray} {s : St} {L : List Fd} {k z : Int} (h : lgF a t s L = (k, z, 0)) : 0 ≤ z ∧ z ≤ 20000 := by
  have h0 := lg_nonneg a t s L
  rw [h] at h0
  refine ⟨h0, ?_⟩
  unfold lgF at h
  split at h
  · unfold reqF at h
    split at h
    · have := else_small (n := s.n) (L := L) (k := 0) (by rw [h])
      rw [h] at this; exact this
    · injection h with h1 h2; injection h2 with h2 h3; exact absurd h3 (by decide)
  · unfold ansF at h
    split at h
    · split at h
      · injection h with h1 h2; injection h2 with h2 h3; rw [← h2]; decide
      · have := else_small (n := s.n) (L := L) (k := 3) (by rw [h])
        rw [h] at this; exact this
    · injection h with h1 h2; injection h2 with h2 h3; exact absurd h3 (by decide)

/-- What takeBody tells and leaves. -/
def tbF (r : Rr) : Bool × Int × Rr :=
  if r.k = 1 then (decide ((r.m.b.length + cnt r : Int) = r.z), 0, { r with m := r.m.more (r.buf.take (cnt r)), buf := r.buf.drop (cnt r) })
  else if r.k = 2 then
    if (Ck.run r.c r.buf).e ≠ 0 then (false, (Ck.run r.c r.buf).e, r)
    else (decide ((Ck.run r.c r.buf).k.st = 4), 0, { r with m := r.m.more (Ck.run r.c r.buf).d, c := (Ck.run r.c r.buf).k, buf := (Ck.run r.c r.buf).r })
  else if r.k = 3 then
    if 20000 < r.m.b.length + r.buf.length then (false, 2, r) else (false, 0, { r with m := r.m.more r.buf, buf := [] })
  else (true, 0, r)
theorem tb_part (r : Rr) : partB r = if (tbF r).2.1 ≠ 0 then (false, stopR r.a r.t (tbF r).2.1, []) else if (tbF r).1 = true then (true, fresh r.a r.t (tbF r).2.2.buf, [(tbF r).2.2.m]) else (false, (tbF r).2.2, []) := by
  unfold partB tbF
  by_cases k1 : r.k = 1
  · rw [if_pos k1, if_pos k1]
    by_cases hq : (r.m.b.length + cnt r : Int) = r.z
    · rw [if_pos hq, decide_eq_true hq]; rfl
    · rw [if_neg hq, decide_eq_false hq]; rfl
  rw [if_neg k1, if_neg k1]
  by_cases k2 : r.k = 2
  · rw [if_pos k2, if_pos k2]
    by_cases he : (Ck.run r.c r.buf).e = 0
    · rw [if_neg (not_not_intro he), if_neg (not_not_intro he)]
      by_cases hd : (Ck.run r.c r.buf).k.st = 4
      · rw [if_pos hd, decide_eq_true hd]; rfl
      · rw [if_neg hd, decide_eq_false hd]; rfl
    · rw [if_pos he, if_pos he, if_pos (by simpa using he)]
  rw [if_neg k2, if_neg k2]
  by_cases k3 : r.k = 3
  · rw [if_pos k3, if_pos k3]
    by_cases hq : 20000 < r.m.b.length + r.buf.length
    · rw [if_pos hq, if_pos hq]; rfl
    · rw [if_neg hq, if_neg hq]; rfl
  · rw [if_neg k3, if_neg k3]; rfl
theorem tb_at (r : Rr) : (tbF r).2.2.a = r.a ∧ (tbF r).2.2.t = r.t ∧ (tbF r).2.2.m.L = r.m.L ∧ (tbF r).2.2.buf.length ≤ r.buf.length := by
  unfold tbF
  split
  · exact ⟨rfl, rfl, rfl, by show (r.buf.drop _).length ≤ _; rw [List.length_drop]; omega⟩
  · split
    · split
      · exact ⟨rfl, rfl, rfl, Nat.le_refl _⟩
      · rename_i he
        refine ⟨rfl, rfl, rfl, ?_⟩
        obtain ⟨x, e1, -⟩ := Ck.run_part r.buf r.c (by simpa using he)
        have := congrArg List.length e1
        rw [List.length_append] at this
        show (Ck.run r.c r.buf).r.length ≤ _
        omega
    · split
      · split
        · exact ⟨rfl, rfl, rfl, Nat.le_refl _⟩
        · exact ⟨rfl, rfl, rfl, Nat.zero_le _⟩
      · exact ⟨rfl, rfl, rfl, Nat.le_refl _⟩

theorem takeBody_any (r : Rr) (v u : Value) (N : Nat) (w : World) (h : Blk w N 58 (r.gs v u)) (hm : Mid r) (hi : r.i = true) (hbl : r.buf.length ≤ 100000) :
    Calls Tryz.prog 59 #[.pointer (some ⟨N, 0, none⟩)] w fun en w' => en = .returned (.tuple #[.bool (tbF r).1, .int .i64 (tbF r).2.1]) ∧ Blk w' N 58 ((tbF r).2.2.gs v u) ∧ w.grownBy w' (some N) := by
  obtain ⟨hl, hs⟩ := hm.inn hi
  obtain ⟨hz0, hz1⟩ := lg_small hl
  have c11 : w.cell? ⟨N, 11, none⟩ = some (.int .i64 r.k) := h.cell 11 _ rfl
  have hO := only_refl w N
  by_cases k1 : r.k = 1
  · have HT : Hid (tbF r = (decide ((r.m.b.length + cnt r : Int) = r.z), 0, { r with m := r.m.more (r.buf.take (cnt r)), buf := r.buf.drop (cnt r) })) := by unfold Hid tbF; rw [if_pos k1]
    have hc := sized_any r v u N w h (hs.one k1).1 hz1 (by omega)
    rw [k1] at c11
    rw [HT.out]
    generalize decide ((r.m.b.length + cnt r : Int) = r.z) = B at hc ⊢
    clear HT h hm hi hl hs hz0 hz1 k1
    go_enter Tryz.func59, Tryz.ntmps59
    go_wp2_with fail
    refine hc.mono ?_
    rintro en w1 ⟨rfl, hb1, ho1⟩
    go_wp2_with fail
    go_ret2
    exact ⟨rfl, hb1, ho1⟩
  have k1b : (r.k == 1) = false := by simpa using k1
  by_cases k2 : r.k = 2
  · obtain ⟨g1, g2, g3⟩ := hs.two k2
    have hg3 := g1.z1
    by_cases he : (Ck.run r.c r.buf).e = 0
    · have HT : Hid (tbF r = (decide ((Ck.run r.c r.buf).k.st = 4), 0, { r with m := r.m.more (Ck.run r.c r.buf).d, c := (Ck.run r.c r.buf).k, buf := (Ck.run r.c r.buf).r })) := by unfold Hid tbF; rw [if_neg k1, if_pos k2, if_neg (not_not_intro he)]
      have hc := chunks_good r v u N w h g1 (by omega) (by omega) he
      rw [k2] at c11
      rw [HT.out]
      generalize decide ((Ck.run r.c r.buf).k.st = 4) = B at hc ⊢
      clear HT h hm hi hl hs hz0 hz1 k1 k2 k1b he g1 g2 g3 hg3
      go_enter Tryz.func59, Tryz.ntmps59
      go_wp2_with fail
      refine hc.mono ?_
      rintro en w1 ⟨rfl, hb1, ho1⟩
      go_wp2_with fail
      go_ret2
      exact ⟨rfl, hb1, ho1⟩
    · have HT : Hid (tbF r = (false, ((Ck.run r.c r.buf).e : Int), r)) := by unfold Hid tbF; rw [if_neg k1, if_pos k2, if_pos he]
      have hc := chunks_bad r v u N w h g1 (by omega) he
      rw [k2] at c11
      rw [HT.out]
      have HH := hide h
      generalize (((Ck.run r.c r.buf).e : Nat) : Int) = E at hc ⊢
      clear HT h hm hi hl hs hz0 hz1 k1 k2 k1b he g1 g2 g3 hg3
      go_enter Tryz.func59, Tryz.ntmps59
      go_wp2_with fail
      refine hc.mono ?_
      rintro en w1 ⟨rfl, hb1⟩
      go_wp2_with fail
      go_ret2
      exact ⟨rfl, HH.out.below hb1, only_below hO hb1⟩
  have k2b : (r.k == 2) = false := by simpa using k2
  by_cases k3 : r.k = 3
  · have h3 := (hs.tri k3).1
    by_cases hq : 20000 < r.m.b.length + r.buf.length
    · have HT : Hid (tbF r = (false, 2, r)) := by unfold Hid tbF; rw [if_neg k1, if_neg k2, if_pos k3, if_pos hq]
      have hc := all_bad r v u N w h h3 hq (by omega)
      rw [k3] at c11
      rw [HT.out]
      have HH := hide h
      clear HT h hm hi hl hs hz0 hz1 k1 k2 k3 k1b k2b hq h3
      go_enter Tryz.func59, Tryz.ntmps59
      go_wp2_with fail
      refine hc.mono ?_
      rintro en w1 ⟨rfl, hb1⟩
      go_wp2_with fail
      go_ret2
      exact ⟨rfl, HH.out.below hb1, only_below hO hb1⟩
    · have HT : Hid (tbF r = (false, 0, { r with m := r.m.more r.buf, buf := [] })) := by unfold Hid tbF; rw [if_neg k1, if_neg k2, if_pos k3, if_neg hq]
      have hc := all_good r v u N w h (by omega)
      rw [k3] at c11
      rw [HT.out]
      clear HT h hm hi hl hs hz0 hz1 k1 k2 k3 k1b k2b hq h3
      go_enter Tryz.func59, Tryz.ntmps59
      go_wp2_with fail
      refine hc.mono ?_
      rintro en w1 ⟨rfl, hb1, ho1⟩
      go_wp2_with fail
      go_ret2
      exact ⟨rfl, hb1, ho1⟩
  · have HT : Hid (tbF r = (true, 0, r)) := by unfold Hid tbF; rw [if_neg k1, if_neg k2, if_neg k3]
    have k3b : (r.k == 3) = false := by simpa using k3
    rw [HT.out]
    have HH := hide h
    obtain ⟨K, hK⟩ : ∃ K, r.k = K := ⟨_, rfl⟩
    rw [hK] at c11 k1b k2b k3b
    clear HT h hm hi hl hs hz0 hz1 k1 k2 k3 hK
    go_enter Tryz.func59, Tryz.ntmps59
    go_wp2_with fail
    go_ret2
    exact ⟨rfl, HH.out, hO⟩

end Go.Proofs.YtmpijlaidnhpnaaGreat
