/- How much a reader holds that may be. -/
import Derived.Test.YtmpijlaidnhpnaaGreatJXp
namespace Go.Proofs.YtmpijlaidnhpnaaGreat
set_option linter.unusedVariables false
set_option linter.unusedSimpArgs false
set_option maxRecDepth 100000

theorem rt_short {s : St} (h : rtB s = true) : Short s := by
  unfold rtB at h
  rw [Bool.and_eq_true] at h
  have h2 := h.2
  rw [Bool.or_eq_true] at h2
  have hz : ∀ x : ByteArray, x.data.toList = [] → x.size ≤ 10000 := fun x e => by
    have : x.size = x.data.toList.length := by simp
    rw [this, e]; exact Nat.zero_le _
  rcases h2 with g | g
  · unfold reqB at g
    simp only [Bool.and_eq_true, decide_eq_true_eq] at g
    obtain ⟨⟨⟨⟨-, h2⟩, h3⟩, -⟩, h5⟩ := g
    refine ⟨by omega, ?_, hz _ h2⟩
    have hs : s.t.size = s.t.data.toList.length := by simp
    unfold tgtL at h5
    rw [Bool.or_eq_true] at h5
    rcases h5 with h5 | h5
    · rw [hs, of_decide_eq_true h5]; decide
    · simp only [Bool.and_eq_true, decide_eq_true_eq] at h5
      rw [hs]; omega
  · unfold staB at g
    simp only [Bool.and_eq_true, decide_eq_true_eq] at g
    obtain ⟨⟨⟨-, h2⟩, h3⟩, h4⟩ := g
    refine ⟨hz _ h2, hz _ h3, ?_⟩
    have hs : s.r.size = s.r.data.toList.length := by simp
    unfold rsnL at h4
    simp only [Bool.and_eq_true, decide_eq_true_eq] at h4
    rw [hs]; omega

theorem ls2_less (y : Sy) : (ls2 y).2.1 ≤ 20000 := by
  by_cases h : 20000 < y.2.1
  · rw [ls2_no h]; exact Nat.zero_le _
  · rw [ls2_yes h]; omega
theorem lens_less (x : ByteArray) (r : List ByteArray) : (lensF x r).2.1 ≤ 20000 := by
  unfold lensF
  split
  · exact ls2_less _
  · exact Nat.zero_le _
theorem say_less (n : Int) (L : List Fd) : (sayF n L).2.1 ≤ 20000 := by
  unfold sayF
  split
  · split <;> exact Nat.zero_le _
  · cases allF lenS L with
    | nil => exact Nat.zero_le _
    | cons x r => exact lens_less x r
theorem else_less (n : Int) (L : List Fd) (k : Int) : (elseF (sayF n L) k).2.1 ≤ 20000 := by
  unfold elseF
  split
  · show (0 : Int) ≤ 20000; decide
  · have := say_less n L
    show ((sayF n L).2.1 : Int) ≤ 20000; omega
theorem lg_right {a : Bool} {t : ByteArray} {s : St} {L : List Fd} {k z : Int} (h : lgF a t s L = (k, z, 0)) : rtB s = true ∧ rightF L = true ∧ z ≤ 20000 ∧ decide (s.c = 0) = a := by
  unfold lgF at h
  cases a
  · rw [if_neg (by decide)] at h
    unfold ansF at h
    split at h
    · rename_i g
      simp only [Bool.and_eq_true, Bool.not_eq_true'] at g
      refine ⟨g.1.1, g.1.2, ?_, g.2⟩
      split at h
      · injection h with _ h; injection h with h _; omega
      · have := else_less s.n L 3
        rw [h] at this; exact this
    · injection h with _ h; injection h with _ h; exact absurd h (by decide)
  · rw [if_pos rfl] at h
    unfold reqF at h
    split at h
    · rename_i g
      simp only [Bool.and_eq_true] at g
      refine ⟨g.1.1, g.1.2, ?_, g.2⟩
      have := else_less s.n L 0
      rw [h] at this; exact this
    · injection h with _ h; injection h with _ h; exact absurd h (by decide)

/-- What a reader holds is short. -/
structure Lim (r : Rr) : Prop where
  s : Short r.m.s
  l : r.m.L.length ≤ 40
  f : Sh r.m.L
  b : r.m.b.length ≤ 20000
  c : r.c.line.size ≤ 200
  u : r.buf.length ≤ 4000
theorem short_no : Short Ms.no.s := ⟨by decide, by decide, by decide⟩
theorem sh_nil : Sh [] := fun f hf => absurd hf (by simp)
theorem lim_of {r : Rr} (h : rgB r = true) (hS : Sh r.m.L) : Lim r := by
  by_cases he : r.e = 0
  · have hw := wait_rg h he
    cases hi : r.i
    · obtain ⟨h1, -, -, h4⟩ := hw.mid.out hi
      have h5 := hw.out hi
      refine ⟨?_, ?_, hS, ?_, ?_, h5⟩
      · rw [h1]; exact short_no
      · rw [h1]; exact Nat.zero_le _
      · rw [h1]; exact Nat.zero_le _
      · rw [h4]; exact Nat.zero_le _
    · obtain ⟨h1, h2⟩ := hw.mid.inn hi
      obtain ⟨h3, h4, -⟩ := hw.inn hi
      obtain ⟨g1, g2, g3, -⟩ := lg_right h1
      have hb : r.m.b.length ≤ 20000 ∧ r.c.line.size ≤ 200 := by
        rcases h4 with k | k | k
        · obtain ⟨q1, q2⟩ := h2.one k
          exact ⟨by omega, by rw [q2]; exact Nat.zero_le _⟩
        · obtain ⟨q1, q2, q3⟩ := h2.two k
          have := q1.z1
          exact ⟨by omega, q1.ln⟩
        · obtain ⟨q1, q2⟩ := h2.tri k
          exact ⟨q1, by rw [q2]; exact Nat.zero_le _⟩
      exact ⟨rt_short g1, small_le g2, hS, hb.1, hb.2, by rw [h3]; exact Nat.zero_le _⟩
  · rw [stop_rg h he]
    exact ⟨short_no, Nat.zero_le _, sh_nil, Nat.zero_le _, Nat.zero_le _, Nat.zero_le _⟩

theorem hh_sh {a : Bool} {t : ByteArray} {l : List UInt8} : Sh (hhF a t l).L := by
  unfold hhF
  split
  · exact sh_nil
  · split
    · exact sh_nil
    · intro f hf
      have := (Hd.ps_all (resL l)).2.2.2 f hf
      exact ⟨by omega, by omega⟩
theorem none_40 : ∀ m ∈ ([] : List Ms), m.L.length ≤ 40 := fun m h => absurd h (by simp)
theorem one_40 {x : Ms} (h : x.L.length ≤ 40) : ∀ m ∈ [x], m.L.length ≤ 40 := fun m g => by rw [List.mem_singleton] at g; rw [g]; exact h
theorem part_sh {r : Rr} (hm : Mid r) (hS : Sh r.m.L) : Sh (part r).2.1.m.L ∧ ∀ m ∈ (part r).2.2, m.L.length ≤ 40 := by
  cases hi : r.i
  · rw [part_out hi, mid_eq hm hi]
    have hn : ∀ q : Rr × List Ms, q.2 = [] → ∀ m ∈ q.2, m.L.length ≤ 40 := fun q e m h => by rw [e] at h; exact absurd h (by simp)
    rcases partH_three r.a r.t r.buf with ⟨n, h1, h2, h3, h4, h5, e⟩ | ⟨h1, h2, e⟩ | ⟨h1, h2, e⟩
    · rw [e]
      unfold partO
      split
      · exact ⟨sh_nil, fun m h => absurd h (by simp)⟩
      · split
        · exact ⟨hh_sh, fun m h => absurd h (by simp)⟩
        · exact ⟨sh_nil, fun m h => absurd h (by simp)⟩
    · rw [e]; exact ⟨sh_nil, fun m h => absurd h (by simp)⟩
    · rw [e]; exact ⟨sh_nil, fun m h => absurd h (by simp)⟩
  · have hl : r.m.L.length ≤ 40 := small_le (lg_right (hm.inn hi).1).2.1
    rw [part_in hi]
    unfold partB
    repeat' split
    all_goals first
      | exact ⟨sh_nil, none_40⟩
      | exact ⟨hS, none_40⟩
      | exact ⟨sh_nil, one_40 hl⟩
theorem goF_sh : ∀ (n : Nat) (r : Rr), Mid r → Sh r.m.L → Sh (goF n r).1.m.L ∧ ∀ m ∈ (goF n r).2, m.L.length ≤ 40
  | 0, r, _, h => ⟨h, fun m h => absurd h (by simp [goF])⟩
  | n + 1, r, hm, h => by
    have hp := part_sh hm h
    rw [goF]
    by_cases hq : (part r).1 = true
    · rw [if_pos hq]
      have ih := goF_sh n _ (mid_part hm hq) hp.1
      refine ⟨ih.1, fun m hmm => ?_⟩
      rcases List.mem_append.1 hmm with g | g
      · exact hp.2 m g
      · exact ih.2 m g
    · rw [if_neg hq]; exact hp
theorem fd_sh {r : Rr} (h : rgB r = true) (hS : Sh r.m.L) (s : List UInt8) : Sh (fdG r s).1.m.L ∧ ∀ m ∈ (fdG r s).2, m.L.length ≤ 40 := by
  unfold fdG
  by_cases he : r.e = 0
  · rw [if_neg (by simpa using he)]
    exact goF_sh _ _ ((wait_rg h he).mid.app s) hS
  · rw [if_pos he]
    exact ⟨hS, fun m h => absurd h (by simp)⟩
theorem fd_lim {r : Rr} (h : rgB r = true) (hS : Sh r.m.L) (s : List UInt8) : Lim (fdG r s).1 := lim_of (fd_right h s) (fd_sh h hS s).1

end Go.Proofs.YtmpijlaidnhpnaaGreat
