/- What is written is read back, by plain reckoning. How much a reader holds that may be. The walk of WireStops. WireStops returns true for every two texts that can be handed in, and leaves its arguments as they were. The condition that its card bears: the listed tables of the library hold what their initialisers lay. -/
import Derived.Test.YtmpijlaidnhpnaaGreatDoorJYp
import Derived.Test.YtmpijlaidnhpnaaGreatDoorJXp
import Derived.Test.YtmpijlaidnhpnaaGreatDoorJYq
import Derived.Test.YtmpijlaidnhpnaaGreatDoorJYf
import Derived.Test.YtmpijlaidnhpnaaGreatDoorRows
import Derived.Test.YtmpijlaidnhpnaaGreatDoorCards
import Derived.Test.YtmpijlaidnhpnaaGreatDoorTie
import Derived.Test.YtmpijlaidnhpnaaGreatDoorJOp
import Derived.ProofKit
import Derived.LaidMore
import Derived.OpenShut
import Derived.ShutString
import Derived.ChangeOld
import Derived.Below
import Derived.Stop.Joined
import Derived.Lib.SmallJoins
import Derived.SevenTiedAt
namespace Go.Proofs.YtmpijlaidnhpnaaGreatDoor
set_option linter.unusedVariables false
set_option linter.unusedSimpArgs false
set_option maxRecDepth 100000

theorem ten_free {s : St} (h : rtB s = true) : (10 : UInt8) ∉ Sr.wrL s ∧ Sr.wrL s ≠ [] := by
  have hv : (10 : UInt8) ∉ Sr.verN s.n := by
    rcases rt_minor h with e | e
    · rw [e, Sr.verN_zero]; decide
    · rw [e, Sr.verN_one]; decide
  by_cases hc : s.c = 0
  · have q := rt_req h hc
    rw [Sr.wr_req hc]
    have h1 := tok_free (c := 10) q.k (by decide)
    have h2 : (10 : UInt8) ∉ s.t.data.toList := by
      have := q.t
      unfold tgtL at this
      rw [Bool.or_eq_true, Bool.and_eq_true] at this
      rcases this with g | g
      · rw [of_decide_eq_true g]; decide
      · exact all_free g.2 (by decide)
    refine ⟨?_, by simp⟩
    intro hm
    rcases List.mem_append.1 hm with g | g
    · exact h1 g
    rcases List.mem_cons.1 g with g | g
    · exact absurd g (by decide)
    rcases List.mem_append.1 g with g | g
    · exact h2 g
    rcases List.mem_cons.1 g with g | g
    · exact absurd g (by decide)
    · exact hv g
  · have q := rt_sta h hc
    rw [Sr.wr_sta hc]
    have h1 : (10 : UInt8) ∉ dgs 10 (by omega) s.c.toNat := by
      intro hm
      have := List.all_eq_true.1 (dgs_okay (b := 10) (by omega) (by omega) s.c.toNat) 10 hm
      revert this
      decide
    have h2 : (10 : UInt8) ∉ s.r.data.toList := by
      have := q.r
      unfold rsnL at this
      rw [Bool.and_eq_true, Bool.and_eq_true] at this
      exact all_free this.1.2 (by decide)
    refine ⟨?_, by simp⟩
    intro hm
    rcases List.mem_append.1 hm with g | g
    · exact hv g
    rcases List.mem_cons.1 g with g | g
    · exact absurd g (by decide)
    rcases List.mem_append.1 g with g | g
    · exact h1 g
    rcases List.mem_cons.1 g with g | g
    · exact absurd g (by decide)
    · exact h2 g

/-- A head. -/
def hdW (s : St) (L : List Fd) : List UInt8 := (Sr.wrL s ++ [13]) ++ 10 :: (Hd.wrL L ++ [13, 10])
theorem hd_len (s : St) (L : List Fd) : (hdW s L).length = (Sr.wrL s).length + 2 + (Hd.wrL L).length + 2 := by unfold hdW; simp; omega
theorem hd_line {s : St} (h : rtB s = true) : ∀ d ∈ Sr.wrL s ++ [13], Hd.neB 10 d = true := by
  intro d hd
  rcases List.mem_append.1 hd with g | g
  · have : d ≠ 10 := fun e => (ten_free h).1 (e ▸ g)
    simpa [Hd.neB] using this
  · rw [List.mem_singleton.1 g]; decide
theorem hd_en {s : St} {L : List Fd} (h : rtB s = true) (hr : rightF L = true) (hl : (hdW s L).length ≤ 4000) (y : List UInt8) : Hd.enU (hdW s L ++ y) = ((((hdW s L).length : Nat) : Int), 0) := by
  have hlen := hd_len s L
  have e : hdW s L ++ y = (Sr.wrL s ++ [13]) ++ 10 :: (Hd.wrL L ++ (13 :: 10 :: y)) := by simp [hdW]
  have hm : ∀ f ∈ L, mayF f = true := by
    unfold rightF at hr
    rw [Bool.and_eq_true] at hr
    exact List.all_eq_true.1 hr.2
  rw [e, Hd.en_er, Hd.lns_line (hd_line h), Hd.erA, Hd.bareL_snoc, if_neg (by simp; omega), if_neg (by simpa using (ten_free h).2), Hd.er_wr _ hm _ _ (by simp; omega), show (13 :: 10 :: y : List UInt8) = [13] ++ 10 :: y from rfl, Hd.lns_line (by decide), Hd.erA,
    if_neg (by simp; omega), if_pos (show (Hd.bareL [13]).isEmpty = true by decide), hlen]
  simp; omega
theorem hd_fir {s : St} {L : List Fd} (h : rtB s = true) : firL (hdW s L) = Sr.wrL s := by
  unfold firL hdW
  rw [List.takeWhile_append_of_pos (hd_line h), List.takeWhile_cons, if_neg (by decide), List.append_nil, Hd.bareL_snoc]
theorem hd_res {s : St} {L : List Fd} (h : rtB s = true) : resL (hdW s L) = Hd.wrL L := by
  unfold resL
  have e1 : (hdW s L).drop (Hd.atN 10 (hdW s L) + 1) = Hd.wrL L ++ [13, 10] := by
    unfold hdW
    rw [Hd.atN_line (hd_line h), show (Sr.wrL s ++ [13]) ++ 10 :: (Hd.wrL L ++ [13, 10]) = (Sr.wrL s ++ [13, 10]) ++ (Hd.wrL L ++ [13, 10]) by simp]
    exact List.drop_left' (by simp)
  rw [e1]
  have e2 : Hd.wrL L ++ [13, 10] = (Hd.wrL L ++ [13]) ++ [10] := by simp
  unfold chopL
  rw [e2, if_pos (by simp), List.dropLast_concat, Hd.bareL_snoc]
theorem hd_fi {s : St} (h : rtB s = true) : fiU (decide (s.c = 0)) (Sr.wrL s) = s := by
  have e : Ck.bs (Sr.wrL s) = Sr.wrS s := rfl
  unfold fiU
  by_cases hc : s.c = 0
  · rw [decide_eq_true hc, if_pos rfl, e, Sr.back_req h hc]
  · rw [decide_eq_false hc, if_neg (by decide), e, Sr.back_sta h hc]
theorem hd_lg {s : St} {L : List Fd} {t : ByteArray} {y : Sy} (h : rtB s = true) (hr : rightF L = true) (hb : s.c = 0 ∨ bareB s.c = false) (ht : (t.toList == hdL) = false) (hy : sayF s.n L = y) (h0 : y ≠ (0, 0, 0)) :
    lgF (decide (s.c = 0)) t s L = ((y.1 : Int), (y.2.1 : Int), (y.2.2 : Int)) := by
  unfold lgF
  by_cases hc : s.c = 0
  · rw [decide_eq_true hc, if_pos rfl]
    unfold reqF
    rw [if_pos (by rw [h, hr, decide_eq_true hc]; rfl), hy, else_yes h0]
  · have hb' : bareB s.c = false := by rcases hb with e | e; exact absurd e hc; exact e
    rw [decide_eq_false hc, if_neg (by decide)]
    unfold ansF
    rw [if_pos (by rw [h, hr, decide_eq_false hc]; rfl), if_neg (by rw [hb', ht]; decide), hy, else_yes h0]
theorem hd_hh {s : St} {L : List Fd} {t : ByteArray} {y : Sy} (h : rtB s = true) (hr : rightF L = true) (hl : (Hd.wrL L).length ≤ 4000) (hb : s.c = 0 ∨ bareB s.c = false) (ht : (t.toList == hdL) = false) (hy : sayF s.n L = y) (h0 : y ≠ (0, 0, 0)) (he : y.2.2 = 0) :
    hhF (decide (s.c = 0)) t (hdW s L) = ⟨0, s, L, (y.1 : Int), (y.2.1 : Int)⟩ := by
  have e1 : fiU (decide (s.c = 0)) (firL (hdW s L)) = s := by rw [hd_fir h, hd_fi h]
  have e2 : Hd.psU (resL (hdW s L)) = (L, 0) := by rw [hd_res h, Hd.ps_wr hr hl]
  rw [hh_all (by rw [e1]; exact h) (by rw [e2]), e1, e2]
  simp only
  rw [hd_lg h hr hb ht hy h0, he]; rfl
theorem hd_lead {s : St} {L : List Fd} (h : rtB s = true) (a : Bool) (y : List UInt8) : lead a (hdW s L ++ y) = hdW s L ++ y := by
  unfold lead
  cases a
  · rfl
  · rw [if_pos rfl]
    obtain ⟨h1, h2⟩ := ten_free h
    refine sk_stay ?_
    unfold hdW
    cases hw : Sr.wrL s with
    | nil => exact absurd hw h2
    | cons c r =>
      rw [hw] at h1
      have hc : c ≠ 10 := fun e => h1 (by rw [e]; simp)
      cases r with
      | nil => simp [emB, hc]
      | cons d q =>
        have hd : d ≠ 10 := fun e => h1 (by rw [e]; simp)
        simp [emB, hc, hd]
theorem hd_part {s : St} {L : List Fd} {t : ByteArray} {y : Sy} (h : rtB s = true) (hr : rightF L = true) (hl : (hdW s L).length ≤ 4000) (hb : s.c = 0 ∨ bareB s.c = false) (ht : (t.toList == hdL) = false) (hy : sayF s.n L = y) (h0 : y ≠ (0, 0, 0)) (he : y.2.2 = 0) (x : List UInt8) :
    part (fresh (decide (s.c = 0)) t (hdW s L ++ x)) = (true, ⟨decide (s.c = 0), t, x, true, ⟨s, L, []⟩, (y.1 : Int), (y.2.1 : Int), Ck.k0, 0⟩, []) := by
  have hlen := hd_len s L
  have hh := hd_hh h hr (by omega) hb ht hy h0 he
  rw [part_out rfl]
  rcases partH_three (decide (s.c = 0)) t (hdW s L ++ x) with ⟨n, h1, h2, h3, h4, h5, e⟩ | ⟨h1, h2, e⟩ | ⟨h1, h2, e⟩
  · rw [hd_lead h, hd_en h hr hl] at h4
    have hn : (hdW s L).length = n := by injection h4 with h4 _; omega
    rw [e, hd_lead h, ← hn, List.take_left, List.drop_left]
    unfold partO
    have hor : decide (s.c = 0) = true ∨ 200 ≤ s.c := by
      rcases hb with g | g
      · exact Or.inl (decide_eq_true g)
      · right
        unfold bareB at g
        simp only [Bool.or_eq_false_iff, decide_eq_false_iff_not] at g
        omega
    rw [hh, if_neg (fun e => e rfl), if_pos hor]
  · rw [hd_lead h, hd_en h hr hl] at h1
    injection h1 with _ h1; exact absurd h1 (by decide)
  · rw [hd_lead h, hd_en h hr hl] at h1
    injection h1 with _ h1; exact absurd h1 (by decide)
theorem part_none (a : Bool) (t : ByteArray) : part (fresh a t []) = (false, fresh a t [], []) := by
  cases a <;> rfl
theorem go_none (a : Bool) (t : ByteArray) : go (fresh a t []) = (fresh a t [], []) := by rw [go_end (by rw [part_none]), part_none]

/-- What Write tells, where it tells no error. -/
theorem wm_okay {m : Ms} {c : Bool} (h : wmE m c = 0) : rtB m.s = true ∧ rightF m.L = true ∧ m.b.length ≤ 20000 ∧ wmD m c = 0 ∧ (Hd.wrL (wmL m c)).length ≤ 4000 ∧ wmS m c = wmT m c := by
  have hS : wmS m c = wmT m c := by unfold wmS; rw [if_pos h]
  unfold wmE at h
  split at h
  · rename_i g
    simp only [Bool.and_eq_true, decide_eq_true_eq] at g
    unfold wmF at h
    split at h
    · rename_i q; exact absurd h (by omega)
    · rename_i q
      split at h
      · exact absurd h (by decide)
      · exact ⟨g.1.1, g.1.2, g.2, by omega, by omega, hS⟩
  · exact absurd h (by decide)
theorem wmT_list (m : Ms) (c : Bool) : (wmT m c).data.toList = hdW m.s (wmL m c) ++ (wmB m c).data.toList := by
  unfold wmT hdW
  simp [ByteArray.data_append, Sr.wrS_list, Hd.bs_list]
theorem wmB_list (m : Ms) (c : Bool) : (wmB m c).data.toList = if c then Ck.encL m.b ++ Ck.endL else m.b := by
  unfold wmB
  cases c
  · rw [if_neg (by decide), if_neg (by decide), Ck.bs_list]
  · rw [if_pos rfl, if_pos rfl]
    simp [ByteArray.data_append, Ck.encS_list, Ck.bs_list, Ck.endL]
/-- WHAT IS WRITTEN IS READ AGAIN. -/
theorem back_go {m : Ms} {c : Bool} {t : ByteArray} (hE : wmE m c = 0) (hl : (hdW m.s (wmL m c)).length ≤ 4000) (hb : m.s.c = 0 ∨ bareB m.s.c = false) (hn : c = true → m.s.n ≠ 0) (ht : (t.toList == hdL) = false) :
    fdG (fresh (decide (m.s.c = 0)) t []) (wmT m c).data.toList = (fresh (decide (m.s.c = 0)) t [], [⟨m.s, wmL m c, m.b⟩]) := by
  obtain ⟨h1, h2, h3, h4, h5, -⟩ := wm_okay hE
  obtain ⟨-, z0, z1, -, -, r1, -, y1, y2, -⟩ := wi_okay (show wiE m.L (wmK c) (wmZ m c) = 0 from h4)
  change rightF (wmL m c) = true at r1
  rw [wmT_list, wmB_list]
  generalize hL : wmL m c = L at hl r1 ⊢
  generalize ha : decide (m.s.c = 0) = a
  unfold fdG
  rw [if_neg (show ¬ (fresh a t []).e ≠ 0 from fun e => e rfl), fresh_app, List.nil_append]
  have hmid := fun x => mid_fresh a t x
  cases c
  · have hy : sayF m.s.n L = (1, m.b.length, 0) := by
      have := y1 rfl m.s.n
      change sayF m.s.n (wmL m false) = _ at this
      rw [hL] at this
      simpa [wmZ] using this
    have hp := hd_part h1 r1 hl hb ht hy (by simp) rfl m.b
    rw [ha] at hp
    rw [if_neg (by decide), go_on (hmid _) (by rw [hp]), hp]
    simp only
    have hmid2 : Mid (⟨a, t, m.b, true, ⟨m.s, L, []⟩, 1, (m.b.length : Int), Ck.k0, 0⟩ : Rr) := by
      have := mid_part (hmid (hdW m.s L ++ m.b)) (by rw [hp])
      rwa [hp] at this
    have hq : part (⟨a, t, m.b, true, ⟨m.s, L, []⟩, 1, (m.b.length : Int), Ck.k0, 0⟩ : Rr) = (true, fresh a t [], [⟨m.s, L, m.b⟩]) := by
      have hc : cnt (⟨a, t, m.b, true, ⟨m.s, L, []⟩, 1, (m.b.length : Int), Ck.k0, 0⟩ : Rr) = m.b.length := by unfold cnt; simp
      rw [part_in rfl]
      unfold partB
      rw [if_pos rfl, hc, if_pos (by simp)]
      simp [Ms.more]
    rw [show (((1 : Nat) : Int)) = 1 from rfl, go_on hmid2 (by rw [hq]), hq]
    simp only
    rw [go_none]; rfl
  · have hy : sayF m.s.n L = (2, 0, 0) := by
      have := y2 rfl m.s.n (hn rfl)
      change sayF m.s.n (wmL m true) = _ at this
      rwa [hL] at this
    have hp := hd_part h1 r1 hl hb ht hy (by simp) rfl (Ck.encL m.b ++ Ck.endL)
    rw [ha] at hp
    rw [if_pos rfl, go_on (hmid _) (by rw [hp]), hp]
    simp only
    have hmid2 : Mid (⟨a, t, Ck.encL m.b ++ Ck.endL, true, ⟨m.s, L, []⟩, 2, 0, Ck.k0, 0⟩ : Rr) := by
      have := mid_part (hmid (hdW m.s L ++ (Ck.encL m.b ++ Ck.endL))) (by rw [hp])
      rwa [hp] at this
    have hrun : Ck.run Ck.k0 (Ck.encL m.b ++ Ck.endL) = ⟨0, ⟨4, ⟨#[]⟩, 0, (m.b.length : Int)⟩, m.b, []⟩ := by
      have := Ck.run_back [m.b] [] (by simpa using h3)
      simpa [Ck.encs] using this
    have hq : part (⟨a, t, Ck.encL m.b ++ Ck.endL, true, ⟨m.s, L, []⟩, 2, 0, Ck.k0, 0⟩ : Rr) = (true, fresh a t [], [⟨m.s, L, m.b⟩]) := by
      rw [part_in rfl]
      unfold partB
      rw [if_neg (show ¬ (2 : Int) = 1 by decide), if_pos rfl]
      simp [hrun, Ms.more]
    rw [show (((2 : Nat) : Int)) = 2 from rfl, show (((0 : Nat) : Int)) = 0 from rfl, go_on hmid2 (by rw [hq]), hq]
    simp only
    rw [go_none]; rfl

end Go.Proofs.YtmpijlaidnhpnaaGreatDoor

namespace Go.Proofs.YtmpijlaidnhpnaaGreatDoor
set_option linter.unusedVariables false
set_option linter.unusedSimpArgs false
set_option maxRecDepth 100000

theorem rt_short {s : St} (h : rtB s = true) : Short s := by
  unfold rtB at h
  rw [Bool.and_eq_true] at h
  have h2 := h.2
  rw [Bool.or_eq_true] at h2
  have hz : ∀ x : ByteArray, x.data.toList = [] → x.size ≤ 10000 := fun x e => by
    have : x.size = x.data.toList.length := by simp
    rw [this, e]; exact Nat.zero_le _
  rcases h2 with g | g
  · unfold reqB at g
    simp only [Bool.and_eq_true, decide_eq_true_eq] at g
    obtain ⟨⟨⟨⟨-, h2⟩, h3⟩, -⟩, h5⟩ := g
    refine ⟨by omega, ?_, hz _ h2⟩
    have hs : s.t.size = s.t.data.toList.length := by simp
    unfold tgtL at h5
    rw [Bool.or_eq_true] at h5
    rcases h5 with h5 | h5
    · rw [hs, of_decide_eq_true h5]; decide
    · simp only [Bool.and_eq_true, decide_eq_true_eq] at h5
      rw [hs]; omega
  · unfold staB at g
    simp only [Bool.and_eq_true, decide_eq_true_eq] at g
    obtain ⟨⟨⟨-, h2⟩, h3⟩, h4⟩ := g
    refine ⟨hz _ h2, hz _ h3, ?_⟩
    have hs : s.r.size = s.r.data.toList.length := by simp
    unfold rsnL at h4
    simp only [Bool.and_eq_true, decide_eq_true_eq] at h4
    rw [hs]; omega

theorem ls2_less (y : Sy) : (ls2 y).2.1 ≤ 20000 := by
  by_cases h : 20000 < y.2.1
  · rw [ls2_no h]; exact Nat.zero_le _
  · rw [ls2_yes h]; omega
theorem lens_less (x : ByteArray) (r : List ByteArray) : (lensF x r).2.1 ≤ 20000 := by
  unfold lensF
  split
  · exact ls2_less _
  · exact Nat.zero_le _
theorem say_less (n : Int) (L : List Fd) : (sayF n L).2.1 ≤ 20000 := by
  unfold sayF
  split
  · split <;> exact Nat.zero_le _
  · cases allF lenS L with
    | nil => exact Nat.zero_le _
    | cons x r => exact lens_less x r
theorem else_less (n : Int) (L : List Fd) (k : Int) : (elseF (sayF n L) k).2.1 ≤ 20000 := by
  unfold elseF
  split
  · show (0 : Int) ≤ 20000; decide
  · have := say_less n L
    show ((sayF n L).2.1 : Int) ≤ 20000; omega
theorem lg_right {a : Bool} {t : ByteArray} {s : St} {L : List Fd} {k z : Int} (h : lgF a t s L = (k, z, 0)) : rtB s = true ∧ rightF L = true ∧ z ≤ 20000 ∧ decide (s.c = 0) = a := by
  unfold lgF at h
  cases a
  · rw [if_neg (by decide)] at h
    unfold ansF at h
    split at h
    · rename_i g
      simp only [Bool.and_eq_true, Bool.not_eq_true'] at g
      refine ⟨g.1.1, g.1.2, ?_, g.2⟩
      split at h
      · injection h with _ h; injection h with h _; omega
      · have := else_less s.n L 3
        rw [h] at this; exact this
    · injection h with _ h; injection h with _ h; exact absurd h (by decide)
  · rw [if_pos rfl] at h
    unfold reqF at h
    split at h
    · rename_i g
      simp only [Bool.and_eq_true] at g
      refine ⟨g.1.1, g.1.2, ?_, g.2⟩
      have := else_less s.n L 0
      rw [h] at this; exact this
    · injection h with _ h; injection h with _ h; exact absurd h (by decide)

/-- What a reader holds is short. -/
structure Lim (r : Rr) : Prop where
  s : Short r.m.s
  l : r.m.L.length ≤ 40
  f : Sh r.m.L
  b : r.m.b.length ≤ 20000
  c : r.c.line.size ≤ 200
  u : r.buf.length ≤ 4000
theorem short_no : Short Ms.no.s := ⟨by decide, by decide, by decide⟩
theorem sh_nil : Sh [] := fun f hf => absurd hf (by simp)
theorem lim_of {r : Rr} (h : rgB r = true) (hS : Sh r.m.L) : Lim r := by
  by_cases he : r.e = 0
  · have hw := wait_rg h he
    cases hi : r.i
    · obtain ⟨h1, -, -, h4⟩ := hw.mid.out hi
      have h5 := hw.out hi
      refine ⟨?_, ?_, hS, ?_, ?_, h5⟩
      · rw [h1]; exact short_no
      · rw [h1]; exact Nat.zero_le _
      · rw [h1]; exact Nat.zero_le _
      · rw [h4]; exact Nat.zero_le _
    · obtain ⟨h1, h2⟩ := hw.mid.inn hi
      obtain ⟨h3, h4, -⟩ := hw.inn hi
      obtain ⟨g1, g2, g3, -⟩ := lg_right h1
      have hb : r.m.b.length ≤ 20000 ∧ r.c.line.size ≤ 200 := by
        rcases h4 with k | k | k
        · obtain ⟨q1, q2⟩ := h2.one k
          exact ⟨by omega, by rw [q2]; exact Nat.zero_le _⟩
        · obtain ⟨q1, q2, q3⟩ := h2.two k
          have := q1.z1
          exact ⟨by omega, q1.ln⟩
        · obtain ⟨q1, q2⟩ := h2.tri k
          exact ⟨q1, by rw [q2]; exact Nat.zero_le _⟩
      exact ⟨rt_short g1, small_le g2, hS, hb.1, hb.2, by rw [h3]; exact Nat.zero_le _⟩
  · rw [stop_rg h he]
    exact ⟨short_no, Nat.zero_le _, sh_nil, Nat.zero_le _, Nat.zero_le _, Nat.zero_le _⟩

theorem hh_sh {a : Bool} {t : ByteArray} {l : List UInt8} : Sh (hhF a t l).L := by
  unfold hhF
  split
  · exact sh_nil
  · split
    · exact sh_nil
    · intro f hf
      have := (Hd.ps_all (resL l)).2.2.2 f hf
      exact ⟨by omega, by omega⟩
theorem none_40 : ∀ m ∈ ([] : List Ms), m.L.length ≤ 40 := fun m h => absurd h (by simp)
theorem one_40 {x : Ms} (h : x.L.length ≤ 40) : ∀ m ∈ [x], m.L.length ≤ 40 := fun m g => by rw [List.mem_singleton] at g; rw [g]; exact h
theorem part_sh {r : Rr} (hm : Mid r) (hS : Sh r.m.L) : Sh (part r).2.1.m.L ∧ ∀ m ∈ (part r).2.2, m.L.length ≤ 40 := by
  cases hi : r.i
  · rw [part_out hi, mid_eq hm hi]
    have hn : ∀ q : Rr × List Ms, q.2 = [] → ∀ m ∈ q.2, m.L.length ≤ 40 := fun q e m h => by rw [e] at h; exact absurd h (by simp)
    rcases partH_three r.a r.t r.buf with ⟨n, h1, h2, h3, h4, h5, e⟩ | ⟨h1, h2, e⟩ | ⟨h1, h2, e⟩
    · rw [e]
      unfold partO
      split
      · exact ⟨sh_nil, fun m h => absurd h (by simp)⟩
      · split
        · exact ⟨hh_sh, fun m h => absurd h (by simp)⟩
        · exact ⟨sh_nil, fun m h => absurd h (by simp)⟩
    · rw [e]; exact ⟨sh_nil, fun m h => absurd h (by simp)⟩
    · rw [e]; exact ⟨sh_nil, fun m h => absurd h (by simp)⟩
  · have hl : r.m.L.length ≤ 40 := small_le (lg_right (hm.inn hi).1).2.1
    rw [part_in hi]
    unfold partB
    repeat' split
    all_goals first
      | exact ⟨sh_nil, none_40⟩
      | exact ⟨hS, none_40⟩
      | exact ⟨sh_nil, one_40 hl⟩
theorem goF_sh : ∀ (n : Nat) (r : Rr), Mid r → Sh r.m.L → Sh (goF n r).1.m.L ∧ ∀ m ∈ (goF n r).2, m.L.length ≤ 40
  | 0, r, _, h => ⟨h, fun m h => absurd h (by simp [goF])⟩
  | n + 1, r, hm, h => by
    have hp := part_sh hm h
    rw [goF]
    by_cases hq : (part r).1 = true
    · rw [if_pos hq]
      have ih := goF_sh n _ (mid_part hm hq) hp.1
      refine ⟨ih.1, fun m hmm => ?_⟩
      rcases List.mem_append.1 hmm with g | g
      · exact hp.2 m g
      · exact ih.2 m g
    · rw [if_neg hq]; exact hp
theorem fd_sh {r : Rr} (h : rgB r = true) (hS : Sh r.m.L) (s : List UInt8) : Sh (fdG r s).1.m.L ∧ ∀ m ∈ (fdG r s).2, m.L.length ≤ 40 := by
  unfold fdG
  by_cases he : r.e = 0
  · rw [if_neg (by simpa using he)]
    exact goF_sh _ _ ((wait_rg h he).mid.app s) hS
  · rw [if_pos he]
    exact ⟨hS, fun m h => absurd h (by simp)⟩
theorem fd_lim {r : Rr} (h : rgB r = true) (hS : Sh r.m.L) (s : List UInt8) : Lim (fdG r s).1 := lim_of (fd_right h s) (fd_sh h hS s).1

end Go.Proofs.YtmpijlaidnhpnaaGreatDoor

namespace Go.Proofs.YtmpijlaidnhpnaaGreatDoor
set_option linter.unusedVariables false
set_option linter.unusedSimpArgs false
set_option maxRecDepth 100000
open Go.RowKit

theorem size_list' (B : ByteArray) : B.data.toList.length = B.size := by simp
theorem app_bytes (A B : ByteArray) : (A ++ B).data.toList = A.data.toList ++ B.data.toList := by simp [ByteArray.data_append]
theorem bs_eq {l : List UInt8} {B : ByteArray} (h : B.data.toList = l) : Ck.bs l = B := bytes_ext (by rw [Ck.bs_list, h])
theorem rg_fresh (a : Bool) (t : ByteArray) : rgB (fresh a t []) = true := rg_wait ⟨mid_fresh _ _ _, fun _ => Nat.zero_le _, fun h => nope h⟩

/- Small bodies behind a head without fields can be written. -/
def smB (n : Nat) : Bool := decide (wiE [] 1 n = 0) && decide ((Hd.wrL (wiL [] 1 n)).length ≤ 1000)
theorem sm_all : (List.range 501).all smB = true := by kernel_rfl
theorem sm_two' : (decide (wiE [] 2 0 = 0) && decide ((Hd.wrL (wiL [] 2 0)).length ≤ 1000)) = true := by kernel_rfl
theorem sm_two : wiE [] 2 0 = 0 ∧ (Hd.wrL (wiL [] 2 0)).length ≤ 1000 := by
  have h := sm_two'
  rw [Bool.and_eq_true] at h
  exact ⟨of_decide_eq_true h.1, of_decide_eq_true h.2⟩
theorem small_ok {s : St} (hs : rtB s = true) {b : List UInt8} (hb : b.length ≤ 500) (c : Bool) : wmE ⟨s, [], b⟩ c = 0 ∧ (hdW s (wmL ⟨s, [], b⟩ c)).length ≤ 4000 := by
  have h : wmD ⟨s, [], b⟩ c = 0 ∧ (Hd.wrL (wmL ⟨s, [], b⟩ c)).length ≤ 1000 := by
    cases c
    · have h := List.all_eq_true.1 sm_all b.length (List.mem_range.2 (by omega))
      unfold smB at h
      rw [Bool.and_eq_true] at h
      exact ⟨of_decide_eq_true h.1, of_decide_eq_true h.2⟩
    · exact sm_two
  have hw := wrL_le hs
  have hl := hd_len s (wmL ⟨s, [], b⟩ c)
  refine ⟨?_, by omega⟩
  unfold wmE wmF
  rw [if_pos (by rw [hs, decide_eq_true (show (⟨s, [], b⟩ : Ms).b.length ≤ 20000 from Nat.le_trans hb (by decide))]; rfl), if_neg (by omega), if_neg (by omega)]

def poS : St := ⟨⟨#[80, 79, 83, 84]⟩, ⟨#[47]⟩, 0, ⟨#[]⟩, 1⟩
theorem po_right : rtB poS = true := by kernel_rfl
def nrL : List UInt8 := [110, 111, 32, 114, 101, 113, 117, 101, 115, 116, 13, 10, 13, 10]
theorem nr_fd : fdG (fresh true ⟨#[]⟩ []) nrL = (stopR true ⟨#[]⟩ 30, []) := by kernel_rfl
theorem stop_fd {a : Bool} {t : ByteArray} {e : Int} (h : e ≠ 0) (s : List UInt8) : fdG (stopR a t e) s = (stopR a t e, []) := by unfold fdG; rw [if_pos (show (stopR a t e).e ≠ 0 from h)]
theorem stops_fd {b more : List UInt8} (hb : b.length ≤ 500) : fdG (fresh true ⟨#[]⟩ []) ((wmT ⟨poS, [], b⟩ false).data.toList ++ nrL ++ more) = (stopR true ⟨#[]⟩ 30, [⟨poS, wmL ⟨poS, [], b⟩ false, b⟩]) := by
  obtain ⟨h1, h2⟩ := small_ok po_right hb false
  have hb1 := back_go (m := ⟨poS, [], b⟩) (c := false) (t := ⟨#[]⟩) h1 h2 (Or.inl rfl) (fun h => absurd h (by decide)) (by kernel_rfl)
  change fdG (fresh true ⟨#[]⟩ []) _ = (fresh true ⟨#[]⟩ [], _) at hb1
  rw [List.append_assoc, fd_cut (rg_fresh _ _), hb1]
  simp only
  rw [fd_cut (rg_fresh _ _), nr_fd]
  simp only
  rw [stop_fd (by decide)]; rfl
theorem stops_cl : clE (stopR true ⟨#[]⟩ 30) = 30 ∧ clO (stopR true ⟨#[]⟩ 30) = [] := by
  have h : rgB (stopR true ⟨#[]⟩ 30) = true := rg_stop (by decide)
  constructor
  · unfold clE; rw [if_neg (by rw [h]; decide), if_pos (show (stopR true ⟨#[]⟩ 30).e ≠ 0 from by decide)]; rfl
  · unfold clO; rw [if_neg (by rintro ⟨-, g, -⟩; exact absurd g (by decide))]
theorem wmT_le {m : Ms} (hl : (hdW m.s (wmL m false)).length ≤ 4000) (hb : m.b.length ≤ 500) : (wmT m false).size ≤ 4500 := by
  have := congrArg List.length (wmT_list m false)
  rw [size_list', List.length_append, wmB_list, if_neg (by decide)] at this
  omega

/-- A load under a guard that holds. -/
theorem wpList_load_want {P : Program} {ops : Array Oper} {rest : List Oper} {op : Oper} {a : Act} {w : World} {Q : Exit → Act → World → Prop} (hw : Region.wanted op (yielded ops a.tmps) = true) (ty : TypeId) (x : Operand) (ho : op.op = .load ty x)
    (b o : Nat) (hx : a.eval x = .pointer (some ⟨b, o, none⟩)) (cs : List Value) (d : TypeDesc) (hc : w.rangeAt b o cs) (hu : P.underlying ty = some d) (hd : d.isRow = true) (hi : (P.info? ty).map (·.size) = some cs.length)
    (h : wpList P ops Q rest (a.put op.dst (.agg cs.toArray)) w) : wpList P ops Q (op :: rest) a w := by
  unfold wpList
  rw [if_pos hw]
  exact Or.inl (wp_load_mid ty x ho b o hx cs d hc hu hd hi h)

set_option maxHeartbeats 16000000 in
theorem stops_walk (body more : ByteArray) (w : World) (hs : body.size ≤ maxLen) (hs2 : more.size ≤ maxLen) (ht : TT w) :
    Calls Tryz.prog 6 #[.string body, .string more] w fun en w' => en = .returned (.bool true) ∧ Below w.heap.size w w' := by
  unfold maxLen at hs hs2
  obtain ⟨m, hm, hm2, hm3⟩ : ∃ m : Nat, min (body.size : Int) 300 = (m : Int) ∧ m ≤ 300 ∧ m ≤ body.size := ⟨(min (body.size : Int) 300).toNat, by omega, by omega, by omega⟩
  obtain ⟨n, hn, hn2, hn3⟩ : ∃ n : Nat, min (more.size : Int) 300 = (n : Int) ∧ n ≤ 300 ∧ n ≤ more.size := ⟨(min (more.size : Int) 300).toNat, by omega, by omega, by omega⟩
  have hms : (body.extract 0 m).size = m := by rw [ByteArray.size_extract]; omega
  have hns : (more.extract 0 n).size = n := by rw [ByteArray.size_extract]; omega
  have hmi : (m : Int) ≤ (body.size : Int) := by omega
  have hni : (n : Int) ≤ (more.size : Int) := by omega
  go_enter Tryz.func6, Tryz.ntmps6
  go_wp2_with fail
  go_quiet (fail)
  generalize body.extract 0 m = B at hms ⊢
  generalize more.extract 0 n = M at hns ⊢
  have hS : B.size ≤ 300 := by omega
  have hS2 : M.size ≤ 300 := by omega
  clear hms hm hm2 hm3 hmi hs hns hn hn2 hn3 hni hs2
  have hBl : B.data.toList.length ≤ 500 := by rw [size_list']; omega
  obtain ⟨k1, k2⟩ := small_ok po_right hBl false
  have hw := fun W hT => wwrite_any ⟨poS, [], B.data.toList⟩ (.slice none 0 0) false W (Row.nil W) ⟨show 4 ≤ 10000 by decide, show 1 ≤ 10000 by decide, show 0 ≤ 10000 by decide⟩ (show 0 ≤ 50 by decide) (fun f hf => absurd hf (by simp)) (show B.data.toList.length ≤ 30000 by omega) hT
  unfold Ms.v poS at hw
  rw [bs_back] at hw
  change ∀ W, TT W → Calls Tryz.prog 8 #[.agg #[.string ⟨#[80, 79, 83, 84]⟩, .string ⟨#[47]⟩, .int .i64 0, .string ⟨#[]⟩, .int .i64 1, .slice none 0 0, .string B], .bool false] W fun en w' => en = .returned (.tuple #[.string (wmS ⟨poS, [], B.data.toList⟩ false), .int .i64 (wmE ⟨poS, [], B.data.toList⟩ false)]) ∧ Below W.heap.size W w' at hw
  rw [k1, (wm_okay k1).2.2.2.2.2] at hw
  have hfd := stops_fd (more := M.data.toList) hBl
  have hTl := wmT_le (m := ⟨poS, [], B.data.toList⟩) k2 hBl
  generalize wmT ⟨poS, [], B.data.toList⟩ false = S at hw hfd hTl
  have hf1 := fun W => feed_fresh true ⟨#[]⟩ (S.data.toList ++ nrL ++ M.data.toList) W (by rw [List.length_append, List.length_append, size_list', size_list']; show _ + 14 + _ ≤ _; omega)
  rw [hfd, bs_eq (B := S ++ ⟨#[110, 111, 32, 114, 101, 113, 117, 101, 115, 116, 13, 10, 13, 10]⟩ ++ M) (by rw [app_bytes, app_bytes]; rfl)] at hf1
  have hf2 := fun v W hW => feed_good (stopR true ⟨#[]⟩ 30) v S.data.toList W hW short_no (show 0 ≤ 50 by decide) sh_nil (show 0 ≤ 1000000 by decide) (show 0 ≤ 1000000 by decide) (by show 0 + _ ≤ _; rw [size_list']; omega) (rg_stop (by decide))
  rw [stop_fd (by decide), bs_back] at hf2
  have hc := fun v W hW => close_any (stopR true ⟨#[]⟩ 30) v W hW short_no (show 0 ≤ 50 by decide) sh_nil (show 0 ≤ 1000000 by decide) (show 0 ≤ 1000000 by decide) (show 0 ≤ 1000000 by decide)
  rw [stops_cl.1, stops_cl.2] at hc
  have HW := hide hw
  have HF1 := hide hf1
  have HF2 := hide hf2
  have HC := hide hc
  clear hw hf1 hf2 hc hfd k1 k2
  go_wp2_with fail
  refine (HW.out _ (ht.below (Ck.below_drewN _ _))).mono ?_
  rintro en w1 ⟨rfl, hb1⟩
  replace hb1 := (Ck.below_drewN w nq).trans (hb1.mono (Ck.below_drewN w nq).size)
  go_wp2_with fail
  refine (new_any true ⟨#[]⟩ _).mono ?_
  rintro en w2 ⟨rfl, hb2⟩
  go_wp2_with fail
  refine (HF1.out _).mono ?_
  rintro en w3 ⟨⟨va, vc, u, l, rfl, hFR, hM, hl⟩, hb3⟩
  obtain ⟨x3, rfl⟩ : ∃ x, l = [((⟨poS, wmL ⟨poS, [], B.data.toList⟩ false, B.data.toList⟩ : Ms), x)] := by
    match l, hl with
    | [(m, x)], hl => exact ⟨x, by simp at hl; rw [hl]⟩
  obtain ⟨a3, c3, rfl, -, hcell⟩ := hM.mrow
  obtain ⟨g, rfl, hg, hr, -⟩ := hcell 0 (show 0 < 1 by decide)
  have r6 : w3.cell? ⟨g, 6, none⟩ = some (.string B) := by
    refine (hr 6 _ rfl).trans ?_
    show some (Value.string (Ck.bs B.data.toList)) = _
    rw [bs_eq rfl]
  have hb23 := hb1.trans ((hb2.trans (hb3.mono hb2.size)).mono hb1.size)
  have HB := hide (And.intro hb23 (And.intro hFR.row (And.intro r6 hg)))
  clear hcell hM hl hr hb1 hb2 hb3 hb23 hFR r6 HF1 HW ht
  go_upto_region 4 with (refine boxed rfl rfl _ rfl rfl _ rfl rfl ((stopR true ⟨#[]⟩ 30).cs (.slice va 0 vc)) rfl (by kernel_rfl) rfl rfl ?_; intro W4 hX hBW)
  obtain ⟨hB, hR, r6, hg⟩ := HB.out
  replace hR := hR.below hBW
  have r6' := (hBW.cell (p := ⟨g, 6, none⟩) hg).trans r6
  replace hB := hB.trans (hBW.mono hB.size)
  have hg' := Nat.lt_of_lt_of_le hg hBW.size
  clear hBW HB r6
  generalize w3.heap.size = N at hX ⊢
  have HR := hide hR
  clear hR
  go_wp2_with (refine wpList_load_mid rfl 39 (.tmp 7) rfl N 0 rfl ((stopR true ⟨#[]⟩ 30).cs (.slice va 0 vc)) _ (hX.range 0 18) Tryz.underlying39 rfl (by kernel_rfl) ?_)
  refine (HF2.out _ _ HR.out).mono ?_
  rintro en w5 ⟨⟨vb, vd, u5, l5, rfl, hFR5, hM5, hl5⟩, hb5⟩
  obtain rfl : l5 = [] := by simpa using hl5
  obtain ⟨a5, c5, rfl, -, -⟩ := hM5.mrow
  replace hX := hX.below hb5
  have HR5 := hide (And.intro (HR.out.below hb5) hFR5.row)
  replace hB := hB.trans (hb5.mono hB.size)
  have r65 := (hb5.cell (p := ⟨g, 6, none⟩) hg').trans r6'
  have hg5 := Nat.lt_of_lt_of_le hg' hb5.size
  clear hM5 hl5 hFR5 hb5 HR r6' hg' hg HF2
  go_upto_region 5 with (refine boxed rfl rfl _ rfl rfl _ rfl rfl ((stopR true ⟨#[]⟩ 30).cs (.slice vb 0 vd)) rfl (by kernel_rfl) rfl rfl ?_; intro W6 hY hBW)
  replace hX := hX.below hBW
  have HR6 := hide (And.intro (HR5.out.1.below hBW) (HR5.out.2.below hBW))
  have r66 := (hBW.cell (p := ⟨g, 6, none⟩) hg5).trans r65
  replace hB := hB.trans (hBW.mono hB.size)
  have hg6 := Nat.lt_of_lt_of_le hg5 hBW.size
  clear hBW r65 hg5 HR5
  generalize w5.heap.size = N2 at hY ⊢
  go_wp2_with (refine wpList_load_mid rfl 39 (.tmp 7) rfl N 0 rfl ((stopR true ⟨#[]⟩ 30).cs (.slice va 0 vc)) _ (hX.range 0 18) Tryz.underlying39 rfl (by kernel_rfl) ?_)
  refine (HC.out _ _ HR6.out.1).mono ?_
  rintro en w7 ⟨⟨u7, l7, rfl, hM7, hl7⟩, hb7⟩
  obtain rfl : l7 = [] := by simpa using hl7
  obtain ⟨a7, c7, rfl, -, -⟩ := hM7.mrow
  replace hX := hX.below hb7
  replace hY := hY.below hb7
  have HR7 := hide (And.intro (HR6.out.1.below hb7) (HR6.out.2.below hb7))
  have r67 := (hb7.cell (p := ⟨g, 6, none⟩) hg6).trans r66
  replace hB := hB.trans (hb7.mono hB.size)
  have hg7 := Nat.lt_of_lt_of_le hg6 hb7.size
  clear hb7 hM7 hl7 r66 hg6 HR6 HC
  go_wp2_with fail
  refine (alive_any _).mono ?_
  rintro en w8 ⟨rfl, hb8⟩
  replace hX := hX.below hb8
  replace hY := hY.below hb8
  have HR8 := hide (And.intro (HR7.out.1.below hb8) (HR7.out.2.below hb8))
  have r68 := (hb8.cell (p := ⟨g, 6, none⟩) hg7).trans r67
  replace hB := hB.trans (hb8.mono hB.size)
  clear hb8 r67 hg7 HR7
  have c17 := hX.cell 17 _ rfl
  go_wp2_with (first | (refine wpList_load_want (by kernel_rfl) 39 (.tmp 10) rfl N2 0 rfl ((stopR true ⟨#[]⟩ 30).cs (.slice vb 0 vd)) _ (hY.range 0 18) Tryz.underlying39 rfl (by kernel_rfl) ?_) | (refine wpList_load_want (by kernel_rfl) 39 (.tmp 7) rfl N 0 rfl ((stopR true ⟨#[]⟩ 30).cs (.slice va 0 vc)) _ (hX.range 0 18) Tryz.underlying39 rfl (by kernel_rfl) ?_))
  refine (likeR_any (stopR true ⟨#[]⟩ 30) (.slice vb 0 vd) (.slice va 0 vc) _ HR8.out.2 HR8.out.1 (show 0 ≤ 1000000 by decide)).mono ?_
  rintro en w9 ⟨rfl, hb9⟩
  go_wp2_with fail
  go_ret
  exact ⟨rfl, hB.trans (hb9.mono hB.size)⟩

end Go.Proofs.YtmpijlaidnhpnaaGreatDoor

namespace Go.Proofs.YtmpijlaidnhpnaaGreatDoor
set_option linter.unusedVariables false
set_option linter.unusedSimpArgs false
open Go.ChangeShapes Go.WideShapes Go.ChangeAt Go.RowKit Go.Joins
open Go.ChangeMaps (open_string shut_string)

set_option maxRecDepth 100000 in
theorem stops_lifted (os : Os) (started : os.Started) (H : Type) (enc : TypeId × Value → H) :
    ReturnsInHanded {} Tryz.checked os 6 .any (fun w args => (Rows.wireStopsSpec.pre enc Tryz.prog Tryz.f6 [] false w args ∧ laidMetH Tryz.prog laid3 w) ∧ sizedMet enc Tryz.prog Tryz.f6 (OpenSpec.ofChange Rows.wireStopsSpec) false w args)
      (Rows.wireStopsSpec.post enc Tryz.prog Tryz.f6 false true false false) := by
  refine returnsInHanded_of_change_and (C := Tryz.checked) (X := fun w _ => laidMetH Tryz.prog laid3 w) (fun _ _ _ hh h => h.of_heap hh) own started (by kernel_rfl) Tryz.func6
    (ChangeSpec.witness_shaped (enc := enc) (C := Tryz.checked) (os := os) (X := fun w _ => laidMetH Tryz.prog laid3 w) false (World.doorLaid Tryz.prog 24 os) #[.string ⟨#[]⟩, .string ⟨#[]⟩] 8 rfl (World.shaped_of_RefB (by kernel_rfl) (by kernel_rfl)) (by kernel_rfl) (by kernel_rfl) (by kernel_rfl) (door_met os _)) ?_
  intro W base args ds gs before hval0 hW _ _ hL _
  have hval : ∀ (j : Nat) t v, Tryz.f6.params[j]? = some t → args[j]? = some v → Value.okWide Tryz.prog W .any base t v := hval0
  have hW' := hW
  obtain ⟨p, q, hA0, hV, rfl, hfz, hnd⟩ := hW
  have hA : DataW.TrodAll enc Tryz.prog W 0 (fun _ => true) true Tryz.f6.params.toList args.toList ds p := hA0
  rw [Tryz.params6] at hA hval
  obtain ⟨v0, vs0, d0, ds0, p0, q0, hargs, rfl, rfl, h0, r0⟩ := trodAll_cons hA
  obtain ⟨v1, vs1, d1, ds1, p1, q1, rfl, rfl, rfl, h1, r1⟩ := trodAll_cons r0
  obtain ⟨rfl, rfl, rfl⟩ := trodAll_nil r1
  obtain rfl : args = #[v0, v1] := by cases args; simp_all
  obtain ⟨rfl, rfl⟩ := trodVars_none hV
  have k0 := h0
  have lt0 : ∀ x ∈ p0, x.block < W.heap.size := by obtain ⟨m, hm⟩ := k0; exact DataW.trod_lt m _ _ _ hm
  have k1 := h1
  have lt1 : ∀ x ∈ p1, x.block < W.heap.size := by obtain ⟨m, hm⟩ := k1; exact DataW.trod_lt m _ _ _ hm
  obtain ⟨s0, rfl, -, -, ws0⟩ := open_string Tryz.underlying9 (hval 0 9 v0 rfl rfl) h0
  obtain ⟨s1, rfl, -, -, ws1⟩ := open_string Tryz.underlying9 (hval 1 9 v1 rfl rfl) h1
  have hT := tabs_of hL
  clear hA0 hval0
  refine (stops_walk s0 s1 W ws0 ws1 hT).mono fun e W' ⟨he, bel⟩ => ?_
  subst he
  exact ⟨_, rfl, _, _, _, [], _, [], hW', trodAll_mk1 (shut_bool Tryz.underlying4 _), (trodAll_cons_mk (Below.trod laidOut (by kernel_rfl) (of_decide_eq_true (by kernel_rfl)) k0 bel lt0) (trodAll_cons_mk (Below.trod laidOut (by kernel_rfl) (of_decide_eq_true (by kernel_rfl)) k1 bel lt1) trodAll_mk0)), rfl, bel.frame _, fun h => by cases h⟩

theorem stops_row : Rows.WireStopsSaid :=
  OpenClaim.holds_of_wide 6 Tryz.f6 rfl rfl rfl rfl rfl rfl rfl ⟨rfl, rfl, rfl, rfl, rfl⟩ rfl rfl rfl rfl rfl (by kernel_rfl) Tryz.func6 (by kernel_rfl)
    (of_decide_eq_true (by kernel_rfl)) (by unfold Func.isWrapper; first | (rw [if_pos (by decide +kernel)]; kernel_rfl) | (rw [if_neg (by decide +kernel)]; exact ⟨rfl, rfl⟩))
    (fun os started H enc _ => stops_lifted os started H enc)

theorem stops_holds : Rows.WireStopsCardSaid :=
  Claim7.holds_tied_plain_at .later [] [.data, .data, .data] true (true, "a603b6b9b9401121a7b687d27458eabfe861105e2f95f3117fb00a0d67a9a931") false
    stops_row (fun _ h => by cases h) (by kernel_rfl) (fun _ h => by cases h) wireStops_row_tie rfl ⟨rfl, rfl⟩ (by kernel_rfl) rfl
    (fun f fn hf hfn => by
      obtain rfl : f = 6 := Option.some.inj ((show Tryz.prog.funcNamed "intarsia/intarsialaw10.WireStops" = some 6 by kernel_rfl).symm.trans hf) |>.symm
      obtain rfl : fn = Tryz.f6 := (Option.some.inj (Tryz.func6.symm.trans hfn)).symm
      exact ⟨by kernel_rfl, fun j t ht => by
        rw [Tryz.params6] at ht
        have hm : t ∈ [9, 9] := by simpa using Array.mem_of_getElem? ht
        have hall : ([9, 9].all fun u => !Tryz.prog.wantsStandIn u) = true := by kernel_rfl
        exact (show Tryz.prog.wantsStandIn t = false by simpa using List.all_eq_true.1 hall t hm)⟩)
    (by kernel_rfl)

end Go.Proofs.YtmpijlaidnhpnaaGreatDoor
