/- The walk of Write. The walk of the document's own Write. -/
import Derived.Test.YtmpijlaidnhpnaaGreatDoorJYp
import Derived.Test.YtmpijlaidnhpnaaGreatDoorJXl
namespace Go.Proofs.YtmpijlaidnhpnaaGreatDoor
set_option linter.unusedVariables false
set_option linter.unusedSimpArgs false
set_option maxRecDepth 100000
open Go.RowKit

theorem wrL_le {s : St} (h : rtB s = true) : (Sr.wrL s).length ≤ 600 := by
  have hv := Sr.ver_len (rt_minor h)
  by_cases hc : s.c = 0
  · have q := rt_req h hc
    have h1 := q.l
    have h2 := tgt_len q.t
    have h3 : s.m.data.toList.length = s.m.size := by simp
    rw [Sr.wr_req hc, List.length_append, List.length_cons, List.length_append, List.length_cons, hv, h3]
    omega
  · have q := rt_sta h hc
    have h1 := q.c0
    have h2 := q.c1
    have h3 := Sr.dgs_three (n := s.c.toNat) (by omega) (by omega)
    have h4 := q.r
    unfold rsnL at h4
    simp only [Bool.and_eq_true, decide_eq_true_eq] at h4
    rw [Sr.wr_sta hc, List.length_append, List.length_cons, List.length_append, List.length_cons, hv, h3]
    omega
theorem wrS_le {s : St} (h : rtB s = true) : (Sr.wrS s).size ≤ 600 := by
  have := wrL_le h
  rw [← Sr.wrS_list] at this
  simpa using this

/-- What fieldLines answers, of a length of a body. -/
def wmX (m : Ms) (c : Bool) : ByteArray := if wmF m c = 0 then Hd.bs (Hd.wrL (wmL m c)) else ⟨#[]⟩
theorem wm_lines (m : Ms) (c : Bool) : (if wiE m.L (wmK c) (wmZ m c) = 0 then Hd.prS (wiL m.L (wmK c) (wmZ m c)) else ⟨#[]⟩) = wmX m c ∧ (if wiE m.L (wmK c) (wmZ m c) = 0 then Hd.prE (wiL m.L (wmK c) (wmZ m c)) else ((wiE m.L (wmK c) (wmZ m c) : Nat) : Int)) = wmF m c := by
  have key : ∀ (n : Nat) (L : List Fd), (n = 0 → rightF L = true) → (if n = 0 then Hd.prS L else ⟨#[]⟩) = (if (if n ≠ 0 then (n : Int) else if 4000 < (Hd.wrL L).length then 2 else 0) = 0 then Hd.bs (Hd.wrL L) else ⟨#[]⟩) ∧ (if n = 0 then Hd.prE L else (n : Int)) = (if n ≠ 0 then (n : Int) else if 4000 < (Hd.wrL L).length then 2 else 0) := by
    intro n L hr
    by_cases h : n = 0
    · subst h
      have hr := hr rfl
      by_cases g : 4000 < (Hd.wrL L).length
      · rw [(Hd.pr_long hr g).1, (Hd.pr_long hr g).2]; simp [g]
      · rw [(Hd.pr_yes hr g).1, (Hd.pr_yes hr g).2]; simp [g]
    · simp [h]
  exact key _ _ fun h => (wi_okay h).2.2.2.2.2.1
theorem wmX_le {m : Ms} {c : Bool} (h : wmF m c = 0) : (wmX m c).size ≤ 4000 := by
  unfold wmX
  rw [if_pos h, Hd.bs_size]
  unfold wmF at h
  split at h
  · omega
  · split at h
    · exact absurd h (by decide)
    · omega

set_option maxHeartbeats 16000000 in
theorem wwrite_any (m : Ms) (v : Value) (c : Bool) (w : World) (hr : Row w v m.L) (hs : Short m.s) (hl : m.L.length ≤ 50) (hS : Sh m.L) (hb : m.b.length ≤ 30000) (ht : TT w) :
    Calls Tryz.prog 8 #[m.v v, .bool c] w fun en w' => en = .returned (.tuple #[.string (wmS m c), .int .i64 (wmE m c)]) ∧ Below w.heap.size w w' := by
  have hp := fun W hT => Sr.print_any m.s W hs hT
  have hrt := fun u W hW => right_any m.L u W hW (by omega) hS
  have hws := fun h => wrS_le (s := m.s) h
  have hf := fun u W hW hT => lines_any m.L u (wmK c) (wmZ m c) W hW hl hS hT
  rw [(wm_lines m c).1, (wm_lines m c).2] at hf
  obtain ⟨va, vc, rfl⟩ := hr.slice
  have hX : Blk (w.alloc (.cells (m.cs (.slice va m.L.length vc)).toArray 26)) w.heap.size 26 (m.cs (.slice va m.L.length vc)) := Blk.new w 26 _
  have hB : Below w.heap.size w (w.alloc (.cells (m.cs (.slice va m.L.length vc)).toArray 26)) := (Below.refl _ _).alloc (Nat.le_refl _) _
  have hQ := hide (And.intro (hr.below hB) (ht.below hB))
  unfold Ms.v
  unfold Ms.cs at hX hB hQ
  have hbs : (Ck.bs m.b).size = m.b.length := Ck.bs_size _
  have hQ0 := hide (And.intro hr ht)
  clear hr ht
  cases h1 : rtB m.s
  · have hV : wmE m c = 1 ∧ wmS m c = ⟨#[]⟩ := by
      have : wmE m c = 1 := by unfold wmE; rw [h1]; rfl
      exact ⟨this, by unfold wmS; rw [this]; rfl⟩
    have HV := hide hV
    have e1 : Sr.prE m.s = 1 ∧ Sr.prS m.s = ⟨#[]⟩ := by unfold Sr.prE Sr.prS; rw [h1]; exact ⟨rfl, rfl⟩
    rw [e1.1, e1.2] at hp
    unfold St.v at hp
    clear hV e1 h1 hrt hf
    go_enter Tryz.func8, Tryz.ntmps8
    go_upto_region 1 with fail
    generalize World.alloc _ _ = W1 at hX hB hQ ⊢
    have x0 := hX.cell 0 _ rfl
    have x1 := hX.cell 1 _ rfl
    have x2 := hX.cell 2 _ rfl
    have x3 := hX.cell 3 _ rfl
    have x4 := hX.cell 4 _ rfl
    go_wp2_with fail
    refine (hp _ hQ.out.2.a).mono ?_
    rintro en w1 ⟨rfl, hb1⟩
    replace hX := hX.below hb1
    replace hB := hB.trans (hb1.mono hB.size)
    have hQ1 := hide (And.intro (hQ.out.1.below hb1) (hQ.out.2.below hb1))
    clear x0 x1 x2 x3 x4 hQ hb1 hp

    go_wp2_with fail
    go_ret2
    exact ⟨by rw [HV.out.1, HV.out.2]; rfl, hB⟩
  have e1 : Sr.prE m.s = 0 ∧ Sr.prS m.s = Sr.wrS m.s := by unfold Sr.prE Sr.prS; rw [h1]; exact ⟨rfl, rfl⟩
  rw [e1.1, e1.2] at hp
  unfold St.v at hp
  clear e1
  cases h2 : rightF m.L
  · have hV : wmE m c = 1 ∧ wmS m c = ⟨#[]⟩ := by
      have : wmE m c = 1 := by unfold wmE; rw [h1, h2]; rfl
      exact ⟨this, by unfold wmS; rw [this]; rfl⟩
    have HV := hide hV
    rw [h2] at hrt
    clear hV h1 h2 hf
    go_enter Tryz.func8, Tryz.ntmps8
    go_upto_region 1 with fail
    generalize World.alloc _ _ = W1 at hX hB hQ ⊢
    have x0 := hX.cell 0 _ rfl
    have x1 := hX.cell 1 _ rfl
    have x2 := hX.cell 2 _ rfl
    have x3 := hX.cell 3 _ rfl
    have x4 := hX.cell 4 _ rfl
    go_wp2_with fail
    refine (hp _ hQ.out.2.a).mono ?_
    rintro en w1 ⟨rfl, hb1⟩
    replace hX := hX.below hb1
    replace hB := hB.trans (hb1.mono hB.size)
    have hQ1 := hide (And.intro (hQ.out.1.below hb1) (hQ.out.2.below hb1))
    clear x0 x1 x2 x3 x4 hQ hb1 hp

    have y5 := hX.cell 5 _ rfl
    go_wp2_with fail
    refine (hrt _ _ hQ1.out.1).mono ?_
    rintro en w2 ⟨rfl, hb2⟩
    go_wp2_with fail
    go_ret2
    exact ⟨by rw [HV.out.1, HV.out.2]; rfl, hB.trans (hb2.mono hB.size)⟩
  rw [h2] at hrt
  by_cases h3 : m.b.length ≤ 20000
  · have HV : Hid (wmE m c = wmF m c) := by unfold Hid wmE; rw [h1, h2, decide_eq_true h3]; rfl
    have hwl := hws h1
    cases c
    · by_cases hF : wmF m false = 0
      · have hf2 : ∀ (u : Value) (W : World), Row W u m.L → Tabs W → Calls Tryz.prog 23 #[u, .agg #[.int .i64 1, .int .i64 (m.b.length : Int)]] W fun en w' => en = .returned (.tuple #[.string (wmX m false), .int .i64 (wmF m false)]) ∧ Below W.heap.size W w' := hf
        have hV : wmE m false = 0 ∧ wmS m false = Sr.wrS m.s ++ ⟨#[13, 10]⟩ ++ wmX m false ++ ⟨#[13, 10]⟩ ++ Ck.bs m.b := by
          have e : wmE m false = 0 := HV.out.trans hF
          refine ⟨e, ?_⟩
          unfold wmS wmT wmX wmB
          rw [if_pos e, if_pos hF]; rfl
        rw [hF] at hf2
        have hxl := wmX_le hF
        have HR := hide hV
        generalize wmX m false = X at hf2 hxl HR
        clear hV HV hF hf h1 h2
        go_enter Tryz.func8, Tryz.ntmps8
        go_upto_region 1 with fail
        generalize World.alloc _ _ = W1 at hX hB hQ ⊢
        have x0 := hX.cell 0 _ rfl
        have x1 := hX.cell 1 _ rfl
        have x2 := hX.cell 2 _ rfl
        have x3 := hX.cell 3 _ rfl
        have x4 := hX.cell 4 _ rfl
        go_wp2_with fail
        refine (hp _ hQ.out.2.a).mono ?_
        rintro en w1 ⟨rfl, hb1⟩
        replace hX := hX.below hb1
        replace hB := hB.trans (hb1.mono hB.size)
        have hQ1 := hide (And.intro (hQ.out.1.below hb1) (hQ.out.2.below hb1))
        clear x0 x1 x2 x3 x4 hQ hb1 hp

        have y5 := hX.cell 5 _ rfl
        go_wp2_with fail
        refine (hrt _ _ hQ1.out.1).mono ?_
        rintro en w2 ⟨rfl, hb2⟩
        replace hX := hX.below hb2
        replace hB := hB.trans (hb2.mono hB.size)
        have hQ2 := hide (And.intro (hQ1.out.1.below hb2) (hQ1.out.2.below hb2))
        clear hQ1 hb2 y5 hrt
        have y6 := hX.cell 6 _ rfl
        go_wp2_with fail
        go_cut [8, 9] (fun s8 s9 wc => ∃ M : Nat, s8 = .pointer (some ⟨M, 0, none⟩) ∧ s9 = .string (Ck.bs m.b) ∧ Blk wc M 35 [.int .i64 1, .int .i64 (m.b.length : Int)] ∧ M ≠ w.heap.size ∧ w.heap.size ≤ M ∧ Blk wc w.heap.size 26 [.string m.s.m, .string m.s.t, .int .i64 m.s.c, .string m.s.r, .int .i64 m.s.n, .slice va m.L.length vc, .string (Ck.bs m.b)] ∧ Below w2.heap.size w2 wc)
        case first =>
          have hXd := hX.drew
          have hne := hX.lt
          refine wp_region_held_drew (S := (fun w' => w'.cell? ⟨w.heap.size, 6, none⟩ = some (.string (Ck.bs m.b)))) (by kernel_rfl) (y6) (fun hHeld => ?_)
          refine wpAnyH_take (i := 0) (oi := _) (v := .pointer (some ⟨w.heap.size, 6, none⟩)) rfl (by kernel_rfl) (by kernel_rfl) (by kernel_rfl) (fun _ _ _ h => h) (Or.inl ⟨by rfl, fun wS hSw => by go_simp⟩) (by first | trivial | assumption) ?_
          simp only [Act.put, List.getElem_toArray, List.getElem_cons_zero, List.getElem_cons_succ, List.setIfInBounds_toArray, List.set_cons_zero, List.set_cons_succ]
          refine wpAnyH_take (i := 1) (oi := _) (v := .string (Ck.bs m.b)) rfl (by kernel_rfl) (by kernel_rfl) (by kernel_rfl) (fun _ _ _ h => h) (Or.inl ⟨by kernel_rfl, fun wS hSw => by have c6 : wS.cell? ⟨w.heap.size, 6, none⟩ = some (.string (Ck.bs m.b)) := hSw; go_simp⟩) (by first | trivial | assumption) ?_
          simp only [Act.put, List.getElem_toArray, List.getElem_cons_zero, List.getElem_cons_succ, List.setIfInBounds_toArray, List.set_cons_zero, List.set_cons_succ]
          refine wpAnyH_take (i := 2) (oi := _) (v := .int .i64 (m.b.length : Int)) rfl (by kernel_rfl) (by kernel_rfl) (by kernel_rfl) (fun _ _ _ h => h) (Or.inl ⟨by rfl, fun wS hSw => by go_simp⟩) (by first | trivial | assumption) ?_
          simp only [Act.put, List.getElem_toArray, List.getElem_cons_zero, List.getElem_cons_succ, List.setIfInBounds_toArray, List.set_cons_zero, List.set_cons_succ]
          refine wpAnyH_take (i := 3) (oi := _) (v := .agg #[.int .i64 1, .int .i64 (m.b.length : Int)]) rfl (by kernel_rfl) (by kernel_rfl) (by kernel_rfl) (fun _ _ _ h => h) (Or.inl ⟨by rfl, fun wS hSw => by go_simp⟩) (by first | trivial | assumption) ?_
          simp only [Act.put, List.getElem_toArray, List.getElem_cons_zero, List.getElem_cons_succ, List.setIfInBounds_toArray, List.set_cons_zero, List.set_cons_succ]
          refine wpAnyH_take (i := 4) (oi := _) (v := .pointer (some ⟨w.heap.size, 6, none⟩)) rfl (by kernel_rfl) (by kernel_rfl) (by kernel_rfl) (fun _ _ _ h => h) (Or.inl ⟨by rfl, fun wS hSw => by go_simp⟩) (by first | trivial | assumption) ?_
          simp only [Act.put, List.getElem_toArray, List.getElem_cons_zero, List.getElem_cons_succ, List.setIfInBounds_toArray, List.set_cons_zero, List.set_cons_succ]
          refine wpAnyH_take (i := 5) (oi := _) (v := .string (Ck.bs m.b)) rfl (by kernel_rfl) (by kernel_rfl) (by kernel_rfl) (fun _ _ _ h => h) (Or.inl ⟨by kernel_rfl, fun wS hSw => by have c6 : wS.cell? ⟨w.heap.size, 6, none⟩ = some (.string (Ck.bs m.b)) := hSw; go_simp⟩) (by first | trivial | assumption) ?_
          simp only [Act.put, List.getElem_toArray, List.getElem_cons_zero, List.getElem_cons_succ, List.setIfInBounds_toArray, List.set_cons_zero, List.set_cons_succ]
          have hA : ∀ cs, Blk (w2.drew.alloc (.cells cs 35)) w.heap.size 26 [.string m.s.m, .string m.s.t, .int .i64 m.s.c, .string m.s.r, .int .i64 m.s.n, .slice va m.L.length vc, .string (Ck.bs m.b)] := fun cs => hXd.alloc _
          refine wpAnyH_ready (rs := [6]) (by kernel_rfl) (by simp) ?_
          refine AllReadyH.cons (o := _) rfl (fun K hK => ?_) AllReadyH.nil
          go_simp
          refine hK.out _ _ ((hA _).cell 6 _ rfl) (fun hHeld => ?_)
          clear hK K
          refine wpAnyH_ready (rs := [7]) (by kernel_rfl) (by simp) ?_
          refine AllReadyH.cons (o := _) rfl (fun K hK => ?_) AllReadyH.nil
          go_simp
          refine hK.out _ _ ((hA _).cell 6 _ rfl) (fun hHeld => ?_)
          clear hK K
          refine wpAnyH_take (i := 8) (oi := _) (v := .string (Ck.bs m.b)) rfl (by kernel_rfl) (by kernel_rfl) (by kernel_rfl) (fun _ _ _ h => h) (Or.inl ⟨by rfl, fun wS hSw => by go_simp⟩) (by first | trivial | assumption) ?_
          simp only [Act.put, List.getElem_toArray, List.getElem_cons_zero, List.getElem_cons_succ, List.setIfInBounds_toArray, List.set_cons_zero, List.set_cons_succ]
          refine wpAnyH_done (by kernel_rfl) ?_ _
          go_wp2_with fail
          go_meet
          exact ⟨w2.heap.size, rfl, rfl, (Blk.new w2 35 [.int .i64 1, .int .i64 (m.b.length : Int)]).drew, by omega, by omega, (hX.alloc _).drew, ((Below.refl _ _).alloc (Nat.le_refl _) _).drew⟩
        case rest =>
        obtain ⟨M, rfl, rfl, hT, hne, hge, hX3, hB3⟩ := hcut
        replace hB := hB.trans (hB3.mono hB.size)
        have hQ3 := hide (And.intro (hQ2.out.1.below hB3) (hQ2.out.2.below hB3))
        clear hX hB3 hQ2 y6
        have t0 := hT.cell 0 _ rfl
        have t1 := hT.cell 1 _ rfl
        have y5 := hX3.cell 5 _ rfl
        clear hT hX3
        go_wp2_with fail
        refine (hf2 _ _ hQ3.out.1 hQ3.out.2.a).mono ?_
        rintro en w6 ⟨rfl, hb6⟩
        go_wp2_with fail
        go_ret2
        exact ⟨by rw [HR.out.1, HR.out.2]; rfl, hB.trans (hb6.mono hB.size)⟩
      · have hf2 : ∀ (u : Value) (W : World), Row W u m.L → Tabs W → Calls Tryz.prog 23 #[u, .agg #[.int .i64 1, .int .i64 (m.b.length : Int)]] W fun en w' => en = .returned (.tuple #[.string (wmX m false), .int .i64 (wmF m false)]) ∧ Below W.heap.size W w' := hf
        have hV : wmE m false = wmF m false ∧ wmS m false = ⟨#[]⟩ := ⟨HV.out, by unfold wmS; rw [HV.out, if_neg hF]⟩
        have hx0 : wmX m false = ⟨#[]⟩ := by unfold wmX; rw [if_neg hF]
        rw [hx0] at hf2
        have hF1 : (wmF m false == 0) = false := by simpa using hF
        have hF2 : (wmF m false != 0) = true := by simpa using hF
        have HR := hide hV
        generalize wmF m false = E at hf2 hF1 hF2 HR
        clear hV HV hx0 hF hf h1 h2
        go_enter Tryz.func8, Tryz.ntmps8
        go_upto_region 1 with fail
        generalize World.alloc _ _ = W1 at hX hB hQ ⊢
        have x0 := hX.cell 0 _ rfl
        have x1 := hX.cell 1 _ rfl
        have x2 := hX.cell 2 _ rfl
        have x3 := hX.cell 3 _ rfl
        have x4 := hX.cell 4 _ rfl
        go_wp2_with fail
        refine (hp _ hQ.out.2.a).mono ?_
        rintro en w1 ⟨rfl, hb1⟩
        replace hX := hX.below hb1
        replace hB := hB.trans (hb1.mono hB.size)
        have hQ1 := hide (And.intro (hQ.out.1.below hb1) (hQ.out.2.below hb1))
        clear x0 x1 x2 x3 x4 hQ hb1 hp

        have y5 := hX.cell 5 _ rfl
        go_wp2_with fail
        refine (hrt _ _ hQ1.out.1).mono ?_
        rintro en w2 ⟨rfl, hb2⟩
        replace hX := hX.below hb2
        replace hB := hB.trans (hb2.mono hB.size)
        have hQ2 := hide (And.intro (hQ1.out.1.below hb2) (hQ1.out.2.below hb2))
        clear hQ1 hb2 y5 hrt
        have y6 := hX.cell 6 _ rfl
        go_wp2_with fail
        go_cut [8, 9] (fun s8 s9 wc => ∃ M : Nat, s8 = .pointer (some ⟨M, 0, none⟩) ∧ s9 = .string (Ck.bs m.b) ∧ Blk wc M 35 [.int .i64 1, .int .i64 (m.b.length : Int)] ∧ M ≠ w.heap.size ∧ w.heap.size ≤ M ∧ Blk wc w.heap.size 26 [.string m.s.m, .string m.s.t, .int .i64 m.s.c, .string m.s.r, .int .i64 m.s.n, .slice va m.L.length vc, .string (Ck.bs m.b)] ∧ Below w2.heap.size w2 wc)
        case first =>
          have hXd := hX.drew
          have hne := hX.lt
          refine wp_region_held_drew (S := (fun w' => w'.cell? ⟨w.heap.size, 6, none⟩ = some (.string (Ck.bs m.b)))) (by kernel_rfl) (y6) (fun hHeld => ?_)
          refine wpAnyH_take (i := 0) (oi := _) (v := .pointer (some ⟨w.heap.size, 6, none⟩)) rfl (by kernel_rfl) (by kernel_rfl) (by kernel_rfl) (fun _ _ _ h => h) (Or.inl ⟨by rfl, fun wS hSw => by go_simp⟩) (by first | trivial | assumption) ?_
          simp only [Act.put, List.getElem_toArray, List.getElem_cons_zero, List.getElem_cons_succ, List.setIfInBounds_toArray, List.set_cons_zero, List.set_cons_succ]
          refine wpAnyH_take (i := 1) (oi := _) (v := .string (Ck.bs m.b)) rfl (by kernel_rfl) (by kernel_rfl) (by kernel_rfl) (fun _ _ _ h => h) (Or.inl ⟨by kernel_rfl, fun wS hSw => by have c6 : wS.cell? ⟨w.heap.size, 6, none⟩ = some (.string (Ck.bs m.b)) := hSw; go_simp⟩) (by first | trivial | assumption) ?_
          simp only [Act.put, List.getElem_toArray, List.getElem_cons_zero, List.getElem_cons_succ, List.setIfInBounds_toArray, List.set_cons_zero, List.set_cons_succ]
          refine wpAnyH_take (i := 2) (oi := _) (v := .int .i64 (m.b.length : Int)) rfl (by kernel_rfl) (by kernel_rfl) (by kernel_rfl) (fun _ _ _ h => h) (Or.inl ⟨by rfl, fun wS hSw => by go_simp⟩) (by first | trivial | assumption) ?_
          simp only [Act.put, List.getElem_toArray, List.getElem_cons_zero, List.getElem_cons_succ, List.setIfInBounds_toArray, List.set_cons_zero, List.set_cons_succ]
          refine wpAnyH_take (i := 3) (oi := _) (v := .agg #[.int .i64 1, .int .i64 (m.b.length : Int)]) rfl (by kernel_rfl) (by kernel_rfl) (by kernel_rfl) (fun _ _ _ h => h) (Or.inl ⟨by rfl, fun wS hSw => by go_simp⟩) (by first | trivial | assumption) ?_
          simp only [Act.put, List.getElem_toArray, List.getElem_cons_zero, List.getElem_cons_succ, List.setIfInBounds_toArray, List.set_cons_zero, List.set_cons_succ]
          refine wpAnyH_take (i := 4) (oi := _) (v := .pointer (some ⟨w.heap.size, 6, none⟩)) rfl (by kernel_rfl) (by kernel_rfl) (by kernel_rfl) (fun _ _ _ h => h) (Or.inl ⟨by rfl, fun wS hSw => by go_simp⟩) (by first | trivial | assumption) ?_
          simp only [Act.put, List.getElem_toArray, List.getElem_cons_zero, List.getElem_cons_succ, List.setIfInBounds_toArray, List.set_cons_zero, List.set_cons_succ]
          refine wpAnyH_take (i := 5) (oi := _) (v := .string (Ck.bs m.b)) rfl (by kernel_rfl) (by kernel_rfl) (by kernel_rfl) (fun _ _ _ h => h) (Or.inl ⟨by kernel_rfl, fun wS hSw => by have c6 : wS.cell? ⟨w.heap.size, 6, none⟩ = some (.string (Ck.bs m.b)) := hSw; go_simp⟩) (by first | trivial | assumption) ?_
          simp only [Act.put, List.getElem_toArray, List.getElem_cons_zero, List.getElem_cons_succ, List.setIfInBounds_toArray, List.set_cons_zero, List.set_cons_succ]
          have hA : ∀ cs, Blk (w2.drew.alloc (.cells cs 35)) w.heap.size 26 [.string m.s.m, .string m.s.t, .int .i64 m.s.c, .string m.s.r, .int .i64 m.s.n, .slice va m.L.length vc, .string (Ck.bs m.b)] := fun cs => hXd.alloc _
          refine wpAnyH_ready (rs := [6]) (by kernel_rfl) (by simp) ?_
          refine AllReadyH.cons (o := _) rfl (fun K hK => ?_) AllReadyH.nil
          go_simp
          refine hK.out _ _ ((hA _).cell 6 _ rfl) (fun hHeld => ?_)
          clear hK K
          refine wpAnyH_ready (rs := [7]) (by kernel_rfl) (by simp) ?_
          refine AllReadyH.cons (o := _) rfl (fun K hK => ?_) AllReadyH.nil
          go_simp
          refine hK.out _ _ ((hA _).cell 6 _ rfl) (fun hHeld => ?_)
          clear hK K
          refine wpAnyH_take (i := 8) (oi := _) (v := .string (Ck.bs m.b)) rfl (by kernel_rfl) (by kernel_rfl) (by kernel_rfl) (fun _ _ _ h => h) (Or.inl ⟨by rfl, fun wS hSw => by go_simp⟩) (by first | trivial | assumption) ?_
          simp only [Act.put, List.getElem_toArray, List.getElem_cons_zero, List.getElem_cons_succ, List.setIfInBounds_toArray, List.set_cons_zero, List.set_cons_succ]
          refine wpAnyH_done (by kernel_rfl) ?_ _
          go_wp2_with fail
          go_meet
          exact ⟨w2.heap.size, rfl, rfl, (Blk.new w2 35 [.int .i64 1, .int .i64 (m.b.length : Int)]).drew, by omega, by omega, (hX.alloc _).drew, ((Below.refl _ _).alloc (Nat.le_refl _) _).drew⟩
        case rest =>
        obtain ⟨M, rfl, rfl, hT, hne, hge, hX3, hB3⟩ := hcut
        replace hB := hB.trans (hB3.mono hB.size)
        have hQ3 := hide (And.intro (hQ2.out.1.below hB3) (hQ2.out.2.below hB3))
        clear hX hB3 hQ2 y6
        have t0 := hT.cell 0 _ rfl
        have t1 := hT.cell 1 _ rfl
        have y5 := hX3.cell 5 _ rfl
        clear hT hX3
        go_wp2_with fail
        refine (hf2 _ _ hQ3.out.1 hQ3.out.2.a).mono ?_
        rintro en w6 ⟨rfl, hb6⟩
        go_wp2_with fail
        go_ret2
        exact ⟨by rw [HR.out.1, HR.out.2]; rfl, hB.trans (hb6.mono hB.size)⟩
    · by_cases hF : wmF m true = 0
      · have hf2 : ∀ (u : Value) (W : World), Row W u m.L → Tabs W → Calls Tryz.prog 23 #[u, .agg #[.int .i64 2, .int .i64 0]] W fun en w' => en = .returned (.tuple #[.string (wmX m true), .int .i64 (wmF m true)]) ∧ Below W.heap.size W w' := hf
        have hV : wmE m true = 0 ∧ wmS m true = Sr.wrS m.s ++ ⟨#[13, 10]⟩ ++ wmX m true ++ ⟨#[13, 10]⟩ ++ (Ck.encS (Ck.bs m.b) ++ ⟨#[48, 13, 10, 13, 10]⟩) := by
          have e : wmE m true = 0 := HV.out.trans hF
          refine ⟨e, ?_⟩
          unfold wmS wmT wmX wmB
          rw [if_pos e, if_pos hF]; rfl
        rw [hF] at hf2
        have hxl := wmX_le hF
        have HR := hide hV
        generalize wmX m true = X at hf2 hxl HR
        clear hV HV hF hf h1 h2
        go_enter Tryz.func8, Tryz.ntmps8
        go_upto_region 1 with fail
        generalize World.alloc _ _ = W1 at hX hB hQ ⊢
        have x0 := hX.cell 0 _ rfl
        have x1 := hX.cell 1 _ rfl
        have x2 := hX.cell 2 _ rfl
        have x3 := hX.cell 3 _ rfl
        have x4 := hX.cell 4 _ rfl
        go_wp2_with fail
        refine (hp _ hQ.out.2.a).mono ?_
        rintro en w1 ⟨rfl, hb1⟩
        replace hX := hX.below hb1
        replace hB := hB.trans (hb1.mono hB.size)
        have hQ1 := hide (And.intro (hQ.out.1.below hb1) (hQ.out.2.below hb1))
        clear x0 x1 x2 x3 x4 hQ hb1 hp

        have y5 := hX.cell 5 _ rfl
        go_wp2_with fail
        refine (hrt _ _ hQ1.out.1).mono ?_
        rintro en w2 ⟨rfl, hb2⟩
        replace hX := hX.below hb2
        replace hB := hB.trans (hb2.mono hB.size)
        have hQ2 := hide (And.intro (hQ1.out.1.below hb2) (hQ1.out.2.below hb2))
        clear hQ1 hb2 y5 hrt
        have y6 := hX.cell 6 _ rfl
        go_wp2_with fail
        go_cut [8, 9] (fun s8 s9 wc => ∃ M : Nat, s8 = .pointer (some ⟨M, 0, none⟩) ∧ s9 = .string (Ck.bs m.b) ∧ Blk wc M 35 [.int .i64 1, .int .i64 (m.b.length : Int)] ∧ M ≠ w.heap.size ∧ w.heap.size ≤ M ∧ Blk wc w.heap.size 26 [.string m.s.m, .string m.s.t, .int .i64 m.s.c, .string m.s.r, .int .i64 m.s.n, .slice va m.L.length vc, .string (Ck.bs m.b)] ∧ Below w2.heap.size w2 wc)
        case first =>
          have hXd := hX.drew
          have hne := hX.lt
          refine wp_region_held_drew (S := (fun w' => w'.cell? ⟨w.heap.size, 6, none⟩ = some (.string (Ck.bs m.b)))) (by kernel_rfl) (y6) (fun hHeld => ?_)
          refine wpAnyH_take (i := 0) (oi := _) (v := .pointer (some ⟨w.heap.size, 6, none⟩)) rfl (by kernel_rfl) (by kernel_rfl) (by kernel_rfl) (fun _ _ _ h => h) (Or.inl ⟨by rfl, fun wS hSw => by go_simp⟩) (by first | trivial | assumption) ?_
          simp only [Act.put, List.getElem_toArray, List.getElem_cons_zero, List.getElem_cons_succ, List.setIfInBounds_toArray, List.set_cons_zero, List.set_cons_succ]
          refine wpAnyH_take (i := 1) (oi := _) (v := .string (Ck.bs m.b)) rfl (by kernel_rfl) (by kernel_rfl) (by kernel_rfl) (fun _ _ _ h => h) (Or.inl ⟨by kernel_rfl, fun wS hSw => by have c6 : wS.cell? ⟨w.heap.size, 6, none⟩ = some (.string (Ck.bs m.b)) := hSw; go_simp⟩) (by first | trivial | assumption) ?_
          simp only [Act.put, List.getElem_toArray, List.getElem_cons_zero, List.getElem_cons_succ, List.setIfInBounds_toArray, List.set_cons_zero, List.set_cons_succ]
          refine wpAnyH_take (i := 2) (oi := _) (v := .int .i64 (m.b.length : Int)) rfl (by kernel_rfl) (by kernel_rfl) (by kernel_rfl) (fun _ _ _ h => h) (Or.inl ⟨by rfl, fun wS hSw => by go_simp⟩) (by first | trivial | assumption) ?_
          simp only [Act.put, List.getElem_toArray, List.getElem_cons_zero, List.getElem_cons_succ, List.setIfInBounds_toArray, List.set_cons_zero, List.set_cons_succ]
          refine wpAnyH_take (i := 3) (oi := _) (v := .agg #[.int .i64 1, .int .i64 (m.b.length : Int)]) rfl (by kernel_rfl) (by kernel_rfl) (by kernel_rfl) (fun _ _ _ h => h) (Or.inl ⟨by rfl, fun wS hSw => by go_simp⟩) (by first | trivial | assumption) ?_
          simp only [Act.put, List.getElem_toArray, List.getElem_cons_zero, List.getElem_cons_succ, List.setIfInBounds_toArray, List.set_cons_zero, List.set_cons_succ]
          refine wpAnyH_take (i := 4) (oi := _) (v := .pointer (some ⟨w.heap.size, 6, none⟩)) rfl (by kernel_rfl) (by kernel_rfl) (by kernel_rfl) (fun _ _ _ h => h) (Or.inl ⟨by rfl, fun wS hSw => by go_simp⟩) (by first | trivial | assumption) ?_
          simp only [Act.put, List.getElem_toArray, List.getElem_cons_zero, List.getElem_cons_succ, List.setIfInBounds_toArray, List.set_cons_zero, List.set_cons_succ]
          refine wpAnyH_take (i := 5) (oi := _) (v := .string (Ck.bs m.b)) rfl (by kernel_rfl) (by kernel_rfl) (by kernel_rfl) (fun _ _ _ h => h) (Or.inl ⟨by kernel_rfl, fun wS hSw => by have c6 : wS.cell? ⟨w.heap.size, 6, none⟩ = some (.string (Ck.bs m.b)) := hSw; go_simp⟩) (by first | trivial | assumption) ?_
          simp only [Act.put, List.getElem_toArray, List.getElem_cons_zero, List.getElem_cons_succ, List.setIfInBounds_toArray, List.set_cons_zero, List.set_cons_succ]
          have hA : ∀ cs, Blk (w2.drew.alloc (.cells cs 35)) w.heap.size 26 [.string m.s.m, .string m.s.t, .int .i64 m.s.c, .string m.s.r, .int .i64 m.s.n, .slice va m.L.length vc, .string (Ck.bs m.b)] := fun cs => hXd.alloc _
          refine wpAnyH_ready (rs := [6]) (by kernel_rfl) (by simp) ?_
          refine AllReadyH.cons (o := _) rfl (fun K hK => ?_) AllReadyH.nil
          go_simp
          refine hK.out _ _ ((hA _).cell 6 _ rfl) (fun hHeld => ?_)
          clear hK K
          refine wpAnyH_ready (rs := [7]) (by kernel_rfl) (by simp) ?_
          refine AllReadyH.cons (o := _) rfl (fun K hK => ?_) AllReadyH.nil
          go_simp
          refine hK.out _ _ ((hA _).cell 6 _ rfl) (fun hHeld => ?_)
          clear hK K
          refine wpAnyH_take (i := 8) (oi := _) (v := .string (Ck.bs m.b)) rfl (by kernel_rfl) (by kernel_rfl) (by kernel_rfl) (fun _ _ _ h => h) (Or.inl ⟨by rfl, fun wS hSw => by go_simp⟩) (by first | trivial | assumption) ?_
          simp only [Act.put, List.getElem_toArray, List.getElem_cons_zero, List.getElem_cons_succ, List.setIfInBounds_toArray, List.set_cons_zero, List.set_cons_succ]
          refine wpAnyH_done (by kernel_rfl) ?_ _
          go_wp2_with fail
          go_meet
          exact ⟨w2.heap.size, rfl, rfl, (Blk.new w2 35 [.int .i64 1, .int .i64 (m.b.length : Int)]).drew, by omega, by omega, (hX.alloc _).drew, ((Below.refl _ _).alloc (Nat.le_refl _) _).drew⟩
        case rest =>
        obtain ⟨M, rfl, rfl, hT, hne, hge, hX3, hB3⟩ := hcut
        replace hB := hB.trans (hB3.mono hB.size)
        have hQ3 := hide (And.intro (hQ2.out.1.below hB3) (hQ2.out.2.below hB3))
        clear hX hB3 hQ2 y6
        have y6 := hX3.cell 6 _ rfl
        go_wp2_with fail
        refine (Ck.encode_any (Ck.bs m.b) _ (by omega) hQ3.out.2.b).mono ?_
        rintro en w4 ⟨rfl, hb4⟩
        have hT4 := hT.below hb4
        have hX4 := hX3.below hb4
        replace hB := hB.trans (hb4.mono hB.size)
        have hQ4 := hide (And.intro (hQ3.out.1.below hb4) (hQ3.out.2.below hb4))
        have hel := Ck.encS_size (Ck.bs m.b) (by omega)
        generalize Ck.encS (Ck.bs m.b) = EN at hel HR ⊢
        have hth := hT4.there 0 2 (show 0 + 2 ≤ 2 by decide)
        have hT5 : Blk (w4.setCells M 0 [.int .i64 2, .int .i64 0]) M 35 [.int .i64 2, .int .i64 0] := hT4.sets [.int .i64 2, .int .i64 0] 0 (show 0 + 2 ≤ 2 by decide)
        have hO := only_sets [.int .i64 2, .int .i64 0] 0 (only_refl w4 M)
        have hX5 := hX4.keep (hO.block _ hX4.lt (fun e => hne (Option.some.inj e).symm))
        have hB5 := hB.trans (below_only hO hge hB.size)
        have hR5 : Row (w4.setCells M 0 [.int .i64 2, .int .i64 0]) (.slice va m.L.length vc) m.L ∧ TT (w4.setCells M 0 [.int .i64 2, .int .i64 0]) := ⟨hQ0.out.1.below hB5, hQ0.out.2.below hB5⟩
        have HP := hide (And.intro hT5 (And.intro hX5 (And.intro hB5 hR5)))
        clear hT hX3 y6 hb4 hQ3 hQ4 hT4 hX4 hB hO hT5 hX5 hB5 hR5
        go_wp2_with fail
        refine (Ck.endc_any _).mono ?_
        rintro en w5 ⟨rfl, rfl⟩
        go_upto_region 7 with (refine wpList_store_mid rfl 35 (.tmp 8) (.tmp 38) rfl _ _ _ rfl rfl hth (by kernel_rfl) (by simp [Value.oneCell']) ?_)
        obtain ⟨hT, hX3, hB, hR5⟩ := HP.out
        have hQ3 := hide hR5
        clear HP hth hR5
        try simp only [Act.put]
        generalize World.setCells _ _ _ _ = W5 at hT hX3 hB hQ3 ⊢
        have t0 := hT.cell 0 _ rfl
        have t1 := hT.cell 1 _ rfl
        have y5 := hX3.cell 5 _ rfl
        clear hT hX3
        go_wp2_with fail
        refine (hf2 _ _ hQ3.out.1 hQ3.out.2.a).mono ?_
        rintro en w6 ⟨rfl, hb6⟩
        go_wp2_with fail
        go_ret2
        exact ⟨by rw [HR.out.1, HR.out.2]; rfl, hB.trans (hb6.mono hB.size)⟩
      · have hf2 : ∀ (u : Value) (W : World), Row W u m.L → Tabs W → Calls Tryz.prog 23 #[u, .agg #[.int .i64 2, .int .i64 0]] W fun en w' => en = .returned (.tuple #[.string (wmX m true), .int .i64 (wmF m true)]) ∧ Below W.heap.size W w' := hf
        have hV : wmE m true = wmF m true ∧ wmS m true = ⟨#[]⟩ := ⟨HV.out, by unfold wmS; rw [HV.out, if_neg hF]⟩
        have hx0 : wmX m true = ⟨#[]⟩ := by unfold wmX; rw [if_neg hF]
        rw [hx0] at hf2
        have hF1 : (wmF m true == 0) = false := by simpa using hF
        have hF2 : (wmF m true != 0) = true := by simpa using hF
        have HR := hide hV
        generalize wmF m true = E at hf2 hF1 hF2 HR
        clear hV HV hx0 hF hf h1 h2
        go_enter Tryz.func8, Tryz.ntmps8
        go_upto_region 1 with fail
        generalize World.alloc _ _ = W1 at hX hB hQ ⊢
        have x0 := hX.cell 0 _ rfl
        have x1 := hX.cell 1 _ rfl
        have x2 := hX.cell 2 _ rfl
        have x3 := hX.cell 3 _ rfl
        have x4 := hX.cell 4 _ rfl
        go_wp2_with fail
        refine (hp _ hQ.out.2.a).mono ?_
        rintro en w1 ⟨rfl, hb1⟩
        replace hX := hX.below hb1
        replace hB := hB.trans (hb1.mono hB.size)
        have hQ1 := hide (And.intro (hQ.out.1.below hb1) (hQ.out.2.below hb1))
        clear x0 x1 x2 x3 x4 hQ hb1 hp

        have y5 := hX.cell 5 _ rfl
        go_wp2_with fail
        refine (hrt _ _ hQ1.out.1).mono ?_
        rintro en w2 ⟨rfl, hb2⟩
        replace hX := hX.below hb2
        replace hB := hB.trans (hb2.mono hB.size)
        have hQ2 := hide (And.intro (hQ1.out.1.below hb2) (hQ1.out.2.below hb2))
        clear hQ1 hb2 y5 hrt
        have y6 := hX.cell 6 _ rfl
        go_wp2_with fail
        go_cut [8, 9] (fun s8 s9 wc => ∃ M : Nat, s8 = .pointer (some ⟨M, 0, none⟩) ∧ s9 = .string (Ck.bs m.b) ∧ Blk wc M 35 [.int .i64 1, .int .i64 (m.b.length : Int)] ∧ M ≠ w.heap.size ∧ w.heap.size ≤ M ∧ Blk wc w.heap.size 26 [.string m.s.m, .string m.s.t, .int .i64 m.s.c, .string m.s.r, .int .i64 m.s.n, .slice va m.L.length vc, .string (Ck.bs m.b)] ∧ Below w2.heap.size w2 wc)
        case first =>
          have hXd := hX.drew
          have hne := hX.lt
          refine wp_region_held_drew (S := (fun w' => w'.cell? ⟨w.heap.size, 6, none⟩ = some (.string (Ck.bs m.b)))) (by kernel_rfl) (y6) (fun hHeld => ?_)
          refine wpAnyH_take (i := 0) (oi := _) (v := .pointer (some ⟨w.heap.size, 6, none⟩)) rfl (by kernel_rfl) (by kernel_rfl) (by kernel_rfl) (fun _ _ _ h => h) (Or.inl ⟨by rfl, fun wS hSw => by go_simp⟩) (by first | trivial | assumption) ?_
          simp only [Act.put, List.getElem_toArray, List.getElem_cons_zero, List.getElem_cons_succ, List.setIfInBounds_toArray, List.set_cons_zero, List.set_cons_succ]
          refine wpAnyH_take (i := 1) (oi := _) (v := .string (Ck.bs m.b)) rfl (by kernel_rfl) (by kernel_rfl) (by kernel_rfl) (fun _ _ _ h => h) (Or.inl ⟨by kernel_rfl, fun wS hSw => by have c6 : wS.cell? ⟨w.heap.size, 6, none⟩ = some (.string (Ck.bs m.b)) := hSw; go_simp⟩) (by first | trivial | assumption) ?_
          simp only [Act.put, List.getElem_toArray, List.getElem_cons_zero, List.getElem_cons_succ, List.setIfInBounds_toArray, List.set_cons_zero, List.set_cons_succ]
          refine wpAnyH_take (i := 2) (oi := _) (v := .int .i64 (m.b.length : Int)) rfl (by kernel_rfl) (by kernel_rfl) (by kernel_rfl) (fun _ _ _ h => h) (Or.inl ⟨by rfl, fun wS hSw => by go_simp⟩) (by first | trivial | assumption) ?_
          simp only [Act.put, List.getElem_toArray, List.getElem_cons_zero, List.getElem_cons_succ, List.setIfInBounds_toArray, List.set_cons_zero, List.set_cons_succ]
          refine wpAnyH_take (i := 3) (oi := _) (v := .agg #[.int .i64 1, .int .i64 (m.b.length : Int)]) rfl (by kernel_rfl) (by kernel_rfl) (by kernel_rfl) (fun _ _ _ h => h) (Or.inl ⟨by rfl, fun wS hSw => by go_simp⟩) (by first | trivial | assumption) ?_
          simp only [Act.put, List.getElem_toArray, List.getElem_cons_zero, List.getElem_cons_succ, List.setIfInBounds_toArray, List.set_cons_zero, List.set_cons_succ]
          refine wpAnyH_take (i := 4) (oi := _) (v := .pointer (some ⟨w.heap.size, 6, none⟩)) rfl (by kernel_rfl) (by kernel_rfl) (by kernel_rfl) (fun _ _ _ h => h) (Or.inl ⟨by rfl, fun wS hSw => by go_simp⟩) (by first | trivial | assumption) ?_
          simp only [Act.put, List.getElem_toArray, List.getElem_cons_zero, List.getElem_cons_succ, List.setIfInBounds_toArray, List.set_cons_zero, List.set_cons_succ]
          refine wpAnyH_take (i := 5) (oi := _) (v := .string (Ck.bs m.b)) rfl (by kernel_rfl) (by kernel_rfl) (by kernel_rfl) (fun _ _ _ h => h) (Or.inl ⟨by kernel_rfl, fun wS hSw => by have c6 : wS.cell? ⟨w.heap.size, 6, none⟩ = some (.string (Ck.bs m.b)) := hSw; go_simp⟩) (by first | trivial | assumption) ?_
          simp only [Act.put, List.getElem_toArray, List.getElem_cons_zero, List.getElem_cons_succ, List.setIfInBounds_toArray, List.set_cons_zero, List.set_cons_succ]
          have hA : ∀ cs, Blk (w2.drew.alloc (.cells cs 35)) w.heap.size 26 [.string m.s.m, .string m.s.t, .int .i64 m.s.c, .string m.s.r, .int .i64 m.s.n, .slice va m.L.length vc, .string (Ck.bs m.b)] := fun cs => hXd.alloc _
          refine wpAnyH_ready (rs := [6]) (by kernel_rfl) (by simp) ?_
          refine AllReadyH.cons (o := _) rfl (fun K hK => ?_) AllReadyH.nil
          go_simp
          refine hK.out _ _ ((hA _).cell 6 _ rfl) (fun hHeld => ?_)
          clear hK K
          refine wpAnyH_ready (rs := [7]) (by kernel_rfl) (by simp) ?_
          refine AllReadyH.cons (o := _) rfl (fun K hK => ?_) AllReadyH.nil
          go_simp
          refine hK.out _ _ ((hA _).cell 6 _ rfl) (fun hHeld => ?_)
          clear hK K
          refine wpAnyH_take (i := 8) (oi := _) (v := .string (Ck.bs m.b)) rfl (by kernel_rfl) (by kernel_rfl) (by kernel_rfl) (fun _ _ _ h => h) (Or.inl ⟨by rfl, fun wS hSw => by go_simp⟩) (by first | trivial | assumption) ?_
          simp only [Act.put, List.getElem_toArray, List.getElem_cons_zero, List.getElem_cons_succ, List.setIfInBounds_toArray, List.set_cons_zero, List.set_cons_succ]
          refine wpAnyH_done (by kernel_rfl) ?_ _
          go_wp2_with fail
          go_meet
          exact ⟨w2.heap.size, rfl, rfl, (Blk.new w2 35 [.int .i64 1, .int .i64 (m.b.length : Int)]).drew, by omega, by omega, (hX.alloc _).drew, ((Below.refl _ _).alloc (Nat.le_refl _) _).drew⟩
        case rest =>
        obtain ⟨M, rfl, rfl, hT, hne, hge, hX3, hB3⟩ := hcut
        replace hB := hB.trans (hB3.mono hB.size)
        have hQ3 := hide (And.intro (hQ2.out.1.below hB3) (hQ2.out.2.below hB3))
        clear hX hB3 hQ2 y6
        have y6 := hX3.cell 6 _ rfl
        go_wp2_with fail
        refine (Ck.encode_any (Ck.bs m.b) _ (by omega) hQ3.out.2.b).mono ?_
        rintro en w4 ⟨rfl, hb4⟩
        have hT4 := hT.below hb4
        have hX4 := hX3.below hb4
        replace hB := hB.trans (hb4.mono hB.size)
        have hQ4 := hide (And.intro (hQ3.out.1.below hb4) (hQ3.out.2.below hb4))
        have hel := Ck.encS_size (Ck.bs m.b) (by omega)
        generalize Ck.encS (Ck.bs m.b) = EN at hel HR ⊢
        have hth := hT4.there 0 2 (show 0 + 2 ≤ 2 by decide)
        have hT5 : Blk (w4.setCells M 0 [.int .i64 2, .int .i64 0]) M 35 [.int .i64 2, .int .i64 0] := hT4.sets [.int .i64 2, .int .i64 0] 0 (show 0 + 2 ≤ 2 by decide)
        have hO := only_sets [.int .i64 2, .int .i64 0] 0 (only_refl w4 M)
        have hX5 := hX4.keep (hO.block _ hX4.lt (fun e => hne (Option.some.inj e).symm))
        have hB5 := hB.trans (below_only hO hge hB.size)
        have hR5 : Row (w4.setCells M 0 [.int .i64 2, .int .i64 0]) (.slice va m.L.length vc) m.L ∧ TT (w4.setCells M 0 [.int .i64 2, .int .i64 0]) := ⟨hQ0.out.1.below hB5, hQ0.out.2.below hB5⟩
        have HP := hide (And.intro hT5 (And.intro hX5 (And.intro hB5 hR5)))
        clear hT hX3 y6 hb4 hQ3 hQ4 hT4 hX4 hB hO hT5 hX5 hB5 hR5
        go_wp2_with fail
        refine (Ck.endc_any _).mono ?_
        rintro en w5 ⟨rfl, rfl⟩
        go_upto_region 7 with (refine wpList_store_mid rfl 35 (.tmp 8) (.tmp 38) rfl _ _ _ rfl rfl hth (by kernel_rfl) (by simp [Value.oneCell']) ?_)
        obtain ⟨hT, hX3, hB, hR5⟩ := HP.out
        have hQ3 := hide hR5
        clear HP hth hR5
        try simp only [Act.put]
        generalize World.setCells _ _ _ _ = W5 at hT hX3 hB hQ3 ⊢
        have t0 := hT.cell 0 _ rfl
        have t1 := hT.cell 1 _ rfl
        have y5 := hX3.cell 5 _ rfl
        clear hT hX3
        go_wp2_with fail
        refine (hf2 _ _ hQ3.out.1 hQ3.out.2.a).mono ?_
        rintro en w6 ⟨rfl, hb6⟩
        go_wp2_with fail
        go_ret2
        exact ⟨by rw [HR.out.1, HR.out.2]; rfl, hB.trans (hb6.mono hB.size)⟩
  · have hV : wmE m c = 1 ∧ wmS m c = ⟨#[]⟩ := by
      have : wmE m c = 1 := by unfold wmE; rw [h1, h2, decide_eq_false h3]; rfl
      exact ⟨this, by unfold wmS; rw [this]; rfl⟩
    have HV := hide hV
    have hbz : 20000 < (Ck.bs m.b).size := by omega
    have hbz2 : (Ck.bs m.b).size ≤ 30000 := by omega
    clear hV h1 h2 h3 hf hb
    go_enter Tryz.func8, Tryz.ntmps8
    go_upto_region 1 with fail
    generalize World.alloc _ _ = W1 at hX hB hQ ⊢
    have x0 := hX.cell 0 _ rfl
    have x1 := hX.cell 1 _ rfl
    have x2 := hX.cell 2 _ rfl
    have x3 := hX.cell 3 _ rfl
    have x4 := hX.cell 4 _ rfl
    go_wp2_with fail
    refine (hp _ hQ.out.2.a).mono ?_
    rintro en w1 ⟨rfl, hb1⟩
    replace hX := hX.below hb1
    replace hB := hB.trans (hb1.mono hB.size)
    have hQ1 := hide (And.intro (hQ.out.1.below hb1) (hQ.out.2.below hb1))
    clear x0 x1 x2 x3 x4 hQ hb1 hp

    have y5 := hX.cell 5 _ rfl
    go_wp2_with fail
    refine (hrt _ _ hQ1.out.1).mono ?_
    rintro en w2 ⟨rfl, hb2⟩
    have y6 := (hX.below hb2).cell 6 _ rfl
    go_wp2_with fail
    go_ret2
    exact ⟨by rw [HV.out.1, HV.out.2]; rfl, hB.trans (hb2.mono hB.size)⟩

end Go.Proofs.YtmpijlaidnhpnaaGreatDoor

namespace Go.Proofs.YtmpijlaidnhpnaaGreatDoor
set_option linter.unusedVariables false
set_option linter.unusedSimpArgs false
set_option maxRecDepth 100000
open Go.RowKit

theorem wr1_le (f : Fd) : (Hd.wr1 f).length = f.1.size + f.2.size + 4 := by
  have h1 : f.1.data.toList.length = f.1.size := by simp
  have h2 : f.2.data.toList.length = f.2.size := by simp
  unfold Hd.wr1
  simp only [List.length_append, List.length_cons, List.length_nil]
  omega
theorem wrLs_le : ∀ (L : List Fd), (∀ f ∈ L, f.1.size ≤ 10000 ∧ f.2.size ≤ 10000) → (Hd.wrL L).length ≤ L.length * 20004
  | [], _ => by simp [Hd.wrL]
  | f :: L, h => by
    have h1 := h f (by simp)
    have h2 := wrLs_le L (fun g hg => h g (by simp [hg]))
    have h3 := wr1_le f
    rw [Hd.wrL_cons, List.length_append, List.length_cons]
    omega
theorem wmL_le {m : Ms} {c : Bool} (hl : m.L.length ≤ 50) (hS : Sh m.L) : (Hd.wrL (wmL m c)).length ≤ 1000000 := by
  have h := wrLs_le (wmL m c) (wi_short _ hS)
  have h2 : (wmL m c).length ≤ 40 := wi_len
  omega

set_option maxHeartbeats 16000000 in
theorem refwwrite_any (m : Ms) (v : Value) (c : Bool) (w : World) (hr : Row w v m.L) (hs : Short m.s) (hl : m.L.length ≤ 50) (hS : Sh m.L) (hb : m.b.length ≤ 30000) (ht : TT w) :
    Calls Tryz.prog 9 #[m.v v, .bool c] w fun en w' => en = .returned (.tuple #[.string (wmS m c), .int .i64 (wmE m c)]) ∧ Below w.heap.size w w' := by
  have hp := fun W => srefright_any m.s W hs
  unfold St.v at hp
  have hrt := fun u W hW => refright_any m.L u W hW (by omega) hS
  have hws := fun h => wrS_le (s := m.s) h
  have hf := fun u W hW => refwith_any m.L u (wmK c) (wmZ m c) W hW hl hS
  obtain ⟨va, vc, rfl⟩ := hr.slice
  have hX : Blk (w.alloc (.cells (m.cs (.slice va m.L.length vc)).toArray 26)) w.heap.size 26 (m.cs (.slice va m.L.length vc)) := Blk.new w 26 _
  have hB : Below w.heap.size w (w.alloc (.cells (m.cs (.slice va m.L.length vc)).toArray 26)) := (Below.refl _ _).alloc (Nat.le_refl _) _
  have hQ := hide (And.intro (hr.below hB) (ht.below hB))
  unfold Ms.v
  unfold Ms.cs at hX hB hQ
  have hbs : (Ck.bs m.b).size = m.b.length := Ck.bs_size _
  have hQ0 := hide (And.intro hr ht)
  clear hr ht
  cases h1 : rtB m.s
  · rw [h1] at hp
    have hV : wmE m c = 1 ∧ wmS m c = ⟨#[]⟩ := by
      have : wmE m c = 1 := by unfold wmE; rw [h1]; rfl
      exact ⟨this, by unfold wmS; rw [this]; rfl⟩
    have HV := hide hV
    clear hV
    go_enter Tryz.func9, Tryz.ntmps9
    go_upto_region 1 with fail
    generalize World.alloc _ _ = W1 at hX hB hQ ⊢
    have x0 := hX.cell 0 _ rfl
    have x1 := hX.cell 1 _ rfl
    have x2 := hX.cell 2 _ rfl
    have x3 := hX.cell 3 _ rfl
    have x4 := hX.cell 4 _ rfl
    go_wp2_with fail
    refine (hp _).mono ?_
    rintro en w1 ⟨rfl, hb1⟩
    replace hX := hX.below hb1
    replace hB := hB.trans (hb1.mono hB.size)
    have hQ1 := hide (And.intro (hQ.out.1.below hb1) (hQ.out.2.below hb1))
    clear x0 x1 x2 x3 x4 hQ hb1 hp

    go_wp2_with fail
    go_ret2
    exact ⟨by rw [HV.out.1, HV.out.2]; rfl, hB⟩
  rw [h1] at hp
  cases h2 : rightF m.L
  · rw [h2] at hrt
    have hV : wmE m c = 1 ∧ wmS m c = ⟨#[]⟩ := by
      have : wmE m c = 1 := by unfold wmE; rw [h1, h2]; rfl
      exact ⟨this, by unfold wmS; rw [this]; rfl⟩
    have HV := hide hV
    clear hV
    go_enter Tryz.func9, Tryz.ntmps9
    go_upto_region 1 with fail
    generalize World.alloc _ _ = W1 at hX hB hQ ⊢
    have x0 := hX.cell 0 _ rfl
    have x1 := hX.cell 1 _ rfl
    have x2 := hX.cell 2 _ rfl
    have x3 := hX.cell 3 _ rfl
    have x4 := hX.cell 4 _ rfl
    go_wp2_with fail
    refine (hp _).mono ?_
    rintro en w1 ⟨rfl, hb1⟩
    replace hX := hX.below hb1
    replace hB := hB.trans (hb1.mono hB.size)
    have hQ1 := hide (And.intro (hQ.out.1.below hb1) (hQ.out.2.below hb1))
    clear x0 x1 x2 x3 x4 hQ hb1 hp

    have y5 := hX.cell 5 _ rfl
    go_wp2_with fail
    refine (hrt _ _ hQ1.out.1).mono ?_
    rintro en w2 ⟨rfl, hb2⟩
    replace hB := hB.trans (hb2.mono hB.size)
    have y6 := (hX.below hb2).cell 6 _ rfl

    go_wp2_with fail
    go_ret2
    exact ⟨by rw [HV.out.1, HV.out.2]; rfl, hB⟩
  rw [h2] at hrt
  by_cases h3 : m.b.length ≤ 20000
  · have HV : Hid (wmE m c = wmF m c) := by unfold Hid wmE; rw [h1, h2, decide_eq_true h3]; rfl
    have hwl := hws h1
    have hbz : (Ck.bs m.b).size ≤ 20000 := by omega
    cases c
    · by_cases hF : wmD m false = 0
      · by_cases hG : 4000 < (Hd.wrL (wmL m false)).length
        · have hf2 : ∀ (u : Value) (W : World), Row W u m.L → Calls Tryz.prog 27 #[u, .agg #[.int .i64 1, .int .i64 (m.b.length : Int)]] W fun en w' => ∃ r, en = .returned (.tuple #[r, .int .i64 (wmD m false : Nat)]) ∧ Own w' W.heap.size r (wmL m false) ∧ Below W.heap.size W w' := hf
          have hV : wmE m false = 2 ∧ wmS m false = ⟨#[]⟩ := by
            have e : wmE m false = 2 := by rw [HV.out]; unfold wmF; rw [if_neg (by omega), if_pos hG]
            exact ⟨e, by unfold wmS; rw [e]; rfl⟩
          have HR := hide hV
          rw [hF] at hf2
          clear hV HV hF hf h1 h2
          go_enter Tryz.func9, Tryz.ntmps9
          go_upto_region 1 with fail
          generalize World.alloc _ _ = W1 at hX hB hQ ⊢
          have x0 := hX.cell 0 _ rfl
          have x1 := hX.cell 1 _ rfl
          have x2 := hX.cell 2 _ rfl
          have x3 := hX.cell 3 _ rfl
          have x4 := hX.cell 4 _ rfl
          go_wp2_with fail
          refine (hp _).mono ?_
          rintro en w1 ⟨rfl, hb1⟩
          replace hX := hX.below hb1
          replace hB := hB.trans (hb1.mono hB.size)
          have hQ1 := hide (And.intro (hQ.out.1.below hb1) (hQ.out.2.below hb1))
          clear x0 x1 x2 x3 x4 hQ hb1 hp

          have y5 := hX.cell 5 _ rfl
          go_wp2_with fail
          refine (hrt _ _ hQ1.out.1).mono ?_
          rintro en w2 ⟨rfl, hb2⟩
          replace hX := hX.below hb2
          replace hB := hB.trans (hb2.mono hB.size)
          have hQ2 := hide (And.intro (hQ1.out.1.below hb2) (hQ1.out.2.below hb2))
          clear hQ1 hb2 y5 hrt
          have y6 := hX.cell 6 _ rfl
          have hne := hX.lt
          have hXa := hX.alloc (.cells #[.int .i64 1, .int .i64 (m.b.length : Int)] 35)
          have hT : Blk (w2.alloc (.cells #[.int .i64 1, .int .i64 (m.b.length : Int)] 35)) w2.heap.size 35 [.int .i64 1, .int .i64 (m.b.length : Int)] := Blk.new w2 35 [.int .i64 1, .int .i64 (m.b.length : Int)]
          have hBa : Below w.heap.size w (w2.alloc (.cells #[.int .i64 1, .int .i64 (m.b.length : Int)] 35)) := hB.alloc hB.size _
          have hge := hB.size
          have ya6 := hXa.cell 6 _ rfl
          go_upto_region 5 with fail
          generalize World.alloc _ _ = W3 at hXa hT hBa ya6 ⊢
          generalize w2.heap.size = M at hT hne hge ⊢
          have hQ3 := hide (And.intro (hQ0.out.1.below hBa) (hQ0.out.2.below hBa))
          clear hX hB hQ2 y6
          have t0 := hT.cell 0 _ rfl
          have t1 := hT.cell 1 _ rfl
          have y5 := hXa.cell 5 _ rfl
          clear hT
          go_wp2_with fail
          refine (hf2 _ _ hQ3.out.1).mono ?_
          rintro en w6 ⟨u6, rfl, hO6, hb6⟩
          replace hXa := hXa.below hb6
          replace hBa := hBa.trans (hb6.mono hBa.size)
          clear t0 t1 y5
          go_wp2_with fail
          refine (Hd.refwrite_any (wmL m false) u6 _ hO6.row (Nat.le_trans wi_len (by decide)) (wi_short _ hS)).mono ?_
          rintro en w7 ⟨rfl, hb7⟩
          replace hXa := hXa.below hb7
          replace hBa := hBa.trans (hb7.mono hBa.size)
          have hxl : (Hd.bs (Hd.wrL (wmL m false))).size = (Hd.wrL (wmL m false)).length := Hd.bs_size _
          have hle := wmL_le (m := m) (c := false) hl hS
          generalize hX0 : Hd.bs (Hd.wrL (wmL m false)) = X at hxl ⊢
          rw [← hxl] at hG hle
          clear hxl hX0 hb7 hO6 hb6
          go_wp2_with fail
          go_ret2
          exact ⟨by rw [HR.out.1, HR.out.2]; rfl, hBa⟩
        · have hf2 : ∀ (u : Value) (W : World), Row W u m.L → Calls Tryz.prog 27 #[u, .agg #[.int .i64 1, .int .i64 (m.b.length : Int)]] W fun en w' => ∃ r, en = .returned (.tuple #[r, .int .i64 (wmD m false : Nat)]) ∧ Own w' W.heap.size r (wmL m false) ∧ Below W.heap.size W w' := hf
          have hV : wmE m false = 0 ∧ wmS m false = Sr.wrS m.s ++ ⟨#[13, 10]⟩ ++ Hd.bs (Hd.wrL (wmL m false)) ++ ⟨#[13, 10]⟩ ++ Ck.bs m.b := by
            have e : wmE m false = 0 := by rw [HV.out]; unfold wmF; rw [if_neg (by omega), if_neg hG]
            refine ⟨e, ?_⟩
            unfold wmS wmT wmB
            rw [if_pos e]; rfl
          have HR := hide hV
          rw [hF] at hf2
          have hpr := fun W => Sr.refprint_any m.s W hs h1
          unfold St.v at hpr
          clear hV HV hF hf h1 h2
          go_enter Tryz.func9, Tryz.ntmps9
          go_upto_region 1 with fail
          generalize World.alloc _ _ = W1 at hX hB hQ ⊢
          have x0 := hX.cell 0 _ rfl
          have x1 := hX.cell 1 _ rfl
          have x2 := hX.cell 2 _ rfl
          have x3 := hX.cell 3 _ rfl
          have x4 := hX.cell 4 _ rfl
          go_wp2_with fail
          refine (hp _).mono ?_
          rintro en w1 ⟨rfl, hb1⟩
          replace hX := hX.below hb1
          replace hB := hB.trans (hb1.mono hB.size)
          have hQ1 := hide (And.intro (hQ.out.1.below hb1) (hQ.out.2.below hb1))
          clear x0 x1 x2 x3 x4 hQ hb1 hp

          have y5 := hX.cell 5 _ rfl
          go_wp2_with fail
          refine (hrt _ _ hQ1.out.1).mono ?_
          rintro en w2 ⟨rfl, hb2⟩
          replace hX := hX.below hb2
          replace hB := hB.trans (hb2.mono hB.size)
          have hQ2 := hide (And.intro (hQ1.out.1.below hb2) (hQ1.out.2.below hb2))
          clear hQ1 hb2 y5 hrt
          have y6 := hX.cell 6 _ rfl
          have hne := hX.lt
          have hXa := hX.alloc (.cells #[.int .i64 1, .int .i64 (m.b.length : Int)] 35)
          have hT : Blk (w2.alloc (.cells #[.int .i64 1, .int .i64 (m.b.length : Int)] 35)) w2.heap.size 35 [.int .i64 1, .int .i64 (m.b.length : Int)] := Blk.new w2 35 [.int .i64 1, .int .i64 (m.b.length : Int)]
          have hBa : Below w.heap.size w (w2.alloc (.cells #[.int .i64 1, .int .i64 (m.b.length : Int)] 35)) := hB.alloc hB.size _
          have hge := hB.size
          have ya6 := hXa.cell 6 _ rfl
          go_upto_region 5 with fail
          generalize World.alloc _ _ = W3 at hXa hT hBa ya6 ⊢
          generalize w2.heap.size = M at hT hne hge ⊢
          have hQ3 := hide (And.intro (hQ0.out.1.below hBa) (hQ0.out.2.below hBa))
          clear hX hB hQ2 y6
          have t0 := hT.cell 0 _ rfl
          have t1 := hT.cell 1 _ rfl
          have y5 := hXa.cell 5 _ rfl
          clear hT
          go_wp2_with fail
          refine (hf2 _ _ hQ3.out.1).mono ?_
          rintro en w6 ⟨u6, rfl, hO6, hb6⟩
          replace hXa := hXa.below hb6
          replace hBa := hBa.trans (hb6.mono hBa.size)
          clear t0 t1 y5
          go_wp2_with fail
          refine (Hd.refwrite_any (wmL m false) u6 _ hO6.row (Nat.le_trans wi_len (by decide)) (wi_short _ hS)).mono ?_
          rintro en w7 ⟨rfl, hb7⟩
          replace hXa := hXa.below hb7
          replace hBa := hBa.trans (hb7.mono hBa.size)
          have hxl : (Hd.bs (Hd.wrL (wmL m false))).size = (Hd.wrL (wmL m false)).length := Hd.bs_size _
          have hle := wmL_le (m := m) (c := false) hl hS
          generalize hX0 : Hd.bs (Hd.wrL (wmL m false)) = X at hxl HR ⊢
          rw [← hxl] at hG hle
          clear hxl hX0 hb7 hO6 hb6
          have x0 := hXa.cell 0 _ rfl
          have x1 := hXa.cell 1 _ rfl
          have x2 := hXa.cell 2 _ rfl
          have x3 := hXa.cell 3 _ rfl
          have x4 := hXa.cell 4 _ rfl
          go_wp2_with fail
          refine (hpr _).mono ?_
          rintro en w8 ⟨rfl, hb8⟩
          go_wp2_with fail
          go_ret2
          exact ⟨by rw [HR.out.1, HR.out.2]; rfl, hBa.trans (hb8.mono hBa.size)⟩
      · have hf2 : ∀ (u : Value) (W : World), Row W u m.L → Calls Tryz.prog 27 #[u, .agg #[.int .i64 1, .int .i64 (m.b.length : Int)]] W fun en w' => ∃ r, en = .returned (.tuple #[r, .int .i64 (wmD m false : Nat)]) ∧ Own w' W.heap.size r (wmL m false) ∧ Below W.heap.size W w' := hf
        have hV : wmE m false = ((wmD m false : Nat) : Int) ∧ wmS m false = ⟨#[]⟩ := by
          have e : wmE m false = ((wmD m false : Nat) : Int) := by rw [HV.out]; unfold wmF; rw [if_pos hF]
          exact ⟨e, by unfold wmS; rw [e, if_neg (by omega)]⟩
        have hF0 : ((wmD m false : Nat) : Int) ≠ 0 := by omega
        have hF1 : (((wmD m false : Nat) : Int) == 0) = false := by simpa using hF0
        have hF2 : (((wmD m false : Nat) : Int) != 0) = true := by simpa using hF0
        have HR := hide hV
        generalize ((wmD m false : Nat) : Int) = E at hf2 hF1 hF2 HR
        clear hV HV hF hF0 hf h1 h2
        go_enter Tryz.func9, Tryz.ntmps9
        go_upto_region 1 with fail
        generalize World.alloc _ _ = W1 at hX hB hQ ⊢
        have x0 := hX.cell 0 _ rfl
        have x1 := hX.cell 1 _ rfl
        have x2 := hX.cell 2 _ rfl
        have x3 := hX.cell 3 _ rfl
        have x4 := hX.cell 4 _ rfl
        go_wp2_with fail
        refine (hp _).mono ?_
        rintro en w1 ⟨rfl, hb1⟩
        replace hX := hX.below hb1
        replace hB := hB.trans (hb1.mono hB.size)
        have hQ1 := hide (And.intro (hQ.out.1.below hb1) (hQ.out.2.below hb1))
        clear x0 x1 x2 x3 x4 hQ hb1 hp

        have y5 := hX.cell 5 _ rfl
        go_wp2_with fail
        refine (hrt _ _ hQ1.out.1).mono ?_
        rintro en w2 ⟨rfl, hb2⟩
        replace hX := hX.below hb2
        replace hB := hB.trans (hb2.mono hB.size)
        have hQ2 := hide (And.intro (hQ1.out.1.below hb2) (hQ1.out.2.below hb2))
        clear hQ1 hb2 y5 hrt
        have y6 := hX.cell 6 _ rfl
        have hne := hX.lt
        have hXa := hX.alloc (.cells #[.int .i64 1, .int .i64 (m.b.length : Int)] 35)
        have hT : Blk (w2.alloc (.cells #[.int .i64 1, .int .i64 (m.b.length : Int)] 35)) w2.heap.size 35 [.int .i64 1, .int .i64 (m.b.length : Int)] := Blk.new w2 35 [.int .i64 1, .int .i64 (m.b.length : Int)]
        have hBa : Below w.heap.size w (w2.alloc (.cells #[.int .i64 1, .int .i64 (m.b.length : Int)] 35)) := hB.alloc hB.size _
        have hge := hB.size
        have ya6 := hXa.cell 6 _ rfl
        go_upto_region 5 with fail
        generalize World.alloc _ _ = W3 at hXa hT hBa ya6 ⊢
        generalize w2.heap.size = M at hT hne hge ⊢
        have hQ3 := hide (And.intro (hQ0.out.1.below hBa) (hQ0.out.2.below hBa))
        clear hX hB hQ2 y6
        have t0 := hT.cell 0 _ rfl
        have t1 := hT.cell 1 _ rfl
        have y5 := hXa.cell 5 _ rfl
        clear hT
        go_wp2_with fail
        refine (hf2 _ _ hQ3.out.1).mono ?_
        rintro en w6 ⟨u6, rfl, hO6, hb6⟩
        replace hXa := hXa.below hb6
        replace hBa := hBa.trans (hb6.mono hBa.size)
        clear t0 t1 y5
        go_wp2_with fail
        go_ret2
        exact ⟨by rw [HR.out.1, HR.out.2]; rfl, hBa⟩
    · by_cases hF : wmD m true = 0
      · by_cases hG : 4000 < (Hd.wrL (wmL m true)).length
        · have hf2 : ∀ (u : Value) (W : World), Row W u m.L → Calls Tryz.prog 27 #[u, .agg #[.int .i64 2, .int .i64 0]] W fun en w' => ∃ r, en = .returned (.tuple #[r, .int .i64 (wmD m true : Nat)]) ∧ Own w' W.heap.size r (wmL m true) ∧ Below W.heap.size W w' := hf
          have hV : wmE m true = 2 ∧ wmS m true = ⟨#[]⟩ := by
            have e : wmE m true = 2 := by rw [HV.out]; unfold wmF; rw [if_neg (by omega), if_pos hG]
            exact ⟨e, by unfold wmS; rw [e]; rfl⟩
          have HR := hide hV
          rw [hF] at hf2
          clear hV HV hF hf h1 h2
          go_enter Tryz.func9, Tryz.ntmps9
          go_upto_region 1 with fail
          generalize World.alloc _ _ = W1 at hX hB hQ ⊢
          have x0 := hX.cell 0 _ rfl
          have x1 := hX.cell 1 _ rfl
          have x2 := hX.cell 2 _ rfl
          have x3 := hX.cell 3 _ rfl
          have x4 := hX.cell 4 _ rfl
          go_wp2_with fail
          refine (hp _).mono ?_
          rintro en w1 ⟨rfl, hb1⟩
          replace hX := hX.below hb1
          replace hB := hB.trans (hb1.mono hB.size)
          have hQ1 := hide (And.intro (hQ.out.1.below hb1) (hQ.out.2.below hb1))
          clear x0 x1 x2 x3 x4 hQ hb1 hp

          have y5 := hX.cell 5 _ rfl
          go_wp2_with fail
          refine (hrt _ _ hQ1.out.1).mono ?_
          rintro en w2 ⟨rfl, hb2⟩
          replace hX := hX.below hb2
          replace hB := hB.trans (hb2.mono hB.size)
          have hQ2 := hide (And.intro (hQ1.out.1.below hb2) (hQ1.out.2.below hb2))
          clear hQ1 hb2 y5 hrt
          have y6 := hX.cell 6 _ rfl
          have hne := hX.lt
          have hXa := hX.alloc (.cells #[.int .i64 1, .int .i64 (m.b.length : Int)] 35)
          have hT : Blk (w2.alloc (.cells #[.int .i64 1, .int .i64 (m.b.length : Int)] 35)) w2.heap.size 35 [.int .i64 1, .int .i64 (m.b.length : Int)] := Blk.new w2 35 [.int .i64 1, .int .i64 (m.b.length : Int)]
          have hBa : Below w.heap.size w (w2.alloc (.cells #[.int .i64 1, .int .i64 (m.b.length : Int)] 35)) := hB.alloc hB.size _
          have hge := hB.size
          have ya6 := hXa.cell 6 _ rfl
          go_upto_region 5 with fail
          generalize World.alloc _ _ = W3 at hXa hT hBa ya6 ⊢
          generalize w2.heap.size = M at hT hne hge ⊢
          have hQ3 := hide (And.intro (hQ0.out.1.below hBa) (hQ0.out.2.below hBa))
          clear hX hB hQ2 y6
          have hth := hT.there 0 2 (show 0 + 2 ≤ 2 by decide)
          have hT5 : Blk (W3.setCells M 0 [.int .i64 2, .int .i64 0]) M 35 [.int .i64 2, .int .i64 0] := hT.sets [.int .i64 2, .int .i64 0] 0 (show 0 + 2 ≤ 2 by decide)
          have hO := only_sets [.int .i64 2, .int .i64 0] 0 (only_refl W3 M)
          have hX5 := hXa.keep (hO.block _ hXa.lt (fun e => absurd (Option.some.inj e) (by omega)))
          have hB5 := hBa.trans (below_only hO hge hBa.size)
          have hR5 : Row (W3.setCells M 0 [.int .i64 2, .int .i64 0]) (.slice va m.L.length vc) m.L ∧ TT (W3.setCells M 0 [.int .i64 2, .int .i64 0]) := ⟨hQ0.out.1.below hB5, hQ0.out.2.below hB5⟩
          have HP := hide (And.intro hT5 (And.intro hX5 (And.intro hB5 hR5)))
          clear hT hXa ya6 hQ3 hBa hO hT5 hX5 hB5 hR5
          go_wp2_with (refine wpList_store_mid rfl 35 (.tmp 6) (.tmp 34) rfl M 0 #[.int .i64 2, .int .i64 0] rfl rfl hth (by kernel_rfl) (by simp [Value.oneCell']) ?_; obtain ⟨hT, hXa, hBa, hR5⟩ := HP.out; generalize World.setCells _ _ _ _ = W5 at hT hXa hBa hR5 ⊢; have hQ3 := hide hR5; clear HP hth hR5)
          refine (refencode_any (Ck.bs m.b) _ (by omega)).mono ?_
          rintro en w4 ⟨rfl, hb4⟩
          replace hT := hT.below hb4
          replace hXa := hXa.below hb4
          replace hBa := hBa.trans (hb4.mono hBa.size)
          have hQ4 := hide (And.intro (hQ3.out.1.below hb4) (hQ3.out.2.below hb4))
          clear hQ3 hb4
          have hQ3 := hide hQ4.out
          have hel := Ck.encS_size (Ck.bs m.b) (by omega)
          generalize Ck.encS (Ck.bs m.b) = EN at hel HR ⊢
          clear hQ4
          have t0 := hT.cell 0 _ rfl
          have t1 := hT.cell 1 _ rfl
          have y5 := hXa.cell 5 _ rfl
          clear hT
          go_wp2_with fail
          refine (hf2 _ _ hQ3.out.1).mono ?_
          rintro en w6 ⟨u6, rfl, hO6, hb6⟩
          replace hXa := hXa.below hb6
          replace hBa := hBa.trans (hb6.mono hBa.size)
          clear t0 t1 y5
          go_wp2_with fail
          refine (Hd.refwrite_any (wmL m true) u6 _ hO6.row (Nat.le_trans wi_len (by decide)) (wi_short _ hS)).mono ?_
          rintro en w7 ⟨rfl, hb7⟩
          replace hXa := hXa.below hb7
          replace hBa := hBa.trans (hb7.mono hBa.size)
          have hxl : (Hd.bs (Hd.wrL (wmL m true))).size = (Hd.wrL (wmL m true)).length := Hd.bs_size _
          have hle := wmL_le (m := m) (c := true) hl hS
          generalize hX0 : Hd.bs (Hd.wrL (wmL m true)) = X at hxl ⊢
          rw [← hxl] at hG hle
          clear hxl hX0 hb7 hO6 hb6
          go_wp2_with fail
          go_ret2
          exact ⟨by rw [HR.out.1, HR.out.2]; rfl, hBa⟩
        · have hf2 : ∀ (u : Value) (W : World), Row W u m.L → Calls Tryz.prog 27 #[u, .agg #[.int .i64 2, .int .i64 0]] W fun en w' => ∃ r, en = .returned (.tuple #[r, .int .i64 (wmD m true : Nat)]) ∧ Own w' W.heap.size r (wmL m true) ∧ Below W.heap.size W w' := hf
          have hV : wmE m true = 0 ∧ wmS m true = Sr.wrS m.s ++ ⟨#[13, 10]⟩ ++ Hd.bs (Hd.wrL (wmL m true)) ++ ⟨#[13, 10]⟩ ++ (Ck.encS (Ck.bs m.b) ++ ⟨#[48, 13, 10, 13, 10]⟩) := by
            have e : wmE m true = 0 := by rw [HV.out]; unfold wmF; rw [if_neg (by omega), if_neg hG]
            refine ⟨e, ?_⟩
            unfold wmS wmT wmB
            rw [if_pos e]; rfl
          have HR := hide hV
          rw [hF] at hf2
          have hpr := fun W => Sr.refprint_any m.s W hs h1
          unfold St.v at hpr
          clear hV HV hF hf h1 h2
          go_enter Tryz.func9, Tryz.ntmps9
          go_upto_region 1 with fail
          generalize World.alloc _ _ = W1 at hX hB hQ ⊢
          have x0 := hX.cell 0 _ rfl
          have x1 := hX.cell 1 _ rfl
          have x2 := hX.cell 2 _ rfl
          have x3 := hX.cell 3 _ rfl
          have x4 := hX.cell 4 _ rfl
          go_wp2_with fail
          refine (hp _).mono ?_
          rintro en w1 ⟨rfl, hb1⟩
          replace hX := hX.below hb1
          replace hB := hB.trans (hb1.mono hB.size)
          have hQ1 := hide (And.intro (hQ.out.1.below hb1) (hQ.out.2.below hb1))
          clear x0 x1 x2 x3 x4 hQ hb1 hp

          have y5 := hX.cell 5 _ rfl
          go_wp2_with fail
          refine (hrt _ _ hQ1.out.1).mono ?_
          rintro en w2 ⟨rfl, hb2⟩
          replace hX := hX.below hb2
          replace hB := hB.trans (hb2.mono hB.size)
          have hQ2 := hide (And.intro (hQ1.out.1.below hb2) (hQ1.out.2.below hb2))
          clear hQ1 hb2 y5 hrt
          have y6 := hX.cell 6 _ rfl
          have hne := hX.lt
          have hXa := hX.alloc (.cells #[.int .i64 1, .int .i64 (m.b.length : Int)] 35)
          have hT : Blk (w2.alloc (.cells #[.int .i64 1, .int .i64 (m.b.length : Int)] 35)) w2.heap.size 35 [.int .i64 1, .int .i64 (m.b.length : Int)] := Blk.new w2 35 [.int .i64 1, .int .i64 (m.b.length : Int)]
          have hBa : Below w.heap.size w (w2.alloc (.cells #[.int .i64 1, .int .i64 (m.b.length : Int)] 35)) := hB.alloc hB.size _
          have hge := hB.size
          have ya6 := hXa.cell 6 _ rfl
          go_upto_region 5 with fail
          generalize World.alloc _ _ = W3 at hXa hT hBa ya6 ⊢
          generalize w2.heap.size = M at hT hne hge ⊢
          have hQ3 := hide (And.intro (hQ0.out.1.below hBa) (hQ0.out.2.below hBa))
          clear hX hB hQ2 y6
          have hth := hT.there 0 2 (show 0 + 2 ≤ 2 by decide)
          have hT5 : Blk (W3.setCells M 0 [.int .i64 2, .int .i64 0]) M 35 [.int .i64 2, .int .i64 0] := hT.sets [.int .i64 2, .int .i64 0] 0 (show 0 + 2 ≤ 2 by decide)
          have hO := only_sets [.int .i64 2, .int .i64 0] 0 (only_refl W3 M)
          have hX5 := hXa.keep (hO.block _ hXa.lt (fun e => absurd (Option.some.inj e) (by omega)))
          have hB5 := hBa.trans (below_only hO hge hBa.size)
          have hR5 : Row (W3.setCells M 0 [.int .i64 2, .int .i64 0]) (.slice va m.L.length vc) m.L ∧ TT (W3.setCells M 0 [.int .i64 2, .int .i64 0]) := ⟨hQ0.out.1.below hB5, hQ0.out.2.below hB5⟩
          have HP := hide (And.intro hT5 (And.intro hX5 (And.intro hB5 hR5)))
          clear hT hXa ya6 hQ3 hBa hO hT5 hX5 hB5 hR5
          go_wp2_with (refine wpList_store_mid rfl 35 (.tmp 6) (.tmp 34) rfl M 0 #[.int .i64 2, .int .i64 0] rfl rfl hth (by kernel_rfl) (by simp [Value.oneCell']) ?_; obtain ⟨hT, hXa, hBa, hR5⟩ := HP.out; generalize World.setCells _ _ _ _ = W5 at hT hXa hBa hR5 ⊢; have hQ3 := hide hR5; clear HP hth hR5)
          refine (refencode_any (Ck.bs m.b) _ (by omega)).mono ?_
          rintro en w4 ⟨rfl, hb4⟩
          replace hT := hT.below hb4
          replace hXa := hXa.below hb4
          replace hBa := hBa.trans (hb4.mono hBa.size)
          have hQ4 := hide (And.intro (hQ3.out.1.below hb4) (hQ3.out.2.below hb4))
          clear hQ3 hb4
          have hQ3 := hide hQ4.out
          have hel := Ck.encS_size (Ck.bs m.b) (by omega)
          generalize Ck.encS (Ck.bs m.b) = EN at hel HR ⊢
          clear hQ4
          have t0 := hT.cell 0 _ rfl
          have t1 := hT.cell 1 _ rfl
          have y5 := hXa.cell 5 _ rfl
          clear hT
          go_wp2_with fail
          refine (hf2 _ _ hQ3.out.1).mono ?_
          rintro en w6 ⟨u6, rfl, hO6, hb6⟩
          replace hXa := hXa.below hb6
          replace hBa := hBa.trans (hb6.mono hBa.size)
          clear t0 t1 y5
          go_wp2_with fail
          refine (Hd.refwrite_any (wmL m true) u6 _ hO6.row (Nat.le_trans wi_len (by decide)) (wi_short _ hS)).mono ?_
          rintro en w7 ⟨rfl, hb7⟩
          replace hXa := hXa.below hb7
          replace hBa := hBa.trans (hb7.mono hBa.size)
          have hxl : (Hd.bs (Hd.wrL (wmL m true))).size = (Hd.wrL (wmL m true)).length := Hd.bs_size _
          have hle := wmL_le (m := m) (c := true) hl hS
          generalize hX0 : Hd.bs (Hd.wrL (wmL m true)) = X at hxl HR ⊢
          rw [← hxl] at hG hle
          clear hxl hX0 hb7 hO6 hb6
          have x0 := hXa.cell 0 _ rfl
          have x1 := hXa.cell 1 _ rfl
          have x2 := hXa.cell 2 _ rfl
          have x3 := hXa.cell 3 _ rfl
          have x4 := hXa.cell 4 _ rfl
          go_wp2_with fail
          refine (hpr _).mono ?_
          rintro en w8 ⟨rfl, hb8⟩
          go_wp2_with fail
          go_ret2
          exact ⟨by rw [HR.out.1, HR.out.2]; rfl, hBa.trans (hb8.mono hBa.size)⟩
      · have hf2 : ∀ (u : Value) (W : World), Row W u m.L → Calls Tryz.prog 27 #[u, .agg #[.int .i64 2, .int .i64 0]] W fun en w' => ∃ r, en = .returned (.tuple #[r, .int .i64 (wmD m true : Nat)]) ∧ Own w' W.heap.size r (wmL m true) ∧ Below W.heap.size W w' := hf
        have hV : wmE m true = ((wmD m true : Nat) : Int) ∧ wmS m true = ⟨#[]⟩ := by
          have e : wmE m true = ((wmD m true : Nat) : Int) := by rw [HV.out]; unfold wmF; rw [if_pos hF]
          exact ⟨e, by unfold wmS; rw [e, if_neg (by omega)]⟩
        have hF0 : ((wmD m true : Nat) : Int) ≠ 0 := by omega
        have hF1 : (((wmD m true : Nat) : Int) == 0) = false := by simpa using hF0
        have hF2 : (((wmD m true : Nat) : Int) != 0) = true := by simpa using hF0
        have HR := hide hV
        generalize ((wmD m true : Nat) : Int) = E at hf2 hF1 hF2 HR
        clear hV HV hF hF0 hf h1 h2
        go_enter Tryz.func9, Tryz.ntmps9
        go_upto_region 1 with fail
        generalize World.alloc _ _ = W1 at hX hB hQ ⊢
        have x0 := hX.cell 0 _ rfl
        have x1 := hX.cell 1 _ rfl
        have x2 := hX.cell 2 _ rfl
        have x3 := hX.cell 3 _ rfl
        have x4 := hX.cell 4 _ rfl
        go_wp2_with fail
        refine (hp _).mono ?_
        rintro en w1 ⟨rfl, hb1⟩
        replace hX := hX.below hb1
        replace hB := hB.trans (hb1.mono hB.size)
        have hQ1 := hide (And.intro (hQ.out.1.below hb1) (hQ.out.2.below hb1))
        clear x0 x1 x2 x3 x4 hQ hb1 hp

        have y5 := hX.cell 5 _ rfl
        go_wp2_with fail
        refine (hrt _ _ hQ1.out.1).mono ?_
        rintro en w2 ⟨rfl, hb2⟩
        replace hX := hX.below hb2
        replace hB := hB.trans (hb2.mono hB.size)
        have hQ2 := hide (And.intro (hQ1.out.1.below hb2) (hQ1.out.2.below hb2))
        clear hQ1 hb2 y5 hrt
        have y6 := hX.cell 6 _ rfl
        have hne := hX.lt
        have hXa := hX.alloc (.cells #[.int .i64 1, .int .i64 (m.b.length : Int)] 35)
        have hT : Blk (w2.alloc (.cells #[.int .i64 1, .int .i64 (m.b.length : Int)] 35)) w2.heap.size 35 [.int .i64 1, .int .i64 (m.b.length : Int)] := Blk.new w2 35 [.int .i64 1, .int .i64 (m.b.length : Int)]
        have hBa : Below w.heap.size w (w2.alloc (.cells #[.int .i64 1, .int .i64 (m.b.length : Int)] 35)) := hB.alloc hB.size _
        have hge := hB.size
        have ya6 := hXa.cell 6 _ rfl
        go_upto_region 5 with fail
        generalize World.alloc _ _ = W3 at hXa hT hBa ya6 ⊢
        generalize w2.heap.size = M at hT hne hge ⊢
        have hQ3 := hide (And.intro (hQ0.out.1.below hBa) (hQ0.out.2.below hBa))
        clear hX hB hQ2 y6
        have hth := hT.there 0 2 (show 0 + 2 ≤ 2 by decide)
        have hT5 : Blk (W3.setCells M 0 [.int .i64 2, .int .i64 0]) M 35 [.int .i64 2, .int .i64 0] := hT.sets [.int .i64 2, .int .i64 0] 0 (show 0 + 2 ≤ 2 by decide)
        have hO := only_sets [.int .i64 2, .int .i64 0] 0 (only_refl W3 M)
        have hX5 := hXa.keep (hO.block _ hXa.lt (fun e => absurd (Option.some.inj e) (by omega)))
        have hB5 := hBa.trans (below_only hO hge hBa.size)
        have hR5 : Row (W3.setCells M 0 [.int .i64 2, .int .i64 0]) (.slice va m.L.length vc) m.L ∧ TT (W3.setCells M 0 [.int .i64 2, .int .i64 0]) := ⟨hQ0.out.1.below hB5, hQ0.out.2.below hB5⟩
        have HP := hide (And.intro hT5 (And.intro hX5 (And.intro hB5 hR5)))
        clear hT hXa ya6 hQ3 hBa hO hT5 hX5 hB5 hR5
        go_wp2_with (refine wpList_store_mid rfl 35 (.tmp 6) (.tmp 34) rfl M 0 #[.int .i64 2, .int .i64 0] rfl rfl hth (by kernel_rfl) (by simp [Value.oneCell']) ?_; obtain ⟨hT, hXa, hBa, hR5⟩ := HP.out; generalize World.setCells _ _ _ _ = W5 at hT hXa hBa hR5 ⊢; have hQ3 := hide hR5; clear HP hth hR5)
        refine (refencode_any (Ck.bs m.b) _ (by omega)).mono ?_
        rintro en w4 ⟨rfl, hb4⟩
        replace hT := hT.below hb4
        replace hXa := hXa.below hb4
        replace hBa := hBa.trans (hb4.mono hBa.size)
        have hQ4 := hide (And.intro (hQ3.out.1.below hb4) (hQ3.out.2.below hb4))
        clear hQ3 hb4
        have hQ3 := hide hQ4.out
        have hel := Ck.encS_size (Ck.bs m.b) (by omega)
        generalize Ck.encS (Ck.bs m.b) = EN at hel HR ⊢
        clear hQ4
        have t0 := hT.cell 0 _ rfl
        have t1 := hT.cell 1 _ rfl
        have y5 := hXa.cell 5 _ rfl
        clear hT
        go_wp2_with fail
        refine (hf2 _ _ hQ3.out.1).mono ?_
        rintro en w6 ⟨u6, rfl, hO6, hb6⟩
        replace hXa := hXa.below hb6
        replace hBa := hBa.trans (hb6.mono hBa.size)
        clear t0 t1 y5
        go_wp2_with fail
        go_ret2
        exact ⟨by rw [HR.out.1, HR.out.2]; rfl, hBa⟩
  · have hV : wmE m c = 1 ∧ wmS m c = ⟨#[]⟩ := by
      have : wmE m c = 1 := by unfold wmE; rw [h1, h2, decide_eq_false h3]; rfl
      exact ⟨this, by unfold wmS; rw [this]; rfl⟩
    have HV := hide hV
    clear hV
    have hbz : 20000 < (Ck.bs m.b).size := by omega
    have hbz2 : (Ck.bs m.b).size ≤ 30000 := by omega
    clear hb
    go_enter Tryz.func9, Tryz.ntmps9
    go_upto_region 1 with fail
    generalize World.alloc _ _ = W1 at hX hB hQ ⊢
    have x0 := hX.cell 0 _ rfl
    have x1 := hX.cell 1 _ rfl
    have x2 := hX.cell 2 _ rfl
    have x3 := hX.cell 3 _ rfl
    have x4 := hX.cell 4 _ rfl
    go_wp2_with fail
    refine (hp _).mono ?_
    rintro en w1 ⟨rfl, hb1⟩
    replace hX := hX.below hb1
    replace hB := hB.trans (hb1.mono hB.size)
    have hQ1 := hide (And.intro (hQ.out.1.below hb1) (hQ.out.2.below hb1))
    clear x0 x1 x2 x3 x4 hQ hb1 hp

    have y5 := hX.cell 5 _ rfl
    go_wp2_with fail
    refine (hrt _ _ hQ1.out.1).mono ?_
    rintro en w2 ⟨rfl, hb2⟩
    replace hB := hB.trans (hb2.mono hB.size)
    have y6 := (hX.below hb2).cell 6 _ rfl

    go_wp2_with fail
    go_ret2
    exact ⟨by rw [HV.out.1, HV.out.2]; rfl, hB⟩

end Go.Proofs.YtmpijlaidnhpnaaGreatDoor
