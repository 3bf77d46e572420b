/- The walk of the taking of data. The walk of the reading of what comes next. -/
import Derived.Test.YtmpijlaidnhpnaaGreatJKb
import Derived.OwnWalk
import Derived.Lib.AppendStr
namespace Go.Proofs.YtmpijlaidnhpnaaGreat.Ck
set_option linter.unusedVariables false
set_option linter.unusedSimpArgs false
set_option maxRecDepth 100000
open Go.RowKit

/-- An append of a text's bytes whose run is known. -/
theorem op_append {P : Program} {o : Oper} {a : Act} {w w' : World} {K : Act → World → Prop} {Q : Exit → Act → World → Prop} {v v' : Value} {s : ByteArray} (sl x : Operand) (t u : TypeId)
    (ho : o.op = .call { callee := .builtin .append, args := #[sl, x], argTypes := #[t, u] }) (hs : a.eval sl = v) (hx : a.eval x = .string s)
    (hr : (Builtin.append_ #[t, u] o.type #[v, .string s]).run P w = .ok v' w') (h : K (a.put o.dst v') w') : Oper.wp P o a w K Q := by
  unfold Oper.wp execOp
  simp only [ho, resolve, invoke, builtin, Sem.run_bind, Sem.run_pure, Result.andThen_ok, List.map_toArray, List.map_cons, List.map_nil, hs, hx, hr]
  exact h

theorem below_drew {n : Nat} {w w' : World} (h : Below n w w') : Below n w w'.drew := ⟨h.1, h.2, h.3, h.4, h.5⟩
theorem Rd.drew {w : World} {N : Nat} {k : K} {r : ByteArray} {v : Value} {d : List UInt8} (h : Rd w N k r v d) : Rd w.drew N k r v d := ⟨h.c0, h.c1, h.c2, h.c3, h.c4, h.c5, h.lt, h.fz, h.ow⟩

theorem Own.form {b : Nat} {w : World} {v : Value} {l : List UInt8} (h : Own b w v l) : ∃ a n c, v = .slice a n c := by
  rcases h.2 with ⟨rfl, -⟩ | ⟨g, cap, cur, rfl, -⟩
  · exact ⟨_, _, _, rfl⟩
  · exact ⟨_, _, _, rfl⟩

/-- Behind an append and the store of its row. -/
theorem Rd.more {w w' : World} {N : Nat} {k : K} {r : ByteArray} {v v' : Value} {d d' : List UInt8} (h : Rd w N k r v d) (hg : w.grownBy w' v.ownBlock) (ho : Own (N + 1) w' v' d') : Rd (w'.setCell ⟨N, 5, none⟩ v') N k r v' d' := by
  have hne : some N ≠ v.ownBlock := fun e => by have := (h.ow.lt N e.symm).1; omega
  have hc : ∀ {j : Nat} {u : Value}, w.cell? ⟨N, j, none⟩ = some u → w'.cell? ⟨N, j, none⟩ = some u := fun hu => hg.cell hu hne
  have hlt : N < w'.heap.size := Nat.lt_of_lt_of_le h.lt hg.size
  have hfz : ∀ o, w'.frozen? ⟨N, o, none⟩ = false := fun o => (World.frozen?_of_block (hg.block N h.lt hne)).trans (h.fz o)
  exact ⟨(World.cell?_setCell_other _ _ _ _ (by simp)).trans (hc h.c0), (World.cell?_setCell_other _ _ _ _ (by simp)).trans (hc h.c1), (World.cell?_setCell_other _ _ _ _ (by simp)).trans (hc h.c2), (World.cell?_setCell_other _ _ _ _ (by simp)).trans (hc h.c3), (World.cell?_setCell_other _ _ _ _ (by simp)).trans (hc h.c4), World.cell?_setCell_same _ _ _ (hc h.c5), by simpa using hlt, fun o => by rw [World.frozen?_setCell]; exact hfz o, ho.other _ _⟩

set_option maxRecDepth 100000 in
set_option maxHeartbeats 4000000 in
theorem takeData_any {w : World} {N : Nat} {k : K} {r : ByteArray} {v : Value} {d : List UInt8} (h : Rd w N k r v d) (hg : Good k) (hst : k.st = 1) (hr : r.size ≤ 1000000) (hd : d.length ≤ 1000000) (m : Nat) (hm : min k.left (r.size : Int) = (m : Int)) :
    Calls Tryz.prog 139 #[.pointer (some ⟨N, 0, none⟩)] w fun e w' => e = .returned (.tuple #[]) ∧ (∃ v', Rd w' N (kd k m) (r.extract m r.size) v' (d ++ r.data.toList.take m)) ∧ Below N w w' := by
  have hl := hg.lf hst
  have hz0 := hg.z0
  have hz1 := hg.z1
  have hN := h.lt
  have hmr : m ≤ r.size := by omega
  have hml : (m : Int) ≤ k.left := by omega
  have hmz : (0 : Int) ≤ (m : Int) := by omega
  have hmi : (m : Int) ≤ (r.size : Int) := by omega
  have c2 := h.c2
  have c4 := h.c4
  go_enter Tryz.func139, Tryz.ntmps139
  go_wp2_with fail
  go_quiet (fail)
  go_wp2_with fail
  have B0 := below_drewN w nq
  have hR := h.below B0
  have B1 : Below N w (w.drewN nq) := B0.mono (Nat.le_of_lt hN)
  clear B0 c2 c4
  generalize w.drewN nq = W1 at hR B1 ⊢
  have hbs : N + 1 ≤ W1.heap.size := hR.lt
  have hks : (r.extract 0 m).size = m := by rw [ByteArray.size_extract]; omega
  obtain ⟨i0, hi0, hz0', hz1', hz2'⟩ := info_parts Tryz.info5
  obtain ⟨v', w', hap, ho', hg', -⟩ := Lib.run_append_own_string (P := Tryz.prog) W1.drew (N + 1) 55 9 55 5 i0 Tryz.underlying55 Tryz.underlying9 hi0 hz0' hz1' hz2' v d.length (u8s d) hR.ow (r.extract 0 m) (maxLen_of (by omega)) (by omega) hbs
  have hO : Own (N + 1) w' v' (d ++ r.data.toList.take m) := by
    rw [← ext_take]
    unfold Own
    rw [u8s_append, List.length_append, size_list]
    exact ho'
  obtain ⟨a', n', p', rfl⟩ := hO.form
  have hR2 := hR.drew.more hg' hO
  have hne : some N ≠ v.ownBlock := fun e => by have := (hR.ow.lt N e.symm).1; omega
  have d4 : w'.cell? ⟨N, 4, none⟩ = some (.string r) := hg'.cell hR.drew.c4 hne
  have d5 : w'.cell? ⟨N, 5, none⟩ = some v := hg'.cell hR.drew.c5 hne
  have dz : ∀ o, w'.frozen? ⟨N, o, none⟩ = false := fun o => (World.frozen?_of_block (hg'.block N hR.lt hne)).trans (hR.fz o)
  have B2 : Below N w w' := (below_drew B1).grown hg' (Nat.le_of_lt hR.lt) (fun g e => by have := (hR.ow.lt g e).1; omega)
  have B3 : Below N w (w'.setCell ⟨N, 5, none⟩ (.slice a' n' p')) := B2.setCell (Nat.le_refl N) _
  have e4 := hR.c4
  have e5 := hR.c5
  clear ho' hg' hO hi0 hz0' hz1' hz2' hbs
  refine region_upTo 12 12 12 (fun w' => w'.cell? ⟨N, 4, none⟩ = some (.string r) ∧ w'.cell? ⟨N, 5, none⟩ = some v) (fun _ => True) (fun _ => True) (by kernel_rfl) ⟨⟨e4, e5⟩, trivial, trivial⟩ (fun hHeld => ?_)
  refine upTo_take 12 (S := fun _ => True) (i := 0) (oi := _) (v := .pointer (some ⟨N, 0, none⟩)) rfl (by kernel_rfl) (by kernel_rfl) (by kernel_rfl) (fun _ _ _ h => h) (by decide) (by kernel_rfl) (by kernel_rfl) (fun _ _ _ _ => trivial) hHeld (Or.inl ⟨by rfl, fun wS hSw => by go_simp⟩) (fun hHeld => ?_)
  simp only [Act.put, List.getElem_toArray, List.getElem_cons_zero, List.getElem_cons_succ, List.setIfInBounds_toArray, List.set_cons_zero, List.set_cons_succ]
  refine upTo_take 12 (S := fun _ => True) (i := 1) (oi := _) (v := .pointer (some ⟨N, 0, none⟩)) rfl (by kernel_rfl) (by kernel_rfl) (by kernel_rfl) (fun _ _ _ h => h) (by decide) (by kernel_rfl) (by kernel_rfl) (fun _ _ _ _ => trivial) hHeld (Or.inl ⟨by rfl, fun wS hSw => by go_simp⟩) (fun hHeld => ?_)
  simp only [Act.put, List.getElem_toArray, List.getElem_cons_zero, List.getElem_cons_succ, List.setIfInBounds_toArray, List.set_cons_zero, List.set_cons_succ]
  refine upTo_take 12 (S := fun _ => True) (i := 2) (oi := _) (v := .pointer (some ⟨N, 0, none⟩)) rfl (by kernel_rfl) (by kernel_rfl) (by kernel_rfl) (fun _ _ _ h => h) (by decide) (by kernel_rfl) (by kernel_rfl) (fun _ _ _ _ => trivial) hHeld (Or.inl ⟨by rfl, fun wS hSw => by go_simp⟩) (fun hHeld => ?_)
  simp only [Act.put, List.getElem_toArray, List.getElem_cons_zero, List.getElem_cons_succ, List.setIfInBounds_toArray, List.set_cons_zero, List.set_cons_succ]
  refine upTo_take 12 (S := fun _ => True) (i := 3) (oi := _) (v := .pointer (some ⟨N, 5, none⟩)) rfl (by kernel_rfl) (by kernel_rfl) (by kernel_rfl) (fun _ _ _ h => h) (by decide) (by kernel_rfl) (by kernel_rfl) (fun _ _ _ _ => trivial) hHeld (Or.inl ⟨by rfl, fun wS hSw => by go_simp⟩) (fun hHeld => ?_)
  simp only [Act.put, List.getElem_toArray, List.getElem_cons_zero, List.getElem_cons_succ, List.setIfInBounds_toArray, List.set_cons_zero, List.set_cons_succ]
  refine upTo_take 12 (S := (fun w' => w'.cell? ⟨N, 4, none⟩ = some (.string r) ∧ w'.cell? ⟨N, 5, none⟩ = some v)) (i := 4) (oi := _) (v := v) rfl (by kernel_rfl) (by kernel_rfl) (by kernel_rfl) (fun _ _ _ h => h) (by decide) (by kernel_rfl) (by kernel_rfl) (fun l w1 hh g => hh.h1 g) hHeld (Or.inl ⟨by rfl, fun wS hSw => by obtain ⟨hL0, hL1⟩ := hSw; go_simp⟩) (fun hHeld => ?_)
  simp only [Act.put, List.getElem_toArray, List.getElem_cons_zero, List.getElem_cons_succ, List.setIfInBounds_toArray, List.set_cons_zero, List.set_cons_succ]
  refine upTo_take 12 (S := fun _ => True) (i := 5) (oi := _) (v := .pointer (some ⟨N, 0, none⟩)) rfl (by kernel_rfl) (by kernel_rfl) (by kernel_rfl) (fun _ _ _ h => h) (by decide) (by kernel_rfl) (by kernel_rfl) (fun _ _ _ _ => trivial) hHeld (Or.inl ⟨by rfl, fun wS hSw => by go_simp⟩) (fun hHeld => ?_)
  simp only [Act.put, List.getElem_toArray, List.getElem_cons_zero, List.getElem_cons_succ, List.setIfInBounds_toArray, List.set_cons_zero, List.set_cons_succ]
  refine upTo_take 12 (S := fun _ => True) (i := 6) (oi := _) (v := .pointer (some ⟨N, 0, none⟩)) rfl (by kernel_rfl) (by kernel_rfl) (by kernel_rfl) (fun _ _ _ h => h) (by decide) (by kernel_rfl) (by kernel_rfl) (fun _ _ _ _ => trivial) hHeld (Or.inl ⟨by rfl, fun wS hSw => by go_simp⟩) (fun hHeld => ?_)
  simp only [Act.put, List.getElem_toArray, List.getElem_cons_zero, List.getElem_cons_succ, List.setIfInBounds_toArray, List.set_cons_zero, List.set_cons_succ]
  refine upTo_take 12 (S := fun _ => True) (i := 7) (oi := _) (v := .pointer (some ⟨N, 4, none⟩)) rfl (by kernel_rfl) (by kernel_rfl) (by kernel_rfl) (fun _ _ _ h => h) (by decide) (by kernel_rfl) (by kernel_rfl) (fun _ _ _ _ => trivial) hHeld (Or.inl ⟨by rfl, fun wS hSw => by go_simp⟩) (fun hHeld => ?_)
  simp only [Act.put, List.getElem_toArray, List.getElem_cons_zero, List.getElem_cons_succ, List.setIfInBounds_toArray, List.set_cons_zero, List.set_cons_succ]
  refine upTo_take 12 (S := (fun w' => w'.cell? ⟨N, 4, none⟩ = some (.string r) ∧ w'.cell? ⟨N, 5, none⟩ = some v)) (i := 8) (oi := _) (v := .string r) rfl (by kernel_rfl) (by kernel_rfl) (by kernel_rfl) (fun _ _ _ h => h) (by decide) (by kernel_rfl) (by kernel_rfl) (fun l w1 hh g => hh.h1 g) hHeld (Or.inl ⟨by rfl, fun wS hSw => by obtain ⟨hL0, hL1⟩ := hSw; go_simp⟩) (fun hHeld => ?_)
  simp only [Act.put, List.getElem_toArray, List.getElem_cons_zero, List.getElem_cons_succ, List.setIfInBounds_toArray, List.set_cons_zero, List.set_cons_succ]
  refine upTo_take 12 (S := fun _ => True) (i := 9) (oi := _) (v := .int .i64 (m : Int)) rfl (by kernel_rfl) (by kernel_rfl) (by kernel_rfl) (fun _ _ _ h => h) (by decide) (by kernel_rfl) (by kernel_rfl) (fun _ _ _ _ => trivial) hHeld (Or.inl ⟨by rfl, fun wS hSw => by go_simp⟩) (fun hHeld => ?_)
  simp only [Act.put, List.getElem_toArray, List.getElem_cons_zero, List.getElem_cons_succ, List.setIfInBounds_toArray, List.set_cons_zero, List.set_cons_succ]
  refine upTo_take 12 (S := fun _ => True) (i := 10) (oi := _) (v := .string (r.extract 0 m)) rfl (by kernel_rfl) (by kernel_rfl) (by kernel_rfl) (fun _ _ _ h => h) (by decide) (by kernel_rfl) (by kernel_rfl) (fun _ _ _ _ => trivial) hHeld (Or.inl ⟨by rfl, fun wS hSw => by go_simp⟩) (fun hHeld => ?_)
  simp only [Act.put, List.getElem_toArray, List.getElem_cons_zero, List.getElem_cons_succ, List.setIfInBounds_toArray, List.set_cons_zero, List.set_cons_succ]
  refine upTo_run (i := 11) (o := _) (by kernel_rfl) rfl (fun K hK => ?_)
  rw [if_pos (by kernel_rfl)]
  refine op_append (.tmp 18) (.tmp 24) 55 9 rfl rfl rfl hap ?_
  simp only [Act.put, List.getElem_toArray, List.getElem_cons_zero, List.getElem_cons_succ, List.setIfInBounds_toArray, List.set_cons_zero, List.set_cons_succ]
  refine hK.out _ _ ⟨fun _ => ⟨d4, d5⟩, fun _ => trivial, fun _ => trivial⟩ (fun hHeld => ?_)
  clear hK K
  refine upTo_run (i := 12) (o := _) (by kernel_rfl) rfl (fun K hK => ?_)
  go_simp
  refine hK.out _ _ (⟨fun g => Bool.noConfusion (show true = false from g), fun _ => trivial, fun _ => trivial⟩) (fun hHeld => ?_)
  clear hK K
  refine upTo_run (i := 13) (o := _) (by kernel_rfl) rfl (fun K hK => ?_)
  go_simp
  refine hK.out _ _ (⟨fun g => Bool.noConfusion (show true = false from g), fun _ => trivial, fun _ => trivial⟩) (fun hHeld => ?_)
  clear hK K
  refine upTo_run (i := 14) (o := _) (by kernel_rfl) rfl (fun K hK => ?_)
  go_simp
  refine hK.out _ _ (⟨fun g => Bool.noConfusion (show true = false from g), fun _ => trivial, fun _ => trivial⟩) (fun hHeld => ?_)
  clear hK K
  refine upTo_done (by kernel_rfl) ?_ _
  clear hHeld e4 e5 hne hR hap d4 d5 dz B2 B1
  generalize World.setCell _ _ _ = W2 at hR2 B3 ⊢
  have f0 := hR2.c0
  have f2 := hR2.c2
  have f3 := hR2.c3
  have f4 := hR2.c4
  have fz := hR2.fz
  have hS := hR2.s4 (r.extract m r.size)
  have hS3 := hS.s3 (k.size + m)
  have hS2 := hS3.s2 (k.left - m)
  have hB4 := ((B3.setCell (p := ⟨N, 4, none⟩) (Nat.le_refl N) (.string (r.extract m r.size))).setCell (p := ⟨N, 3, none⟩) (Nat.le_refl N) (.int .i64 (k.size + m))).setCell (p := ⟨N, 2, none⟩) (Nat.le_refl N) (.int .i64 (k.left - m))
  have HS2 := hide hS2
  have HB4 := hide hB4
  clear hS hS3 hS2 hB4 B3 hR2 h
  by_cases hz : k.left - m = 0
  · have hzb : (k.left - (m : Int) == 0) = true := by rw [hz]; rfl
    have HK : Hid (kd k m = ⟨2, k.line, k.left - m, k.size + m⟩) := by unfold Hid kd; rw [if_pos hz]
    clear hz
    go_wp2_with fail
    refine bodyPost_end (v := .tuple #[]) (by simp [results, Tryz.results139, go_sem]) rfl ?_
    refine ⟨rfl, ⟨.slice a' n' p', ?_⟩, ?_⟩
    · rw [HK.out]
      exact HS2.out.s0 2
    · exact HB4.out.setCell (Nat.le_refl N) _
  · have hzb : (k.left - (m : Int) == 0) = false := by simpa using hz
    have HK : Hid (kd k m = ⟨k.st, k.line, k.left - m, k.size + m⟩) := by unfold Hid kd; rw [if_neg hz, hst]
    clear hz
    go_wp2_with fail
    refine bodyPost_end (v := .tuple #[]) (by simp [results, Tryz.results139, go_sem]) rfl ?_
    refine ⟨rfl, ⟨.slice a' n' p', ?_⟩, ?_⟩
    · rw [HK.out]
      exact HS2.out
    · exact HB4.out

end Go.Proofs.YtmpijlaidnhpnaaGreat.Ck

namespace Go.Proofs.YtmpijlaidnhpnaaGreat.Ck
set_option linter.unusedVariables false
set_option linter.unusedSimpArgs false
set_option maxRecDepth 100000
open Go.RowKit

/-- What reading on comes to. -/
structure Next (w w' : World) (N : Nat) (k : K) (r : ByteArray) (d : List UInt8) (E : Nat) : Prop where
  be : Below N w w'
  no : E ≠ 0 → run k r.data.toList = bad E
  go : E = 0 → ∃ k' r' v' d', Rd w' N k' r' v' (d ++ d') ∧ Good k' ∧ r'.size < r.size ∧ d'.length + r'.size ≤ r.size ∧ run k r.data.toList = (run k' r'.data.toList).on d'

theorem next_line {w w' : World} {N : Nat} {k : K} {r : ByteArray} {v : Value} {d : List UInt8} (hg : Good k) (h1 : k.st ≠ 1) (h4 : k.st ≠ 4) (hr0 : 0 < r.size)
    (hR : (sl k r).1 = 0 → Rd w' N (sl k r).2.1 (sl k r).2.2 v d) (hb : Below N w w') : Next w w' N k r d (sl k r).1 := by
  obtain ⟨a, b⟩ := sl_run hg h1 h4 hr0
  refine ⟨hb, a, fun e => ?_⟩
  obtain ⟨g, z, q⟩ := b e
  exact ⟨_, _, v, [], by rw [List.append_nil]; exact hR e, g, z, by simp; omega, by rw [on_nil]; exact q⟩

set_option maxRecDepth 100000 in
set_option maxHeartbeats 2000000 in
theorem readOn_any {w : World} {N : Nat} {k : K} {r : ByteArray} {v : Value} {d : List UInt8} (h : Rd w N k r v d) (hg : Good k) (h4 : k.st ≠ 4) (hr0 : 0 < r.size) (hr : r.size ≤ 1000000) (hd : d.length ≤ 1000000) :
    Calls Tryz.prog 121 #[.pointer (some ⟨N, 0, none⟩)] w fun e w' => ∃ E : Nat, e = .returned (.int .i64 (E : Int)) ∧ Next w w' N k r d E := by
  have c0 := h.c0
  by_cases h1 : k.st = 1
  · have hl := hg.lf h1
    obtain ⟨m, hm⟩ : ∃ m : Nat, min k.left (r.size : Int) = (m : Int) := ⟨(min k.left (r.size : Int)).toNat, by omega⟩
    have hcd := takeData_any h hg h1 hr hd m hm
    have hN : Hid (∀ v' w', Rd w' N (kd k m) (r.extract m r.size) v' (d ++ r.data.toList.take m) → Below N w w' → Next w w' N k r d 0) := by
      intro v' w' hR hb
      refine ⟨hb, fun e => absurd rfl e, fun _ => ⟨_, _, v', _, hR, good_kd hg h1 (by omega), ?_, ?_, ?_⟩⟩
      · rw [ByteArray.size_extract]; omega
      · rw [ByteArray.size_extract, List.length_take]; omega
      · rw [ext_drop]
        exact run_data _ k m h1 hl.1 (by rw [size_list]; omega)
    have hd1 : (k.st == 1) = true := by simpa using h1
    clear h1 hm hl
    go_enter Tryz.func121, Tryz.ntmps121
    go_wp2_with fail
    refine hcd.mono ?_
    rintro e w1 ⟨rfl, ⟨v', hR⟩, hb⟩
    go_wp2_with fail
    go_ret
    exact ⟨0, rfl, hN.out v' _ hR hb⟩
  have hd1 : (k.st == 1) = false := by simpa using h1
  have hcase : k.st = 0 ∨ k.st = 2 ∨ k.st = 3 := by have := hg.s0; have := hg.s4; omega
  rcases hcase with hs | hs | hs
  · have hcl := takeLine_any h 156 cf23c (by rw [hs]; exact deed0 N) hg hr
    have hcd := deed_0 h hs
    have HN : Hid (∀ w', ((sl k r).1 = 0 → Rd w' N (sl k r).2.1 (sl k r).2.2 v d) → Below N w w' → Next w w' N k r d (sl k r).1) := fun w' a b => next_line hg h1 h4 hr0 a b
    generalize sl k r = S at hcl HN
    clear h1 h4 hs
    go_enter Tryz.func121, Tryz.ntmps121
    go_wp2_with fail
    refine hcd.mono ?_
    rintro e w1 ⟨rfl, rfl⟩
    go_wp2_with fail
    refine hcl.mono ?_
    rintro e w2 ⟨rfl, hR, hb⟩
    go_wp2_with fail
    go_ret
    exact ⟨_, rfl, HN.out _ hR hb⟩
  · have hcl := takeLine_any h 157 cf24c (by rw [hs]; exact deed2 N) hg hr
    have hcd := deed_2 h hs
    have HN : Hid (∀ w', ((sl k r).1 = 0 → Rd w' N (sl k r).2.1 (sl k r).2.2 v d) → Below N w w' → Next w w' N k r d (sl k r).1) := fun w' a b => next_line hg h1 h4 hr0 a b
    generalize sl k r = S at hcl HN
    clear h1 h4 hs
    go_enter Tryz.func121, Tryz.ntmps121
    go_wp2_with fail
    refine hcd.mono ?_
    rintro e w1 ⟨rfl, rfl⟩
    go_wp2_with fail
    refine hcl.mono ?_
    rintro e w2 ⟨rfl, hR, hb⟩
    go_wp2_with fail
    go_ret
    exact ⟨_, rfl, HN.out _ hR hb⟩
  · have hcl := takeLine_any h 158 cf25c (by rw [hs]; exact deed3 N) hg hr
    have hcd := deed_3 h hs
    have HN : Hid (∀ w', ((sl k r).1 = 0 → Rd w' N (sl k r).2.1 (sl k r).2.2 v d) → Below N w w' → Next w w' N k r d (sl k r).1) := fun w' a b => next_line hg h1 h4 hr0 a b
    generalize sl k r = S at hcl HN
    clear h1 h4 hs
    go_enter Tryz.func121, Tryz.ntmps121
    go_wp2_with fail
    refine hcd.mono ?_
    rintro e w1 ⟨rfl, rfl⟩
    go_wp2_with fail
    refine hcl.mono ?_
    rintro e w2 ⟨rfl, hR, hb⟩
    go_wp2_with fail
    go_ret
    exact ⟨_, rfl, HN.out _ hR hb⟩

end Go.Proofs.YtmpijlaidnhpnaaGreat.Ck
