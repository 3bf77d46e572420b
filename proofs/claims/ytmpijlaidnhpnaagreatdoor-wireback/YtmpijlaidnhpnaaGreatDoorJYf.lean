/- The walk of what makes a message of few bytes. -/
import Derived.Test.YtmpijlaidnhpnaaGreatDoorJYa
namespace Go.Proofs.YtmpijlaidnhpnaaGreatDoor
set_option linter.unusedVariables false
set_option linter.unusedSimpArgs false
set_option maxRecDepth 100000
open Go.RowKit
open Ck (region_upTo upTo_take upTo_run upTo_done)

theorem cell_set_other {w : World} {a b : Addr} {u v : Value} (h : w.cell? a = some v) (hne : a ≠ b) : (w.setCell b u).cell? a = some v := by
  rw [World.cell?_setCell_other _ _ _ _ (fun e => hne e.symm)]; exact h

/-- One field of a row is written anew. -/
theorem row_set {w : World} {g cap k : Nat} {L : List Fd} {x : Fd} (h : Row w (.slice (some ⟨g, 0, none⟩) L.length cap) L) (hk : k < L.length) :
    Row ((w.setCell ⟨g, k * 2, none⟩ (.string x.1)).setCell ⟨g, k * 2 + 1, none⟩ (.string x.2)) (.slice (some ⟨g, 0, none⟩) L.length cap) (L.set k x) := by
  obtain ⟨a, cap', he, hcap, hR⟩ := h
  cases he
  refine ⟨some ⟨g, 0, none⟩, cap, by simp, by simpa using hcap, fun j hj => ⟨g, 0, rfl, ?_⟩⟩
  have hj' : j < L.length := by simpa using hj
  obtain ⟨g', off', he, hg, c0, c1⟩ := hR j hj'
  cases he
  obtain ⟨g', off', he, -, d0, d1⟩ := hR k hk
  cases he
  simp only [Nat.zero_add] at c0 c1 d0 d1 ⊢
  refine ⟨by simpa using hg, ?_⟩
  by_cases e : j = k
  · subst e
    rw [List.getElem_set_self]
    refine ⟨?_, ?_⟩
    · exact cell_set_other (World.cell?_setCell_same _ _ _ d0) (by simp)
    · exact World.cell?_setCell_same _ _ _ (cell_set_other d1 (by simp))
  · rw [List.getElem_set_ne (fun h => e h.symm)]
    exact ⟨cell_set_other (cell_set_other c0 (by simp <;> omega)) (by simp <;> omega), cell_set_other (cell_set_other c1 (by simp <;> omega)) (by simp <;> omega)⟩
theorem row_frozen {w : World} {g : Nat} {C : List Value} (hg : w.heap[g]? = some (.cells C.toArray 55 (0, 0))) (o : Nat) : w.frozen? ⟨g, o, none⟩ = false := by
  unfold World.frozen?; rw [hg]; simp
theorem own_nothing {w : World} {base : Nat} {v : Value} (h : Own w base v []) : ∃ a c, v = .slice a 0 c := h.row.slice

theorem row_take {w : World} {a : Option Addr} {cap m : Nat} {L : List Fd} (h : Row w (.slice a L.length cap) L) (hm : m ≤ L.length) : Row w (.slice a m cap) (L.take m) := by
  obtain ⟨a', cap', he, hcap, hR⟩ := h
  cases he
  refine ⟨a, cap, by rw [List.length_take, Nat.min_eq_left hm], by rw [List.length_take]; omega, fun j hj => ?_⟩
  rw [List.length_take] at hj
  obtain ⟨g, off, e, hg, c0, c1⟩ := hR j (by omega)
  rw [List.getElem_take]
  exact ⟨g, off, e, hg, c0, c1⟩

theorem own_parts {w : World} {base : Nat} {v : Value} {D : List Fd} (h : Own w base v D) (h0 : 0 < D.length) :
    ∃ g cap R, v = .slice (some ⟨g, 0, none⟩) D.length cap ∧ base ≤ g ∧ w.heap[g]? = some (.cells (fcells D ++ R).toArray 55 (0, 0)) ∧ D.length ≤ cap ∧ cap ≤ maxLen ∧ (fcells D ++ R).length = cap * 2 := by
  rcases h.2 with ⟨rfl, h0'⟩ | ⟨g, cap, cur, rfl, h2, h3, h4, h5, h6, h7⟩
  · omega
  · refine ⟨g, cap, cur.toList.drop (D.length * 2), rfl, h2, ?_, h4, h5, ?_⟩
    · rw [← h7, List.take_append_drop]; exact h3
    · rw [← h7, List.take_append_drop, Array.length_toList, h6]

/-- A row that does not lie in a block stays, when the block is written anew. -/
theorem Row.far {w : World} {v : Value} {M : List Fd} {N : Nat} (h : Row w v M) (hf : 0 < M.length → ∃ g n c, v = .slice (some ⟨g, 0, none⟩) n c ∧ N < g) (k : Nat) (u : Value) : Row (w.setCell ⟨N, k, none⟩ u) v M := by
  obtain ⟨a, cap, rfl, h2, h3⟩ := h
  refine ⟨a, cap, rfl, h2, fun j hj => ?_⟩
  obtain ⟨g, off, rfl, hg, c0, c1⟩ := h3 j hj
  obtain ⟨g', n, c, he, hlt⟩ := hf (by omega)
  cases he
  refine ⟨g, 0, rfl, by simpa using hg, ?_, ?_⟩
  · rw [World.cell?_setCell_other _ _ _ _ (by simp <;> omega)]; exact c0
  · rw [World.cell?_setCell_other _ _ _ _ (by simp <;> omega)]; exact c1


theorem Row.only {w w' : World} {v : Value} {M : List Fd} {N : Nat} (h : Row w v M) (hf : 0 < M.length → ∃ g n c, v = .slice (some ⟨g, 0, none⟩) n c ∧ N < g) (hg : w.grownBy w' (some N)) : Row w' v M := by
  obtain ⟨a, cap, rfl, h2, h3⟩ := h
  refine ⟨a, cap, rfl, h2, fun j hj => ?_⟩
  obtain ⟨g, off, rfl, hl, c0, c1⟩ := h3 j hj
  obtain ⟨g', n, c, he, hlt⟩ := hf (by omega)
  cases he
  have hs : w'.heap[g]? = w.heap[g]? := hg.block g hl (fun e => by have := Option.some.inj e; omega)
  exact ⟨g, 0, rfl, Nat.lt_of_lt_of_le hl hg.size, (World.cell?_of_block (w := w) hs).trans c0, (World.cell?_of_block (w := w) hs).trans c1⟩

theorem results_few {W : World} {M : Nat} {cs : List Value} {T : Array Value} (h : Blk W M 26 cs) (hl : cs.length = 7) (h2 : T[2]? = some (.pointer (some ⟨M, 0, none⟩))) :
    (results Tryz.f7 T).run Tryz.prog W = .ok (.agg cs.toArray) W := by
  have hld := run_loadVar_mid (P := Tryz.prog) W M 0 26 cs _ (by have := h.range 0 7; rwa [List.drop_zero, List.take_of_length_le (by omega)] at this) Tryz.underlying26 rfl (by rw [hl]; kernel_rfl)
  simp [results, Tryz.results7, h2, hld, asAddr]

theorem bs_back (B : ByteArray) : Ck.bs B.data.toList = B := bytes_ext (by rw [Ck.bs_list])

/-- A message of few bytes. -/
structure Few (w : World) (m x : Ms) (v : Value) (B : Nat) : Prop where
  row : Row w v x.L
  c : x.s.c = m.s.c
  n : x.s.n = m.s.n
  sm : x.s.m.size ≤ 40
  st : x.s.t.size ≤ 520
  sr : x.s.r.size ≤ 120
  l : x.L.length ≤ 45
  f : ∀ g ∈ x.L, g.1.size ≤ 60 ∧ g.2.size ≤ 1010
  b : x.b.length ≤ 21000
  own : 0 < x.L.length → ∃ g n c, v = .slice (some ⟨g, 0, none⟩) n c ∧ B ≤ g

set_option maxHeartbeats 16000000 in
theorem few_any (sm st : ByteArray) (sc : Int) (sr : ByteArray) (sn : Int) (L : List Fd) (bb : ByteArray) (a : Option Addr) (cap : Nat) (w : World) (hr : Row w (.slice a L.length cap) L) (hcm : cap ≤ maxLen) (hs : ∀ f ∈ L, f.1.size ≤ maxLen ∧ f.2.size ≤ maxLen)
    (z0 : sm.size ≤ maxLen) (z1 : st.size ≤ maxLen) (z2 : sr.size ≤ maxLen) (z3 : bb.size ≤ maxLen) :
    Calls Tryz.prog 7 #[.agg #[.string sm, .string st, .int .i64 sc, .string sr, .int .i64 sn, .slice a L.length cap, .string bb]] w fun en w' => (∃ x v, en = .returned (Ms.v x v) ∧ Few w' ⟨⟨sm, st, sc, sr, sn⟩, L, bb.data.toList⟩ x v w.heap.size) ∧ Below w.heap.size w w' := by
  have hmax : maxLen ≤ 9223372036854775807 := by unfold maxLen; omega
  have hcap : L.length ≤ cap := by obtain ⟨_, _, he, h, -⟩ := hr; cases he; exact h
  obtain ⟨m, hm⟩ : ∃ m : Nat, (m : Int) = min (L.length : Int) 45 := ⟨min L.length 45, by omega⟩
  have hm1 : (m : Int) ≤ L.length := by omega
  have hm2 : m ≤ 45 := by omega
  have hmin : min (L.length : Int) 45 = m := hm.symm
  have m1 : (0 : Int) ≤ min (sm.size : Int) 40 := by omega
  have k1 : min (sm.size : Int) 40 ≤ (sm.size : Int) := by omega
  have m2 : (0 : Int) ≤ min (st.size : Int) 520 := by omega
  have k2 : min (st.size : Int) 520 ≤ (st.size : Int) := by omega
  have m3 : (0 : Int) ≤ min (sr.size : Int) 120 := by omega
  have k3 : min (sr.size : Int) 120 ≤ (sr.size : Int) := by omega
  have j1 : (sm.extract 0 (min (sm.size : Int) 40).toNat).size ≤ 40 := by rw [ByteArray.size_extract]; omega
  have j2 : (st.extract 0 (min (st.size : Int) 520).toNat).size ≤ 520 := by rw [ByteArray.size_extract]; omega
  have j3 : (sr.extract 0 (min (sr.size : Int) 120).toNat).size ≤ 120 := by rw [ByteArray.size_extract]; omega
  obtain ⟨d, hd, hd2, hd3⟩ : ∃ d : Nat, min (bb.size : Int) 21000 = (d : Int) ∧ d ≤ 21000 ∧ d ≤ bb.size := ⟨(min (bb.size : Int) 21000).toNat, by omega, by omega, by omega⟩
  unfold maxLen at z0 z1 z2 z3
  have hX : Blk ((w.alloc (.cells #[.string sm, .string st, .int .i64 sc, .string sr, .int .i64 sn, .slice a L.length cap, .string bb] 26)).alloc (.cells #[.string ⟨#[]⟩, .string ⟨#[]⟩, .int .i64 0, .string ⟨#[]⟩, .int .i64 0, .slice none 0 0, .string ⟨#[]⟩] 26)) w.heap.size 26 [.string sm, .string st, .int .i64 sc, .string sr, .int .i64 sn, .slice a L.length cap, .string bb] := (Blk.new w 26 _).alloc _
  have hZ : Blk ((w.alloc (.cells #[.string sm, .string st, .int .i64 sc, .string sr, .int .i64 sn, .slice a L.length cap, .string bb] 26)).alloc (.cells #[.string ⟨#[]⟩, .string ⟨#[]⟩, .int .i64 0, .string ⟨#[]⟩, .int .i64 0, .slice none 0 0, .string ⟨#[]⟩] 26)) (w.heap.size + 1) 26 [.string ⟨#[]⟩, .string ⟨#[]⟩, .int .i64 0, .string ⟨#[]⟩, .int .i64 0, .slice none 0 0, .string ⟨#[]⟩] := by
    have := Blk.new (w.alloc (.cells #[.string sm, .string st, .int .i64 sc, .string sr, .int .i64 sn, .slice a L.length cap, .string bb] 26)) 26 [.string ⟨#[]⟩, .string ⟨#[]⟩, .int .i64 0, .string ⟨#[]⟩, .int .i64 0, .slice none 0 0, .string ⟨#[]⟩]
    simpa using this
  have hB : Below w.heap.size w ((w.alloc (.cells #[.string sm, .string st, .int .i64 sc, .string sr, .int .i64 sn, .slice a L.length cap, .string bb] 26)).alloc (.cells #[.string ⟨#[]⟩, .string ⟨#[]⟩, .int .i64 0, .string ⟨#[]⟩, .int .i64 0, .slice none 0 0, .string ⟨#[]⟩] 26)) := ((Below.refl _ _).alloc (Nat.le_refl _) _).alloc (by simp) _
  have hsz : ((w.alloc (.cells #[.string sm, .string st, .int .i64 sc, .string sr, .int .i64 sn, .slice a L.length cap, .string bb] 26)).alloc (.cells #[.string ⟨#[]⟩, .string ⟨#[]⟩, .int .i64 0, .string ⟨#[]⟩, .int .i64 0, .slice none 0 0, .string ⟨#[]⟩] 26)).heap.size = w.heap.size + 2 := by simp
  go_enter Tryz.func7, Tryz.ntmps7
  go_upto_region 1 with fail
  generalize World.alloc (World.alloc _ _) _ = W1 at hX hZ hB hsz ⊢
  have x0 := hX.cell 0 _ rfl
  have x1 := hX.cell 1 _ rfl
  have x2 := hX.cell 2 _ rfl
  have x3 := hX.cell 3 _ rfl
  have x4 := hX.cell 4 _ rfl
  have hY : Blk (W1.alloc (.cells #[.string sm, .string st, .int .i64 sc, .string sr, .int .i64 sn] 23)) (w.heap.size + 2) 23 [.string sm, .string st, .int .i64 sc, .string sr, .int .i64 sn] := by
    have := Blk.new W1 23 [.string sm, .string st, .int .i64 sc, .string sr, .int .i64 sn]
    rwa [hsz] at this
  have hX2 := hX.alloc (.cells #[.string sm, .string st, .int .i64 sc, .string sr, .int .i64 sn] 23)
  have hZ2 := hZ.alloc (.cells #[.string sm, .string st, .int .i64 sc, .string sr, .int .i64 sn] 23)
  have hB2 := hB.alloc hB.size (.cells #[.string sm, .string st, .int .i64 sc, .string sr, .int .i64 sn] 23)
  go_upto_region 2 with fail
  generalize W1.alloc _ = W2 at hY hX2 hZ2 hB2 ⊢
  have HK := hide (And.intro j1 (And.intro j2 j3))
  have HC := hide hcm
  have HR := hide hr
  clear x0 x1 x2 x3 x4 hX hZ hB hsz j1 j2 j3
  go_cut [9] (fun _ wc => Blk wc (w.heap.size + 2) 23 [.string (sm.extract 0 (min (sm.size : Int) 40).toNat), .string (st.extract 0 (min (st.size : Int) 520).toNat), .int .i64 sc, .string (sr.extract 0 (min (sr.size : Int) 120).toNat), .int .i64 sn] ∧ Blk wc w.heap.size 26 [.string sm, .string st, .int .i64 sc, .string sr, .int .i64 sn, .slice a L.length cap, .string bb] ∧ Blk wc (w.heap.size + 1) 26 [.string ⟨#[]⟩, .string ⟨#[]⟩, .int .i64 0, .string ⟨#[]⟩, .int .i64 0, .slice none 0 0, .string ⟨#[]⟩] ∧ Below w.heap.size w wc)
  case first =>
    have c0 := hY.cell 0 _ rfl
    have c1 := hY.cell 1 _ rfl
    have c3 := hY.cell 3 _ rfl
    have f0 := hY.fz 0
    have f1 := hY.fz 1
    have f3 := hY.fz 3
    refine region_upTo 22 24 26 (fun w' => w'.cell? ⟨w.heap.size + 2, 0, none⟩ = some (.string sm)) (fun w' => w'.cell? ⟨w.heap.size + 2, 1, none⟩ = some (.string st)) (fun w' => w'.cell? ⟨w.heap.size + 2, 3, none⟩ = some (.string sr)) (by kernel_rfl) ⟨c0, c1, c3⟩ (fun hHeld => ?_)
    refine upTo_take 22 (S := (fun w' => w'.cell? ⟨w.heap.size + 2, 0, none⟩ = some (.string sm))) (i := 0) (oi := _) (v := .pointer (some ⟨w.heap.size + 2, 0, none⟩)) rfl (by kernel_rfl) (by kernel_rfl) (by kernel_rfl) (fun _ _ _ h => h) (by decide) (by kernel_rfl) (by kernel_rfl) (fun l w1 hh g => hh.h1 g) hHeld (Or.inl ⟨by rfl, fun wS hSw => by have hL : wS.cell? ⟨w.heap.size + 2, 0, none⟩ = some (.string sm) := hSw; go_simp⟩) (fun hHeld => ?_)
    simp only [Act.put, List.getElem_toArray, List.getElem_cons_zero, List.getElem_cons_succ, List.setIfInBounds_toArray, List.set_cons_zero, List.set_cons_succ]
    refine upTo_take 22 (S := (fun w' => w'.cell? ⟨w.heap.size + 2, 0, none⟩ = some (.string sm))) (i := 1) (oi := _) (v := .string sm) rfl (by kernel_rfl) (by kernel_rfl) (by kernel_rfl) (fun _ _ _ h => h) (by decide) (by kernel_rfl) (by kernel_rfl) (fun l w1 hh g => hh.h1 g) hHeld (Or.inl ⟨by rfl, fun wS hSw => by have hL : wS.cell? ⟨w.heap.size + 2, 0, none⟩ = some (.string sm) := hSw; go_simp⟩) (fun hHeld => ?_)
    simp only [Act.put, List.getElem_toArray, List.getElem_cons_zero, List.getElem_cons_succ, List.setIfInBounds_toArray, List.set_cons_zero, List.set_cons_succ]
    refine upTo_take 22 (S := (fun w' => w'.cell? ⟨w.heap.size + 2, 0, none⟩ = some (.string sm))) (i := 2) (oi := _) (v := .pointer (some ⟨w.heap.size + 2, 0, none⟩)) rfl (by kernel_rfl) (by kernel_rfl) (by kernel_rfl) (fun _ _ _ h => h) (by decide) (by kernel_rfl) (by kernel_rfl) (fun l w1 hh g => hh.h1 g) hHeld (Or.inl ⟨by rfl, fun wS hSw => by have hL : wS.cell? ⟨w.heap.size + 2, 0, none⟩ = some (.string sm) := hSw; go_simp⟩) (fun hHeld => ?_)
    simp only [Act.put, List.getElem_toArray, List.getElem_cons_zero, List.getElem_cons_succ, List.setIfInBounds_toArray, List.set_cons_zero, List.set_cons_succ]
    refine upTo_take 22 (S := (fun w' => w'.cell? ⟨w.heap.size + 2, 0, none⟩ = some (.string sm))) (i := 3) (oi := _) (v := .string sm) rfl (by kernel_rfl) (by kernel_rfl) (by kernel_rfl) (fun _ _ _ h => h) (by decide) (by kernel_rfl) (by kernel_rfl) (fun l w1 hh g => hh.h1 g) hHeld (Or.inl ⟨by rfl, fun wS hSw => by have hL : wS.cell? ⟨w.heap.size + 2, 0, none⟩ = some (.string sm) := hSw; go_simp⟩) (fun hHeld => ?_)
    simp only [Act.put, List.getElem_toArray, List.getElem_cons_zero, List.getElem_cons_succ, List.setIfInBounds_toArray, List.set_cons_zero, List.set_cons_succ]
    refine upTo_take 22 (S := (fun w' => w'.cell? ⟨w.heap.size + 2, 0, none⟩ = some (.string sm))) (i := 4) (oi := _) (v := .int .i64 (sm.size : Int)) rfl (by kernel_rfl) (by kernel_rfl) (by kernel_rfl) (fun _ _ _ h => h) (by decide) (by kernel_rfl) (by kernel_rfl) (fun l w1 hh g => hh.h1 g) hHeld (Or.inl ⟨by rfl, fun wS hSw => by have hL : wS.cell? ⟨w.heap.size + 2, 0, none⟩ = some (.string sm) := hSw; go_simp⟩) (fun hHeld => ?_)
    simp only [Act.put, List.getElem_toArray, List.getElem_cons_zero, List.getElem_cons_succ, List.setIfInBounds_toArray, List.set_cons_zero, List.set_cons_succ]
    refine upTo_take 22 (S := (fun w' => w'.cell? ⟨w.heap.size + 2, 0, none⟩ = some (.string sm))) (i := 5) (oi := _) (v := .int .i64 (min (sm.size : Int) 40)) rfl (by kernel_rfl) (by kernel_rfl) (by kernel_rfl) (fun _ _ _ h => h) (by decide) (by kernel_rfl) (by kernel_rfl) (fun l w1 hh g => hh.h1 g) hHeld (Or.inl ⟨by rfl, fun wS hSw => by have hL : wS.cell? ⟨w.heap.size + 2, 0, none⟩ = some (.string sm) := hSw; go_simp⟩) (fun hHeld => ?_)
    simp only [Act.put, List.getElem_toArray, List.getElem_cons_zero, List.getElem_cons_succ, List.setIfInBounds_toArray, List.set_cons_zero, List.set_cons_succ]
    refine upTo_take 22 (S := (fun w' => w'.cell? ⟨w.heap.size + 2, 0, none⟩ = some (.string sm))) (i := 6) (oi := _) (v := .string (sm.extract 0 (min (sm.size : Int) 40).toNat)) rfl (by kernel_rfl) (by kernel_rfl) (by kernel_rfl) (fun _ _ _ h => h) (by decide) (by kernel_rfl) (by kernel_rfl) (fun l w1 hh g => hh.h1 g) hHeld (Or.inl ⟨by rfl, fun wS hSw => by have hL : wS.cell? ⟨w.heap.size + 2, 0, none⟩ = some (.string sm) := hSw; go_simp⟩) (fun hHeld => ?_)
    simp only [Act.put, List.getElem_toArray, List.getElem_cons_zero, List.getElem_cons_succ, List.setIfInBounds_toArray, List.set_cons_zero, List.set_cons_succ]
    refine upTo_take 24 (S := (fun w' => w'.cell? ⟨w.heap.size + 2, 1, none⟩ = some (.string st))) (i := 7) (oi := _) (v := .pointer (some ⟨w.heap.size + 2, 1, none⟩)) rfl (by kernel_rfl) (by kernel_rfl) (by kernel_rfl) (fun _ _ _ h => h) (by decide) (by kernel_rfl) (by kernel_rfl) (fun l w1 hh g => hh.h2 g) hHeld (Or.inl ⟨by rfl, fun wS hSw => by have hL : wS.cell? ⟨w.heap.size + 2, 1, none⟩ = some (.string st) := hSw; go_simp⟩) (fun hHeld => ?_)
    simp only [Act.put, List.getElem_toArray, List.getElem_cons_zero, List.getElem_cons_succ, List.setIfInBounds_toArray, List.set_cons_zero, List.set_cons_succ]
    refine upTo_take 24 (S := (fun w' => w'.cell? ⟨w.heap.size + 2, 1, none⟩ = some (.string st))) (i := 8) (oi := _) (v := .string st) rfl (by kernel_rfl) (by kernel_rfl) (by kernel_rfl) (fun _ _ _ h => h) (by decide) (by kernel_rfl) (by kernel_rfl) (fun l w1 hh g => hh.h2 g) hHeld (Or.inl ⟨by rfl, fun wS hSw => by have hL : wS.cell? ⟨w.heap.size + 2, 1, none⟩ = some (.string st) := hSw; go_simp⟩) (fun hHeld => ?_)
    simp only [Act.put, List.getElem_toArray, List.getElem_cons_zero, List.getElem_cons_succ, List.setIfInBounds_toArray, List.set_cons_zero, List.set_cons_succ]
    refine upTo_take 24 (S := (fun w' => w'.cell? ⟨w.heap.size + 2, 1, none⟩ = some (.string st))) (i := 9) (oi := _) (v := .pointer (some ⟨w.heap.size + 2, 1, none⟩)) rfl (by kernel_rfl) (by kernel_rfl) (by kernel_rfl) (fun _ _ _ h => h) (by decide) (by kernel_rfl) (by kernel_rfl) (fun l w1 hh g => hh.h2 g) hHeld (Or.inl ⟨by rfl, fun wS hSw => by have hL : wS.cell? ⟨w.heap.size + 2, 1, none⟩ = some (.string st) := hSw; go_simp⟩) (fun hHeld => ?_)
    simp only [Act.put, List.getElem_toArray, List.getElem_cons_zero, List.getElem_cons_succ, List.setIfInBounds_toArray, List.set_cons_zero, List.set_cons_succ]
    refine upTo_take 24 (S := (fun w' => w'.cell? ⟨w.heap.size + 2, 1, none⟩ = some (.string st))) (i := 10) (oi := _) (v := .string st) rfl (by kernel_rfl) (by kernel_rfl) (by kernel_rfl) (fun _ _ _ h => h) (by decide) (by kernel_rfl) (by kernel_rfl) (fun l w1 hh g => hh.h2 g) hHeld (Or.inl ⟨by rfl, fun wS hSw => by have hL : wS.cell? ⟨w.heap.size + 2, 1, none⟩ = some (.string st) := hSw; go_simp⟩) (fun hHeld => ?_)
    simp only [Act.put, List.getElem_toArray, List.getElem_cons_zero, List.getElem_cons_succ, List.setIfInBounds_toArray, List.set_cons_zero, List.set_cons_succ]
    refine upTo_take 24 (S := (fun w' => w'.cell? ⟨w.heap.size + 2, 1, none⟩ = some (.string st))) (i := 11) (oi := _) (v := .int .i64 (st.size : Int)) rfl (by kernel_rfl) (by kernel_rfl) (by kernel_rfl) (fun _ _ _ h => h) (by decide) (by kernel_rfl) (by kernel_rfl) (fun l w1 hh g => hh.h2 g) hHeld (Or.inl ⟨by rfl, fun wS hSw => by have hL : wS.cell? ⟨w.heap.size + 2, 1, none⟩ = some (.string st) := hSw; go_simp⟩) (fun hHeld => ?_)
    simp only [Act.put, List.getElem_toArray, List.getElem_cons_zero, List.getElem_cons_succ, List.setIfInBounds_toArray, List.set_cons_zero, List.set_cons_succ]
    refine upTo_take 24 (S := (fun w' => w'.cell? ⟨w.heap.size + 2, 1, none⟩ = some (.string st))) (i := 12) (oi := _) (v := .int .i64 (min (st.size : Int) 520)) rfl (by kernel_rfl) (by kernel_rfl) (by kernel_rfl) (fun _ _ _ h => h) (by decide) (by kernel_rfl) (by kernel_rfl) (fun l w1 hh g => hh.h2 g) hHeld (Or.inl ⟨by rfl, fun wS hSw => by have hL : wS.cell? ⟨w.heap.size + 2, 1, none⟩ = some (.string st) := hSw; go_simp⟩) (fun hHeld => ?_)
    simp only [Act.put, List.getElem_toArray, List.getElem_cons_zero, List.getElem_cons_succ, List.setIfInBounds_toArray, List.set_cons_zero, List.set_cons_succ]
    refine upTo_take 24 (S := (fun w' => w'.cell? ⟨w.heap.size + 2, 1, none⟩ = some (.string st))) (i := 13) (oi := _) (v := .string (st.extract 0 (min (st.size : Int) 520).toNat)) rfl (by kernel_rfl) (by kernel_rfl) (by kernel_rfl) (fun _ _ _ h => h) (by decide) (by kernel_rfl) (by kernel_rfl) (fun l w1 hh g => hh.h2 g) hHeld (Or.inl ⟨by rfl, fun wS hSw => by have hL : wS.cell? ⟨w.heap.size + 2, 1, none⟩ = some (.string st) := hSw; go_simp⟩) (fun hHeld => ?_)
    simp only [Act.put, List.getElem_toArray, List.getElem_cons_zero, List.getElem_cons_succ, List.setIfInBounds_toArray, List.set_cons_zero, List.set_cons_succ]
    refine upTo_take 26 (S := (fun w' => w'.cell? ⟨w.heap.size + 2, 3, none⟩ = some (.string sr))) (i := 14) (oi := _) (v := .pointer (some ⟨w.heap.size + 2, 3, none⟩)) rfl (by kernel_rfl) (by kernel_rfl) (by kernel_rfl) (fun _ _ _ h => h) (by decide) (by kernel_rfl) (by kernel_rfl) (fun l w1 hh g => hh.h3 g) hHeld (Or.inl ⟨by rfl, fun wS hSw => by have hL : wS.cell? ⟨w.heap.size + 2, 3, none⟩ = some (.string sr) := hSw; go_simp⟩) (fun hHeld => ?_)
    simp only [Act.put, List.getElem_toArray, List.getElem_cons_zero, List.getElem_cons_succ, List.setIfInBounds_toArray, List.set_cons_zero, List.set_cons_succ]
    refine upTo_take 26 (S := (fun w' => w'.cell? ⟨w.heap.size + 2, 3, none⟩ = some (.string sr))) (i := 15) (oi := _) (v := .string sr) rfl (by kernel_rfl) (by kernel_rfl) (by kernel_rfl) (fun _ _ _ h => h) (by decide) (by kernel_rfl) (by kernel_rfl) (fun l w1 hh g => hh.h3 g) hHeld (Or.inl ⟨by rfl, fun wS hSw => by have hL : wS.cell? ⟨w.heap.size + 2, 3, none⟩ = some (.string sr) := hSw; go_simp⟩) (fun hHeld => ?_)
    simp only [Act.put, List.getElem_toArray, List.getElem_cons_zero, List.getElem_cons_succ, List.setIfInBounds_toArray, List.set_cons_zero, List.set_cons_succ]
    refine upTo_take 26 (S := (fun w' => w'.cell? ⟨w.heap.size + 2, 3, none⟩ = some (.string sr))) (i := 16) (oi := _) (v := .pointer (some ⟨w.heap.size + 2, 3, none⟩)) rfl (by kernel_rfl) (by kernel_rfl) (by kernel_rfl) (fun _ _ _ h => h) (by decide) (by kernel_rfl) (by kernel_rfl) (fun l w1 hh g => hh.h3 g) hHeld (Or.inl ⟨by rfl, fun wS hSw => by have hL : wS.cell? ⟨w.heap.size + 2, 3, none⟩ = some (.string sr) := hSw; go_simp⟩) (fun hHeld => ?_)
    simp only [Act.put, List.getElem_toArray, List.getElem_cons_zero, List.getElem_cons_succ, List.setIfInBounds_toArray, List.set_cons_zero, List.set_cons_succ]
    refine upTo_take 26 (S := (fun w' => w'.cell? ⟨w.heap.size + 2, 3, none⟩ = some (.string sr))) (i := 17) (oi := _) (v := .string sr) rfl (by kernel_rfl) (by kernel_rfl) (by kernel_rfl) (fun _ _ _ h => h) (by decide) (by kernel_rfl) (by kernel_rfl) (fun l w1 hh g => hh.h3 g) hHeld (Or.inl ⟨by rfl, fun wS hSw => by have hL : wS.cell? ⟨w.heap.size + 2, 3, none⟩ = some (.string sr) := hSw; go_simp⟩) (fun hHeld => ?_)
    simp only [Act.put, List.getElem_toArray, List.getElem_cons_zero, List.getElem_cons_succ, List.setIfInBounds_toArray, List.set_cons_zero, List.set_cons_succ]
    refine upTo_take 26 (S := (fun w' => w'.cell? ⟨w.heap.size + 2, 3, none⟩ = some (.string sr))) (i := 18) (oi := _) (v := .int .i64 (sr.size : Int)) rfl (by kernel_rfl) (by kernel_rfl) (by kernel_rfl) (fun _ _ _ h => h) (by decide) (by kernel_rfl) (by kernel_rfl) (fun l w1 hh g => hh.h3 g) hHeld (Or.inl ⟨by rfl, fun wS hSw => by have hL : wS.cell? ⟨w.heap.size + 2, 3, none⟩ = some (.string sr) := hSw; go_simp⟩) (fun hHeld => ?_)
    simp only [Act.put, List.getElem_toArray, List.getElem_cons_zero, List.getElem_cons_succ, List.setIfInBounds_toArray, List.set_cons_zero, List.set_cons_succ]
    refine upTo_take 26 (S := (fun w' => w'.cell? ⟨w.heap.size + 2, 3, none⟩ = some (.string sr))) (i := 19) (oi := _) (v := .int .i64 (min (sr.size : Int) 120)) rfl (by kernel_rfl) (by kernel_rfl) (by kernel_rfl) (fun _ _ _ h => h) (by decide) (by kernel_rfl) (by kernel_rfl) (fun l w1 hh g => hh.h3 g) hHeld (Or.inl ⟨by rfl, fun wS hSw => by have hL : wS.cell? ⟨w.heap.size + 2, 3, none⟩ = some (.string sr) := hSw; go_simp⟩) (fun hHeld => ?_)
    simp only [Act.put, List.getElem_toArray, List.getElem_cons_zero, List.getElem_cons_succ, List.setIfInBounds_toArray, List.set_cons_zero, List.set_cons_succ]
    refine upTo_take 26 (S := (fun w' => w'.cell? ⟨w.heap.size + 2, 3, none⟩ = some (.string sr))) (i := 20) (oi := _) (v := .string (sr.extract 0 (min (sr.size : Int) 120).toNat)) rfl (by kernel_rfl) (by kernel_rfl) (by kernel_rfl) (fun _ _ _ h => h) (by decide) (by kernel_rfl) (by kernel_rfl) (fun l w1 hh g => hh.h3 g) hHeld (Or.inl ⟨by rfl, fun wS hSw => by have hL : wS.cell? ⟨w.heap.size + 2, 3, none⟩ = some (.string sr) := hSw; go_simp⟩) (fun hHeld => ?_)
    simp only [Act.put, List.getElem_toArray, List.getElem_cons_zero, List.getElem_cons_succ, List.setIfInBounds_toArray, List.set_cons_zero, List.set_cons_succ]
    refine upTo_take 22 (S := (fun w' => w'.cell? ⟨w.heap.size + 2, 0, none⟩ = some (.string sm))) (i := 21) (oi := _) (v := .pointer (some ⟨w.heap.size + 2, 0, none⟩)) rfl (by kernel_rfl) (by kernel_rfl) (by kernel_rfl) (fun _ _ _ h => h) (by decide) (by kernel_rfl) (by kernel_rfl) (fun l w1 hh g => hh.h1 g) hHeld (Or.inl ⟨by rfl, fun wS hSw => by have hL : wS.cell? ⟨w.heap.size + 2, 0, none⟩ = some (.string sm) := hSw; go_simp⟩) (fun hHeld => ?_)
    simp only [Act.put, List.getElem_toArray, List.getElem_cons_zero, List.getElem_cons_succ, List.setIfInBounds_toArray, List.set_cons_zero, List.set_cons_succ]
    refine upTo_run (i := 22) (o := _) (by kernel_rfl) rfl (fun K hK => ?_)
    go_simp
    refine hK.out _ _ (⟨fun g => Bool.noConfusion (show true = false from g), fun _ => by show World.cell? _ ⟨w.heap.size + 2, 1, none⟩ = _; go_simp, fun _ => by show World.cell? _ ⟨w.heap.size + 2, 3, none⟩ = _; go_simp⟩) (fun hHeld => ?_)
    clear hK K
    refine upTo_take 24 (S := (fun w' => w'.cell? ⟨w.heap.size + 2, 1, none⟩ = some (.string st))) (i := 23) (oi := _) (v := .pointer (some ⟨w.heap.size + 2, 1, none⟩)) rfl (by kernel_rfl) (by kernel_rfl) (by kernel_rfl) (fun _ _ _ h => h) (by decide) (by kernel_rfl) (by kernel_rfl) (fun l w1 hh g => hh.h2 g) hHeld (Or.inl ⟨by rfl, fun wS hSw => by have hL : wS.cell? ⟨w.heap.size + 2, 1, none⟩ = some (.string st) := hSw; go_simp⟩) (fun hHeld => ?_)
    simp only [Act.put, List.getElem_toArray, List.getElem_cons_zero, List.getElem_cons_succ, List.setIfInBounds_toArray, List.set_cons_zero, List.set_cons_succ]
    refine upTo_run (i := 24) (o := _) (by kernel_rfl) rfl (fun K hK => ?_)
    go_simp
    refine hK.out _ _ (⟨fun g => Bool.noConfusion (show true = false from g), fun g => Bool.noConfusion (show true = false from g), fun _ => by show World.cell? _ ⟨w.heap.size + 2, 3, none⟩ = _; go_simp⟩) (fun hHeld => ?_)
    clear hK K
    refine upTo_take 26 (S := (fun w' => w'.cell? ⟨w.heap.size + 2, 3, none⟩ = some (.string sr))) (i := 25) (oi := _) (v := .pointer (some ⟨w.heap.size + 2, 3, none⟩)) rfl (by kernel_rfl) (by kernel_rfl) (by kernel_rfl) (fun _ _ _ h => h) (by decide) (by kernel_rfl) (by kernel_rfl) (fun l w1 hh g => hh.h3 g) hHeld (Or.inl ⟨by rfl, fun wS hSw => by have hL : wS.cell? ⟨w.heap.size + 2, 3, none⟩ = some (.string sr) := hSw; go_simp⟩) (fun hHeld => ?_)
    simp only [Act.put, List.getElem_toArray, List.getElem_cons_zero, List.getElem_cons_succ, List.setIfInBounds_toArray, List.set_cons_zero, List.set_cons_succ]
    refine upTo_run (i := 26) (o := _) (by kernel_rfl) rfl (fun K hK => ?_)
    go_simp
    refine hK.out _ _ (⟨fun g => Bool.noConfusion (show true = false from g), fun g => Bool.noConfusion (show true = false from g), fun g => Bool.noConfusion (show true = false from g)⟩) (fun hHeld => ?_)
    clear hK K
    refine upTo_done (by kernel_rfl) ?_ _
    go_wp2_with fail
    go_meet
    exact ⟨(((hY.set 0 (by simp) (.string (sm.extract 0 (min (sm.size : Int) 40).toNat))).set 1 (by simp) (.string (st.extract 0 (min (st.size : Int) 520).toNat))).set 3 (by simp) (.string (sr.extract 0 (min (sr.size : Int) 120).toNat))).drew,
      (((hX2.other (w.heap.size + 2) 0 (.string (sm.extract 0 (min (sm.size : Int) 40).toNat)) (by omega)).other (w.heap.size + 2) 1 (.string (st.extract 0 (min (st.size : Int) 520).toNat)) (by omega)).other (w.heap.size + 2) 3 (.string (sr.extract 0 (min (sr.size : Int) 120).toNat)) (by omega)).drew,
      (((hZ2.other (w.heap.size + 2) 0 (.string (sm.extract 0 (min (sm.size : Int) 40).toNat)) (by omega)).other (w.heap.size + 2) 1 (.string (st.extract 0 (min (st.size : Int) 520).toNat)) (by omega)).other (w.heap.size + 2) 3 (.string (sr.extract 0 (min (sr.size : Int) 120).toNat)) (by omega)).drew,
      (((hB2.setCell (show w.heap.size ≤ w.heap.size + 2 by omega) (.string (sm.extract 0 (min (sm.size : Int) 40).toNat))).setCell (show w.heap.size ≤ w.heap.size + 2 by omega) (.string (st.extract 0 (min (st.size : Int) 520).toNat))).setCell (show w.heap.size ≤ w.heap.size + 2 by omega) (.string (sr.extract 0 (min (sr.size : Int) 120).toNat))).drew⟩
  case rest =>
    clear hY hX2 hZ2 hB2
    obtain ⟨hY, hX, hZ, hB⟩ := hcut
    clear m1 m2 m3 k1 k2 k3
    generalize sm.extract 0 (min (sm.size : Int) 40).toNat = A at HK hY
    generalize st.extract 0 (min (st.size : Int) 520).toNat = B at HK hY
    generalize sr.extract 0 (min (sr.size : Int) 120).toNat = D at HK hY
    have x5 := (hX.alloc (.cells #[] 55)).cell 5 _ rfl
    have hrt := row_take hr (by omega : m ≤ L.length)
    have HXX := hide (And.intro ((hrt.below hB).below (one_alloc wc #[] 55)) (And.intro (show Own (wc.alloc (.cells #[] 55)) wc.heap.size (.slice (some ⟨wc.heap.size, 0, none⟩) 0 0) [] from World.ownsRow_lit wc #[] 0 (Nat.le_refl _) (by decide) rfl) (one_alloc wc #[] 55)))
    have hDl : (L.take m).length = m := by rw [List.length_take]; omega
    have HS : Hid (∀ f ∈ L.take m, f.1.size ≤ maxLen ∧ f.2.size ≤ maxLen) := fun f hf => hs f (List.mem_of_mem_take hf)
    generalize L.take m = DL at HXX hDl HS
    have HDL := hide hDl
    have HX := hide hX
    have HY := hide hY
    have HZ := hide hZ
    have HB := hide hB
    have HD := hide (And.intro hd (And.intro hd2 hd3))
    clear hrt hr hs hm hDl hX hY hZ hB hd hd2 hd3
    go_wp2_with (at_builtin; refine wpList_append_Row rfl (.tmp 33) (.tmp 40) rfl wc.heap.size (.slice (some ⟨wc.heap.size, 0, none⟩) 0 0) (.slice a m cap) [] DL rfl rfl HXX.out.2.1 HXX.out.1 (by rw [HDL.out]; simp; omega) HXX.out.2.2.size ?_; intro v' w2 ho2 hg2; obtain ⟨av, cv, hv⟩ := ho2.row.slice; subst hv; rw [List.nil_append, HDL.out])
    rw [List.nil_append] at ho2
    have hB2 := HXX.out.2.2.grown hg2 HXX.out.2.2.size (own_block HXX.out.2.1)
    have HAV : Hid (0 < m → ∃ g, av = some ⟨g, 0, none⟩ ∧ wc.heap.size ≤ g ∧ ∀ o, w2.frozen? ⟨g, o, none⟩ = false) := by
      intro h0
      obtain ⟨g, cap', R, hv, hbg, hheap, -⟩ := own_parts ho2 (by rw [HDL.out]; exact h0)
      cases hv
      exact ⟨g, rfl, hbg, row_frozen hheap⟩
    have hrow2 : Row w2 (.slice av m cv) DL := by have := ho2.row; rw [HDL.out] at this; exact this
    clear ho2 hg2 HXX x5
    go_loopw [5, 6, 44] (fun _ _ i wr => ∃ (k : Nat) (M : List Fd), k ≤ m ∧ i = .int .i64 k ∧ Below wc.heap.size wc wr ∧ Hid (M.length = m) ∧ Row wr (.slice av m cv) M ∧ Hid (∀ f ∈ M.take k, f.1.size ≤ 60 ∧ f.2.size ≤ 1010) ∧ Hid (∀ f ∈ M, f.1.size ≤ maxLen ∧ f.2.size ≤ maxLen) ∧ Hid (0 < m → ∃ g, av = some ⟨g, 0, none⟩ ∧ wc.heap.size ≤ g ∧ ∀ o, wr.frozen? ⟨g, o, none⟩ = false)) (fun _ _ i _ => m - (intOf i).toNat)
    case atStart => exact ⟨0, DL, Nat.zero_le _, rfl, hB2, HDL, hrow2, by simp [Hid], HS, HAV⟩
    case round =>
      clear HAV hrow2 hB2 HS
      obtain ⟨k, M, hk, rfl, hbr, HML, hrow, hshort, hmaxs, hav⟩ := hrel
      by_cases hlt : k < m
      · have hltz : (k : Int) < m := by omega
        obtain ⟨g, rfl, hbg, hfz⟩ := hav.out (by omega)
        have hltM : k < M.length := by rw [HML.out]; exact hlt
        have HROW := hide hrow
        obtain ⟨a', cap', he, hcc, hcells⟩ := hrow
        have hav' : a' = some ⟨g, 0, none⟩ := by cases he; rfl
        subst hav'
        obtain ⟨g', off', he', hgl, c0, c1⟩ := hcells k hltM
        cases he'
        rw [Nat.zero_add] at c0 c1
        have hszs := hmaxs.out _ (List.getElem_mem hltM)
        have hTK : Hid (∀ x : Fd, x.1.size ≤ 60 ∧ x.2.size ≤ 1010 → ∀ f ∈ (M.set k x).take (k + 1), f.1.size ≤ 60 ∧ f.2.size ≤ 1010) := by
          unfold Hid
          intro x hx f hf
          rw [List.take_succ_eq_append_getElem (by simpa using hltM), List.getElem_set_self, List.take_set_of_le (Nat.le_refl _)] at hf
          rcases List.mem_append.1 hf with hf | hf
          · exact hshort.out f hf
          · obtain rfl : f = x := by simpa using hf
            exact hx
        have hMX : Hid (∀ x : Fd, x.1.size ≤ 60 ∧ x.2.size ≤ 1010 → ∀ f ∈ M.set k x, f.1.size ≤ maxLen ∧ f.2.size ≤ maxLen) := by
          unfold Hid
          intro x hx f hf
          rcases List.mem_or_eq_of_mem_set hf with hf | rfl
          · exact hmaxs.out f hf
          · exact ⟨Nat.le_trans hx.1 (by decide), Nat.le_trans hx.2 (by decide)⟩
        obtain ⟨x, hx⟩ : ∃ x, M[k]'hltM = x := ⟨_, rfl⟩
        rw [hx] at c0 c1 hszs
        clear hx hcells he hcc hshort hmaxs hav
        have HBR := hide hbr
        have hsz := hbr.size
        obtain ⟨p, hp⟩ : ∃ p : Nat, p = min x.1.size 60 := ⟨_, rfl⟩
        obtain ⟨q, hq⟩ : ∃ q : Nat, q = min x.2.size 1010 := ⟨_, rfl⟩
        have hp1 : p ≤ x.1.size := by omega
        have hq1 : q ≤ x.2.size := by omega
        have hp2 : p ≤ 60 := by omega
        have hq2 : q ≤ 1010 := by omega
        have HP := hide hp
        have HQ := hide hq
        clear hp hq hbr
        have e0 : (wr.alloc (.cells #[.string x.1, .string x.2] 55)).cell? ⟨g, k * 2, none⟩ = some (.string x.1) := by rw [(stays (one_alloc _ _ _)).1 _ _ hgl]; exact c0
        have e1 : (wr.alloc (.cells #[.string x.1, .string x.2] 55)).cell? ⟨g, k * 2 + 1, none⟩ = some (.string x.2) := by rw [(stays (one_alloc _ _ _)).1 _ _ hgl]; exact c1
        have f0 : ∀ o, (wr.alloc (.cells #[.string x.1, .string x.2] 55)).frozen? ⟨g, o, none⟩ = false := fun o => by rw [(stays (one_alloc _ _ _)).2 _ _ hgl]; exact hfz o
        have d0 : (wr.alloc (.cells #[.string x.1, .string x.2] 55)).cell? ⟨wr.heap.size, 0, none⟩ = some (.string x.1) := by go_simp
        have d1 : (wr.alloc (.cells #[.string x.1, .string x.2] 55)).cell? ⟨wr.heap.size, 1, none⟩ = some (.string x.2) := by go_simp
        have HROW4 := hide (HROW.out.below (one_alloc wr #[.string x.1, .string x.2] 55))
        have HB4 := hide (HBR.out.alloc HBR.out.size (.cells #[.string x.1, .string x.2] 55))
        go_wp2_with fail
        generalize wr.alloc (.cells #[.string x.1, .string x.2] 55) = w4 at e0 e1 f0 d0 d1 HROW4 HB4 ⊢
        have hgN : g < wr.heap.size := hgl
        generalize wr.heap.size = N4 at d0 d1 hgN ⊢
        refine wp_region_held_drew (S := (fun w' => w'.cell? ⟨N4, 0, none⟩ = some (.string x.1) ∧ w'.cell? ⟨N4, 1, none⟩ = some (.string x.2))) (by kernel_rfl) (⟨d0, d1⟩) (fun hHeld => ?_)
        refine wpAnyH_take (i := 0) (oi := _) (v := .slice (some ⟨g, 0, none⟩) m cv) rfl (by kernel_rfl) (by kernel_rfl) (by kernel_rfl) (fun _ _ _ h => h) (Or.inl ⟨by rfl, fun wS hSw => by go_simp⟩) (by first | trivial | assumption) ?_
        simp only [Act.put, List.getElem_toArray, List.getElem_cons_zero, List.getElem_cons_succ, List.setIfInBounds_toArray, List.set_cons_zero, List.set_cons_succ]
        refine wpAnyH_take (i := 1) (oi := _) (v := .int .i64 k) rfl (by kernel_rfl) (by kernel_rfl) (by kernel_rfl) (fun _ _ _ h => h) (Or.inl ⟨by rfl, fun wS hSw => by go_simp⟩) (by first | trivial | assumption) ?_
        simp only [Act.put, List.getElem_toArray, List.getElem_cons_zero, List.getElem_cons_succ, List.setIfInBounds_toArray, List.set_cons_zero, List.set_cons_succ]
        refine wpAnyH_take (i := 2) (oi := _) (v := .pointer (some ⟨N4, 0, none⟩)) rfl (by kernel_rfl) (by kernel_rfl) (by kernel_rfl) (fun _ _ _ h => h) (Or.inl ⟨by rfl, fun wS hSw => by go_simp⟩) (by first | trivial | assumption) ?_
        simp only [Act.put, List.getElem_toArray, List.getElem_cons_zero, List.getElem_cons_succ, List.setIfInBounds_toArray, List.set_cons_zero, List.set_cons_succ]
        refine wpAnyH_take (i := 3) (oi := _) (v := .string x.1) rfl (by kernel_rfl) (by kernel_rfl) (by kernel_rfl) (fun _ _ _ h => h) (Or.inl ⟨by rfl, fun wS hSw => by obtain ⟨hL0, hL1⟩ := hSw; go_simp⟩) (by first | trivial | assumption) ?_
        simp only [Act.put, List.getElem_toArray, List.getElem_cons_zero, List.getElem_cons_succ, List.setIfInBounds_toArray, List.set_cons_zero, List.set_cons_succ]
        refine wpAnyH_take (i := 4) (oi := _) (v := .pointer (some ⟨N4, 0, none⟩)) rfl (by kernel_rfl) (by kernel_rfl) (by kernel_rfl) (fun _ _ _ h => h) (Or.inl ⟨by rfl, fun wS hSw => by go_simp⟩) (by first | trivial | assumption) ?_
        simp only [Act.put, List.getElem_toArray, List.getElem_cons_zero, List.getElem_cons_succ, List.setIfInBounds_toArray, List.set_cons_zero, List.set_cons_succ]
        refine wpAnyH_take (i := 5) (oi := _) (v := .string x.1) rfl (by kernel_rfl) (by kernel_rfl) (by kernel_rfl) (fun _ _ _ h => h) (Or.inl ⟨by rfl, fun wS hSw => by obtain ⟨hL0, hL1⟩ := hSw; go_simp⟩) (by first | trivial | assumption) ?_
        simp only [Act.put, List.getElem_toArray, List.getElem_cons_zero, List.getElem_cons_succ, List.setIfInBounds_toArray, List.set_cons_zero, List.set_cons_succ]
        refine wpAnyH_take (i := 6) (oi := _) (v := .int .i64 x.1.size) rfl (by kernel_rfl) (by kernel_rfl) (by kernel_rfl) (fun _ _ _ h => h) (Or.inl ⟨by rfl, fun wS hSw => by go_simp⟩) (by first | trivial | assumption) ?_
        simp only [Act.put, List.getElem_toArray, List.getElem_cons_zero, List.getElem_cons_succ, List.setIfInBounds_toArray, List.set_cons_zero, List.set_cons_succ]
        refine wpAnyH_take (i := 7) (oi := _) (v := .int .i64 p) rfl (by kernel_rfl) (by kernel_rfl) (by kernel_rfl) (fun _ _ _ h => h) (Or.inl ⟨by rfl, fun wS hSw => by go_simp; have := HP.out; omega⟩) (by first | trivial | assumption) ?_
        simp only [Act.put, List.getElem_toArray, List.getElem_cons_zero, List.getElem_cons_succ, List.setIfInBounds_toArray, List.set_cons_zero, List.set_cons_succ]
        refine wpAnyH_take (i := 8) (oi := _) (v := .string (x.1.extract 0 p)) rfl (by kernel_rfl) (by kernel_rfl) (by kernel_rfl) (fun _ _ _ h => h) (Or.inl ⟨by rfl, fun wS hSw => by go_simp⟩) (by first | trivial | assumption) ?_
        simp only [Act.put, List.getElem_toArray, List.getElem_cons_zero, List.getElem_cons_succ, List.setIfInBounds_toArray, List.set_cons_zero, List.set_cons_succ]
        refine wpAnyH_take (i := 9) (oi := _) (v := .pointer (some ⟨N4, 1, none⟩)) rfl (by kernel_rfl) (by kernel_rfl) (by kernel_rfl) (fun _ _ _ h => h) (Or.inl ⟨by rfl, fun wS hSw => by go_simp⟩) (by first | trivial | assumption) ?_
        simp only [Act.put, List.getElem_toArray, List.getElem_cons_zero, List.getElem_cons_succ, List.setIfInBounds_toArray, List.set_cons_zero, List.set_cons_succ]
        refine wpAnyH_take (i := 10) (oi := _) (v := .string x.2) rfl (by kernel_rfl) (by kernel_rfl) (by kernel_rfl) (fun _ _ _ h => h) (Or.inl ⟨by rfl, fun wS hSw => by obtain ⟨hL0, hL1⟩ := hSw; go_simp⟩) (by first | trivial | assumption) ?_
        simp only [Act.put, List.getElem_toArray, List.getElem_cons_zero, List.getElem_cons_succ, List.setIfInBounds_toArray, List.set_cons_zero, List.set_cons_succ]
        refine wpAnyH_take (i := 11) (oi := _) (v := .pointer (some ⟨N4, 1, none⟩)) rfl (by kernel_rfl) (by kernel_rfl) (by kernel_rfl) (fun _ _ _ h => h) (Or.inl ⟨by rfl, fun wS hSw => by go_simp⟩) (by first | trivial | assumption) ?_
        simp only [Act.put, List.getElem_toArray, List.getElem_cons_zero, List.getElem_cons_succ, List.setIfInBounds_toArray, List.set_cons_zero, List.set_cons_succ]
        refine wpAnyH_take (i := 12) (oi := _) (v := .string x.2) rfl (by kernel_rfl) (by kernel_rfl) (by kernel_rfl) (fun _ _ _ h => h) (Or.inl ⟨by rfl, fun wS hSw => by obtain ⟨hL0, hL1⟩ := hSw; go_simp⟩) (by first | trivial | assumption) ?_
        simp only [Act.put, List.getElem_toArray, List.getElem_cons_zero, List.getElem_cons_succ, List.setIfInBounds_toArray, List.set_cons_zero, List.set_cons_succ]
        refine wpAnyH_take (i := 13) (oi := _) (v := .int .i64 x.2.size) rfl (by kernel_rfl) (by kernel_rfl) (by kernel_rfl) (fun _ _ _ h => h) (Or.inl ⟨by rfl, fun wS hSw => by go_simp⟩) (by first | trivial | assumption) ?_
        simp only [Act.put, List.getElem_toArray, List.getElem_cons_zero, List.getElem_cons_succ, List.setIfInBounds_toArray, List.set_cons_zero, List.set_cons_succ]
        refine wpAnyH_take (i := 14) (oi := _) (v := .int .i64 q) rfl (by kernel_rfl) (by kernel_rfl) (by kernel_rfl) (fun _ _ _ h => h) (Or.inl ⟨by rfl, fun wS hSw => by go_simp; have := HQ.out; omega⟩) (by first | trivial | assumption) ?_
        simp only [Act.put, List.getElem_toArray, List.getElem_cons_zero, List.getElem_cons_succ, List.setIfInBounds_toArray, List.set_cons_zero, List.set_cons_succ]
        refine wpAnyH_take (i := 15) (oi := _) (v := .string (x.2.extract 0 q)) rfl (by kernel_rfl) (by kernel_rfl) (by kernel_rfl) (fun _ _ _ h => h) (Or.inl ⟨by rfl, fun wS hSw => by go_simp⟩) (by first | trivial | assumption) ?_
        simp only [Act.put, List.getElem_toArray, List.getElem_cons_zero, List.getElem_cons_succ, List.setIfInBounds_toArray, List.set_cons_zero, List.set_cons_succ]
        refine wpAnyH_take (i := 16) (oi := _) (v := .agg #[.string (x.1.extract 0 p), .string (x.2.extract 0 q)]) rfl (by kernel_rfl) (by kernel_rfl) (by kernel_rfl) (fun _ _ _ h => h) (Or.inl ⟨by rfl, fun wS hSw => by go_simp⟩) (by first | trivial | assumption) ?_
        simp only [Act.put, List.getElem_toArray, List.getElem_cons_zero, List.getElem_cons_succ, List.setIfInBounds_toArray, List.set_cons_zero, List.set_cons_succ]
        refine wpAnyH_take (i := 17) (oi := _) (v := .pointer (some ⟨g, k * 2, none⟩)) rfl (by kernel_rfl) (by kernel_rfl) (by kernel_rfl) (fun _ _ _ h => h) (Or.inl ⟨by rfl, fun wS hSw => by go_simp⟩) (by first | trivial | assumption) ?_
        simp only [Act.put, List.getElem_toArray, List.getElem_cons_zero, List.getElem_cons_succ, List.setIfInBounds_toArray, List.set_cons_zero, List.set_cons_succ]
        refine wpAnyH_ready (rs := [18]) (by kernel_rfl) (by simp) ?_
        refine AllReadyH.cons (o := _) rfl (fun K hK => ?_) AllReadyH.nil
        go_simp
        refine hK.out _ _ (⟨cell_set_other (cell_set_other d0 (by simp <;> omega)) (by simp <;> omega), cell_set_other (cell_set_other d1 (by simp <;> omega)) (by simp <;> omega)⟩) (fun hHeld => ?_)
        clear hK K
        refine wpAnyH_done (by kernel_rfl) ?_ _
        go_wp2_with fail
        have hsx : (x.1.extract 0 p).size ≤ 60 ∧ (x.2.extract 0 q).size ≤ 1010 := by
          rw [ByteArray.size_extract, ByteArray.size_extract]; omega
        have hR5 : Row ((w4.drew.setCell ⟨g, k * 2, none⟩ (.string (x.1.extract 0 p))).setCell ⟨g, k * 2 + 1, none⟩ (.string (x.2.extract 0 q))) (.slice (some ⟨g, 0, none⟩) m cv) (M.set k (x.1.extract 0 p, x.2.extract 0 q)) := by
          have h := HROW4.out
          rw [← HML.out] at h ⊢
          exact row_set (w := w4.drew) (x := (x.1.extract 0 p, x.2.extract 0 q)) h (by rw [HML.out]; exact hlt)
        refine ⟨⟨k + 1, M.set k (x.1.extract 0 p, x.2.extract 0 q), by omega, by go_num, ?_, by unfold Hid; rw [List.length_set]; exact HML.out, hR5, hTK.out _ hsx, hMX.out _ hsx, fun _ => ⟨g, rfl, hbg, fun o => ?_⟩⟩, by simp [intOf]; omega⟩
        · exact (HB4.out.drew.setCell hbg _).setCell hbg _
        · show ((w4.setCell ⟨g, k * 2, none⟩ (.string (x.1.extract 0 p))).setCell ⟨g, k * 2 + 1, none⟩ (.string (x.2.extract 0 q))).frozen? ⟨g, o, none⟩ = false
          rw [World.frozen?_setCell, World.frozen?_setCell]; exact f0 o
      · have hd : decide ((k : Int) < m) = false := decide_eq_false (by omega)
        rw [List.take_of_length_le (by rw [HML.out]; omega)] at hshort
        have hX := HX.out.below hbr
        have hY := HY.out.below hbr
        have hZ := HZ.out.below hbr
        have hBr := HB.out.trans (hbr.mono HB.out.size)
        have HROW := hide hrow
        have HREST := hide (And.intro hshort.out hav.out)
        obtain ⟨d1, d2, d3⟩ := HD.out
        have d4 : (bb.extract 0 d).size ≤ 21000 := by rw [ByteArray.size_extract]; omega
        have HD4 := hide d4
        clear hrow hshort hmaxs hav d4
        go_wp2_with fail
        refine wp_region_held_drew (S := (fun w' => Blk w' w.heap.size 26 [.string sm, .string st, .int .i64 sc, .string sr, .int .i64 sn, .slice a L.length cap, .string bb] ∧ Blk w' (w.heap.size + 2) 23 [.string A, .string B, .int .i64 sc, .string D, .int .i64 sn])) (by kernel_rfl) (⟨hX.drew, hY.drew⟩) (fun hHeld => ?_)
        refine wpAnyH_take (i := 0) (oi := _) (v := .agg #[.string A, .string B, .int .i64 sc, .string D, .int .i64 sn]) rfl (by kernel_rfl) (by kernel_rfl) (by kernel_rfl) (fun _ _ _ h => h) (yieldsIf_load_mid (by kernel_rfl) 23 (.tmp 3) rfl (w.heap.size + 2) 0 rfl _ _ (fun _ hS => Blk.range (hS.2) 0 5) Tryz.underlying23 rfl (by kernel_rfl)) (by first | trivial | assumption) ?_
        simp only [Act.put, List.getElem_toArray, List.getElem_cons_zero, List.getElem_cons_succ, List.setIfInBounds_toArray, List.set_cons_zero, List.set_cons_succ]
        refine wpAnyH_take (i := 1) (oi := _) (v := .slice av m cv) rfl (by kernel_rfl) (by kernel_rfl) (by kernel_rfl) (fun _ _ _ h => h) (Or.inl ⟨by rfl, fun wS hSw => by go_simp⟩) (by first | trivial | assumption) ?_
        simp only [Act.put, List.getElem_toArray, List.getElem_cons_zero, List.getElem_cons_succ, List.setIfInBounds_toArray, List.set_cons_zero, List.set_cons_succ]
        refine wpAnyH_take (i := 2) (oi := _) (v := .pointer (some ⟨w.heap.size, 6, none⟩)) rfl (by kernel_rfl) (by kernel_rfl) (by kernel_rfl) (fun _ _ _ h => h) (Or.inl ⟨by rfl, fun wS hSw => by go_simp⟩) (by first | trivial | assumption) ?_
        simp only [Act.put, List.getElem_toArray, List.getElem_cons_zero, List.getElem_cons_succ, List.setIfInBounds_toArray, List.set_cons_zero, List.set_cons_succ]
        refine wpAnyH_take (i := 3) (oi := _) (v := .string bb) rfl (by kernel_rfl) (by kernel_rfl) (by kernel_rfl) (fun _ _ _ h => h) (Or.inl ⟨by kernel_rfl, fun wS hSw => by have c := hSw.1.cell 6 _ rfl; go_simp⟩) (by first | trivial | assumption) ?_
        simp only [Act.put, List.getElem_toArray, List.getElem_cons_zero, List.getElem_cons_succ, List.setIfInBounds_toArray, List.set_cons_zero, List.set_cons_succ]
        refine wpAnyH_take (i := 4) (oi := _) (v := .pointer (some ⟨w.heap.size, 6, none⟩)) rfl (by kernel_rfl) (by kernel_rfl) (by kernel_rfl) (fun _ _ _ h => h) (Or.inl ⟨by rfl, fun wS hSw => by go_simp⟩) (by first | trivial | assumption) ?_
        simp only [Act.put, List.getElem_toArray, List.getElem_cons_zero, List.getElem_cons_succ, List.setIfInBounds_toArray, List.set_cons_zero, List.set_cons_succ]
        refine wpAnyH_take (i := 5) (oi := _) (v := .string bb) rfl (by kernel_rfl) (by kernel_rfl) (by kernel_rfl) (fun _ _ _ h => h) (Or.inl ⟨by kernel_rfl, fun wS hSw => by have c := hSw.1.cell 6 _ rfl; go_simp⟩) (by first | trivial | assumption) ?_
        simp only [Act.put, List.getElem_toArray, List.getElem_cons_zero, List.getElem_cons_succ, List.setIfInBounds_toArray, List.set_cons_zero, List.set_cons_succ]
        refine wpAnyH_take (i := 6) (oi := _) (v := .int .i64 bb.size) rfl (by kernel_rfl) (by kernel_rfl) (by kernel_rfl) (fun _ _ _ h => h) (Or.inl ⟨by rfl, fun wS hSw => by go_simp⟩) (by first | trivial | assumption) ?_
        simp only [Act.put, List.getElem_toArray, List.getElem_cons_zero, List.getElem_cons_succ, List.setIfInBounds_toArray, List.set_cons_zero, List.set_cons_succ]
        refine wpAnyH_take (i := 7) (oi := _) (v := .int .i64 d) rfl (by kernel_rfl) (by kernel_rfl) (by kernel_rfl) (fun _ _ _ h => h) (Or.inl ⟨by rfl, fun wS hSw => by go_simp⟩) (by first | trivial | assumption) ?_
        simp only [Act.put, List.getElem_toArray, List.getElem_cons_zero, List.getElem_cons_succ, List.setIfInBounds_toArray, List.set_cons_zero, List.set_cons_succ]
        refine wpAnyH_take (i := 8) (oi := _) (v := .string (bb.extract 0 d)) rfl (by kernel_rfl) (by kernel_rfl) (by kernel_rfl) (fun _ _ _ h => h) (Or.inl ⟨by rfl, fun wS hSw => by go_simp⟩) (by first | trivial | assumption) ?_
        simp only [Act.put, List.getElem_toArray, List.getElem_cons_zero, List.getElem_cons_succ, List.setIfInBounds_toArray, List.set_cons_zero, List.set_cons_succ]
        refine wpAnyH_take (i := 9) (oi := _) (v := .agg #[.string A, .string B, .int .i64 sc, .string D, .int .i64 sn, .slice av m cv, .string (bb.extract 0 d)]) rfl (by kernel_rfl) (by kernel_rfl) (by kernel_rfl) (fun _ _ _ h => h) (Or.inl ⟨by rfl, fun wS hSw => by go_simp⟩) (by first | trivial | assumption) ?_
        simp only [Act.put, List.getElem_toArray, List.getElem_cons_zero, List.getElem_cons_succ, List.setIfInBounds_toArray, List.set_cons_zero, List.set_cons_succ]
        have hth := hZ.drew.there 0 7 (show 0 + 7 ≤ 7 by decide)
        have hO := only_sets [.string A, .string B, .int .i64 sc, .string D, .int .i64 sn, .slice av m cv, .string (bb.extract 0 d)] 0 (only_refl wr.drew (w.heap.size + 1))
        have hO2 : wr.grownBy (wr.drew.setCells (w.heap.size + 1) 0 [.string A, .string B, .int .i64 sc, .string D, .int .i64 sn, .slice av m cv, .string (bb.extract 0 d)]) (some (w.heap.size + 1)) := ⟨hO.os, hO.tape, hO.output, hO.size, hO.block⟩
        refine wpAnyH_ready (rs := [10]) (by kernel_rfl) (by simp) ?_
        refine AllReadyH.cons (o := _) rfl (fun K hK => ?_) AllReadyH.nil
        rw [if_pos (by kernel_rfl)]
        refine wp_store_mid 26 (.tmp 2) (.tmp 77) rfl _ _ _ rfl rfl (hth) (by kernel_rfl) (by simp [Value.oneCell']) ?_
        simp only [Act.put, List.getElem_toArray, List.getElem_cons_zero, List.getElem_cons_succ, List.setIfInBounds_toArray, List.set_cons_zero, List.set_cons_succ]
        refine hK.out _ _ (⟨hX.drew.keep (hO.block _ hX.drew.lt (fun e => absurd (Option.some.inj e) (by omega))), hY.drew.keep (hO.block _ hY.drew.lt (fun e => absurd (Option.some.inj e) (by omega)))⟩) (fun hHeld => ?_)
        clear hK K
        refine wpAnyH_done (by kernel_rfl) ?_ _
        go_wp2_with fail
        have hZ2 : Blk (wr.drew.setCells (w.heap.size + 1) 0 [.string A, .string B, .int .i64 sc, .string D, .int .i64 sn, .slice av m cv, .string (bb.extract 0 d)]) (w.heap.size + 1) 26 [.string A, .string B, .int .i64 sc, .string D, .int .i64 sn, .slice av m cv, .string (bb.extract 0 d)] := hZ.drew.sets [.string A, .string B, .int .i64 sc, .string D, .int .i64 sn, .slice av m cv, .string (bb.extract 0 d)] 0 (show 0 + 7 ≤ 7 by decide)
        refine bodyPost_ret (results_few hZ2 rfl rfl) rfl ⟨⟨⟨⟨A, B, sc, D, sn⟩, M, (bb.extract 0 d).data.toList⟩, .slice av m cv, ?_, ?_⟩, ?_⟩
        · unfold Ms.v
          rw [bs_back]
        · refine ⟨?_, rfl, rfl, HK.out.1, HK.out.2.1, HK.out.2.2, ?_, HREST.out.1, ?_, ?_⟩
          · refine Row.only HROW.out ?_ hO2
            intro h0
            obtain ⟨g, hg, hbg, -⟩ := HREST.out.2 (by rw [← HML.out]; exact h0)
            have := HZ.out.lt
            exact ⟨g, m, cv, by rw [hg], by omega⟩
          · show M.length ≤ 45
            rw [HML.out]; exact hm2
          · show (bb.extract 0 d).data.toList.length ≤ 21000
            have := HD4.out
            simpa using this
          · intro h0
            obtain ⟨g, hg, hbg, -⟩ := HREST.out.2 (by rw [← HML.out]; exact h0)
            have := HB.out.size
            exact ⟨g, m, cv, by rw [hg], by omega⟩
        · exact hBr.trans (below_only (w := wr) hO2 (Nat.le_succ _) hBr.size)

end Go.Proofs.YtmpijlaidnhpnaaGreatDoor
