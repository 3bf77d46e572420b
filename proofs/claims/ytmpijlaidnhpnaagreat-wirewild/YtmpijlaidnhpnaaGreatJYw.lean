/- The walk of WireWild. -/
import Derived.Test.YtmpijlaidnhpnaaGreatJYf
import Derived.Test.YtmpijlaidnhpnaaGreatJYe
namespace Go.Proofs.YtmpijlaidnhpnaaGreat
set_option linter.unusedVariables false
set_option linter.unusedSimpArgs false
set_option maxRecDepth 100000
open Go.RowKit
open Ck (region_upTo upTo_take upTo_run upTo_done)

theorem size_list' (B : ByteArray) : B.data.toList.length = B.size := by simp
/-- A load under a guard that holds. -/
theorem wpList_load_want {P : Program} {ops : Array Oper} {rest : List Oper} {op : Oper} {a : Act} {w : World} {Q : Exit → Act → World → Prop} (hw : Region.wanted op (yielded ops a.tmps) = true) (ty : TypeId) (x : Operand) (ho : op.op = .load ty x)
    (b o : Nat) (hx : a.eval x = .pointer (some ⟨b, o, none⟩)) (cs : List Value) (d : TypeDesc) (hc : w.rangeAt b o cs) (hu : P.underlying ty = some d) (hd : d.isRow = true) (hi : (P.info? ty).map (·.size) = some cs.length)
    (h : wpList P ops Q rest (a.put op.dst (.agg cs.toArray)) w) : wpList P ops Q (op :: rest) a w := by
  unfold wpList
  rw [if_pos hw]
  exact Or.inl (wp_load_mid ty x ho b o hx cs d hc hu hd hi h)
theorem wpList_build_want {P : Program} {ops : Array Oper} {rest : List Oper} {o : Oper} {a : Act} {w : World} {Q : Exit → Act → World → Prop} (hg : Region.wanted o (yielded ops a.tmps) = true) (t : TypeId) (parts : Array (Nat × Operand)) (ho : o.op = .build t parts) (cells : Array Value)
    (hv : P.built t (parts.map fun (i, x) => (i, a.eval x)).toList = some cells)
    (h : wpList P ops Q rest (a.put o.dst (.agg cells)) w) : wpList P ops Q (o :: rest) a w := by
  unfold wpList
  rw [if_pos hg]
  refine Or.inl (wp_build t parts ho (by rw [hv]; rfl) ?_)
  rw [hv]
  exact h
theorem min_in (n : Nat) (c : Int) (hc : 0 ≤ c) : (0 : Int) ≤ min (n : Int) c ∧ min (n : Int) c ≤ (n : Int) := by omega
theorem cut_le (B : ByteArray) (c : Nat) : (B.extract 0 (min (B.size : Int) c).toNat).size ≤ c := by rw [ByteArray.size_extract]; omega

/-- How much a reader holds that was cut. -/
structure Gut (r : Rr) : Prop where
  s : Short r.m.s
  l : r.m.L.length ≤ 45
  f : Sh r.m.L
  b : r.m.b.length ≤ 21000
  c : r.c.line.size ≤ 300
  u : r.buf.length ≤ 4100

set_option maxHeartbeats 16000000 in
theorem wild_walk (a : Bool) (t bu : ByteArray) (i : Bool) (sm st : ByteArray) (sc : Int) (sr : ByteArray) (sn : Int) (L : List Fd) (bb : ByteArray) (ad : Option Addr) (cap : Nat) (k z cst : Int) (cln : ByteArray) (clf csz e : Int) (s : ByteArray) (w : World) (hr : Row w (.slice ad L.length cap) L) (hcm : cap ≤ maxLen) (hs : ∀ f ∈ L, f.1.size ≤ maxLen ∧ f.2.size ≤ maxLen)
    (z0 : sm.size ≤ maxLen) (z1 : st.size ≤ maxLen) (z2 : sr.size ≤ maxLen) (z3 : bb.size ≤ maxLen) (z4 : t.size ≤ maxLen) (z5 : bu.size ≤ maxLen) (z6 : cln.size ≤ maxLen) (z7 : s.size ≤ maxLen) :
    Calls Tryz.prog 5 #[.agg #[.bool a, .string t, .string bu, .bool i, .string sm, .string st, .int .i64 sc, .string sr, .int .i64 sn, .slice ad L.length cap, .string bb, .int .i64 k, .int .i64 z, .int .i64 cst, .string cln, .int .i64 clf, .int .i64 csz, .int .i64 e], .string s] w fun en w' => en = .returned (.bool true) ∧ Below w.heap.size w w' := by
  have hX : Blk (w.alloc (.cells #[.bool a, .string t, .string bu, .bool i, .string sm, .string st, .int .i64 sc, .string sr, .int .i64 sn, .slice ad L.length cap, .string bb, .int .i64 k, .int .i64 z, .int .i64 cst, .string cln, .int .i64 clf, .int .i64 csz, .int .i64 e] 33)) w.heap.size 33 [.bool a, .string t, .string bu, .bool i, .string sm, .string st, .int .i64 sc, .string sr, .int .i64 sn, .slice ad L.length cap, .string bb, .int .i64 k, .int .i64 z, .int .i64 cst, .string cln, .int .i64 clf, .int .i64 csz, .int .i64 e] := Blk.new w 33 _
  have hB : Below w.heap.size w (w.alloc (.cells #[.bool a, .string t, .string bu, .bool i, .string sm, .string st, .int .i64 sc, .string sr, .int .i64 sn, .slice ad L.length cap, .string bb, .int .i64 k, .int .i64 z, .int .i64 cst, .string cln, .int .i64 clf, .int .i64 csz, .int .i64 e] 33)) := (Below.refl _ _).alloc (Nat.le_refl _) _
  have hF := few_any sm st sc sr sn L bb ad cap _ (hr.below hB) hcm hs z0 z1 z2 z3
  unfold maxLen at z4 z5 z6 z7
  go_enter Tryz.func5, Tryz.ntmps5
  go_upto_region 1 with fail
  generalize World.alloc _ _ = W1 at hX hB hF ⊢
  go_wp2_with (refine wpList_load_mid rfl 26 (.tmp 11) rfl w.heap.size 4 rfl [.string sm, .string st, .int .i64 sc, .string sr, .int .i64 sn, .slice ad L.length cap, .string bb] _ (hX.range 4 7) Tryz.underlying26 rfl (by kernel_rfl) ?_)
  refine hF.mono ?_
  rintro en w2 ⟨⟨x, v, rfl, hw⟩, hb2⟩
  have hN := hX.lt
  replace hX := hX.below hb2
  replace hB := hB.trans (hb2.mono hB.size)
  have hsh : Short x.s := ⟨Nat.le_trans hw.sm (by decide), Nat.le_trans hw.st (by decide), Nat.le_trans hw.sr (by decide)⟩
  have hSh : Sh x.L := fun f hf => ⟨Nat.le_trans (hw.f f hf).1 (by decide), Nat.le_trans (hw.f f hf).2 (by decide)⟩
  have hl := hw.l
  have hbl := hw.b
  obtain ⟨va, vc, rfl⟩ := hw.row.slice
  have hfar : 0 < x.L.length → ∃ g n c, (Value.slice va x.L.length vc) = .slice (some ⟨g, 0, none⟩) n c ∧ w.heap.size < g := fun h0 => by obtain ⟨g, n, c, e, hg⟩ := hw.own h0; exact ⟨g, n, c, e, by omega⟩
  have hth := hX.there 4 7 (show 4 + 7 ≤ 18 by decide)
  have hO := only_sets [.string x.s.m, .string x.s.t, .int .i64 x.s.c, .string x.s.r, .int .i64 x.s.n, .slice va x.L.length vc, .string (Ck.bs x.b)] 4 (only_refl w2 w.heap.size)
  have hX2 : Blk (w2.setCells w.heap.size 4 [.string x.s.m, .string x.s.t, .int .i64 x.s.c, .string x.s.r, .int .i64 x.s.n, .slice va x.L.length vc, .string (Ck.bs x.b)]) w.heap.size 33 [.bool a, .string t, .string bu, .bool i, .string x.s.m, .string x.s.t, .int .i64 x.s.c, .string x.s.r, .int .i64 x.s.n, .slice va x.L.length vc, .string (Ck.bs x.b), .int .i64 k, .int .i64 z, .int .i64 cst, .string cln, .int .i64 clf, .int .i64 csz, .int .i64 e] := hX.sets [.string x.s.m, .string x.s.t, .int .i64 x.s.c, .string x.s.r, .int .i64 x.s.n, .slice va x.L.length vc, .string (Ck.bs x.b)] 4 (show 4 + 7 ≤ 18 by decide)
  have hR2 : Row (w2.setCells w.heap.size 4 [.string x.s.m, .string x.s.t, .int .i64 x.s.c, .string x.s.r, .int .i64 x.s.n, .slice va x.L.length vc, .string (Ck.bs x.b)]) (.slice va x.L.length vc) x.L := Row.only hw.row hfar hO
  have hB2 := hB.trans (below_only hO (Nat.le_refl _) hB.size)
  have HQ := hide (And.intro hX2 (And.intro hB2 hR2))
  have HS := hide (And.intro hsh (And.intro hSh (And.intro hl (And.intro hbl hfar))))
  clear hX hB hO hX2 hR2 hB2 hsh hSh hl hbl hF hb2 hw hr hs hfar
  rw [show x.v (.slice va x.L.length vc) = .agg #[.string x.s.m, .string x.s.t, .int .i64 x.s.c, .string x.s.r, .int .i64 x.s.n, .slice va x.L.length vc, .string (Ck.bs x.b)] from rfl]
  go_upto_region 2 with (refine wpList_store_mid rfl 26 (.tmp 14) (.tmp 13) rfl w.heap.size 4 #[.string x.s.m, .string x.s.t, .int .i64 x.s.c, .string x.s.r, .int .i64 x.s.n, .slice va x.L.length vc, .string (Ck.bs x.b)] rfl rfl hth (by kernel_rfl) (by simp [Value.oneCell']) ?_; obtain ⟨hX, hB, hR⟩ := HQ.out; generalize World.setCells _ _ _ _ = W3 at hX hB hR ⊢; have HR := hide hR; clear hR HQ hth)
  simp only [Act.put]
  obtain ⟨m1, k1⟩ := min_in bu.size 4100 (by decide)
  obtain ⟨m2, k2⟩ := min_in t.size 20 (by decide)
  obtain ⟨m3, k3⟩ := min_in cln.size 300 (by decide)
  go_cut [15] (fun _ wc => Blk wc w.heap.size 33 [.bool a, .string (t.extract 0 (min (t.size : Int) 20).toNat), .string (bu.extract 0 (min (bu.size : Int) 4100).toNat), .bool i, .string x.s.m, .string x.s.t, .int .i64 x.s.c, .string x.s.r, .int .i64 x.s.n, .slice va x.L.length vc, .string (Ck.bs x.b), .int .i64 k, .int .i64 z, .int .i64 cst, .string (cln.extract 0 (min (cln.size : Int) 300).toNat), .int .i64 clf, .int .i64 csz, .int .i64 e] ∧ Row wc (.slice va x.L.length vc) x.L ∧ Below w.heap.size w wc)
  case first =>
    have c2 := hX.cell 2 _ rfl
    have c1 := hX.cell 1 _ rfl
    have c14 := hX.cell 14 _ rfl
    have f1 := hX.fz 1
    have f2 := hX.fz 2
    have f14 := hX.fz 14
    refine region_upTo 24 26 29 (fun w' => w'.cell? ⟨w.heap.size, 2, none⟩ = some (.string bu)) (fun w' => w'.cell? ⟨w.heap.size, 1, none⟩ = some (.string t)) (fun w' => w'.cell? ⟨w.heap.size, 14, none⟩ = some (.string cln)) (by kernel_rfl) ⟨c2, c1, c14⟩ (fun hHeld => ?_)
    refine upTo_take 24 (S := (fun w' => w'.cell? ⟨w.heap.size, 2, none⟩ = some (.string bu))) (i := 0) (oi := _) (v := .pointer (some ⟨w.heap.size, 2, none⟩)) rfl (by kernel_rfl) (by kernel_rfl) (by kernel_rfl) (fun _ _ _ h => h) (by decide) (by kernel_rfl) (by kernel_rfl) (fun l w1 hh g => hh.h1 g) hHeld (Or.inl ⟨by rfl, fun wS hSw => by have hL : wS.cell? ⟨w.heap.size, 2, none⟩ = some (.string bu) := hSw; go_simp⟩) (fun hHeld => ?_)
    simp only [Act.put, List.getElem_toArray, List.getElem_cons_zero, List.getElem_cons_succ, List.setIfInBounds_toArray, List.set_cons_zero, List.set_cons_succ]
    refine upTo_take 24 (S := (fun w' => w'.cell? ⟨w.heap.size, 2, none⟩ = some (.string bu))) (i := 1) (oi := _) (v := .string bu) rfl (by kernel_rfl) (by kernel_rfl) (by kernel_rfl) (fun _ _ _ h => h) (by decide) (by kernel_rfl) (by kernel_rfl) (fun l w1 hh g => hh.h1 g) hHeld (Or.inl ⟨by rfl, fun wS hSw => by have hL : wS.cell? ⟨w.heap.size, 2, none⟩ = some (.string bu) := hSw; go_simp⟩) (fun hHeld => ?_)
    simp only [Act.put, List.getElem_toArray, List.getElem_cons_zero, List.getElem_cons_succ, List.setIfInBounds_toArray, List.set_cons_zero, List.set_cons_succ]
    refine upTo_take 24 (S := (fun w' => w'.cell? ⟨w.heap.size, 2, none⟩ = some (.string bu))) (i := 2) (oi := _) (v := .pointer (some ⟨w.heap.size, 2, none⟩)) rfl (by kernel_rfl) (by kernel_rfl) (by kernel_rfl) (fun _ _ _ h => h) (by decide) (by kernel_rfl) (by kernel_rfl) (fun l w1 hh g => hh.h1 g) hHeld (Or.inl ⟨by rfl, fun wS hSw => by have hL : wS.cell? ⟨w.heap.size, 2, none⟩ = some (.string bu) := hSw; go_simp⟩) (fun hHeld => ?_)
    simp only [Act.put, List.getElem_toArray, List.getElem_cons_zero, List.getElem_cons_succ, List.setIfInBounds_toArray, List.set_cons_zero, List.set_cons_succ]
    refine upTo_take 24 (S := (fun w' => w'.cell? ⟨w.heap.size, 2, none⟩ = some (.string bu))) (i := 3) (oi := _) (v := .string bu) rfl (by kernel_rfl) (by kernel_rfl) (by kernel_rfl) (fun _ _ _ h => h) (by decide) (by kernel_rfl) (by kernel_rfl) (fun l w1 hh g => hh.h1 g) hHeld (Or.inl ⟨by rfl, fun wS hSw => by have hL : wS.cell? ⟨w.heap.size, 2, none⟩ = some (.string bu) := hSw; go_simp⟩) (fun hHeld => ?_)
    simp only [Act.put, List.getElem_toArray, List.getElem_cons_zero, List.getElem_cons_succ, List.setIfInBounds_toArray, List.set_cons_zero, List.set_cons_succ]
    refine upTo_take 24 (S := (fun w' => w'.cell? ⟨w.heap.size, 2, none⟩ = some (.string bu))) (i := 4) (oi := _) (v := .int .i64 (bu.size : Int)) rfl (by kernel_rfl) (by kernel_rfl) (by kernel_rfl) (fun _ _ _ h => h) (by decide) (by kernel_rfl) (by kernel_rfl) (fun l w1 hh g => hh.h1 g) hHeld (Or.inl ⟨by rfl, fun wS hSw => by have hL : wS.cell? ⟨w.heap.size, 2, none⟩ = some (.string bu) := hSw; go_simp⟩) (fun hHeld => ?_)
    simp only [Act.put, List.getElem_toArray, List.getElem_cons_zero, List.getElem_cons_succ, List.setIfInBounds_toArray, List.set_cons_zero, List.set_cons_succ]
    refine upTo_take 24 (S := (fun w' => w'.cell? ⟨w.heap.size, 2, none⟩ = some (.string bu))) (i := 5) (oi := _) (v := .int .i64 (min (bu.size : Int) 4100)) rfl (by kernel_rfl) (by kernel_rfl) (by kernel_rfl) (fun _ _ _ h => h) (by decide) (by kernel_rfl) (by kernel_rfl) (fun l w1 hh g => hh.h1 g) hHeld (Or.inl ⟨by rfl, fun wS hSw => by have hL : wS.cell? ⟨w.heap.size, 2, none⟩ = some (.string bu) := hSw; go_simp⟩) (fun hHeld => ?_)
    simp only [Act.put, List.getElem_toArray, List.getElem_cons_zero, List.getElem_cons_succ, List.setIfInBounds_toArray, List.set_cons_zero, List.set_cons_succ]
    refine upTo_take 24 (S := (fun w' => w'.cell? ⟨w.heap.size, 2, none⟩ = some (.string bu))) (i := 6) (oi := _) (v := .string (bu.extract 0 (min (bu.size : Int) 4100).toNat)) rfl (by kernel_rfl) (by kernel_rfl) (by kernel_rfl) (fun _ _ _ h => h) (by decide) (by kernel_rfl) (by kernel_rfl) (fun l w1 hh g => hh.h1 g) hHeld (Or.inl ⟨by rfl, fun wS hSw => by have hL : wS.cell? ⟨w.heap.size, 2, none⟩ = some (.string bu) := hSw; go_simp⟩) (fun hHeld => ?_)
    simp only [Act.put, List.getElem_toArray, List.getElem_cons_zero, List.getElem_cons_succ, List.setIfInBounds_toArray, List.set_cons_zero, List.set_cons_succ]
    refine upTo_take 26 (S := (fun w' => w'.cell? ⟨w.heap.size, 1, none⟩ = some (.string t))) (i := 7) (oi := _) (v := .pointer (some ⟨w.heap.size, 1, none⟩)) rfl (by kernel_rfl) (by kernel_rfl) (by kernel_rfl) (fun _ _ _ h => h) (by decide) (by kernel_rfl) (by kernel_rfl) (fun l w1 hh g => hh.h2 g) hHeld (Or.inl ⟨by rfl, fun wS hSw => by have hL : wS.cell? ⟨w.heap.size, 1, none⟩ = some (.string t) := hSw; go_simp⟩) (fun hHeld => ?_)
    simp only [Act.put, List.getElem_toArray, List.getElem_cons_zero, List.getElem_cons_succ, List.setIfInBounds_toArray, List.set_cons_zero, List.set_cons_succ]
    refine upTo_take 26 (S := (fun w' => w'.cell? ⟨w.heap.size, 1, none⟩ = some (.string t))) (i := 8) (oi := _) (v := .string t) rfl (by kernel_rfl) (by kernel_rfl) (by kernel_rfl) (fun _ _ _ h => h) (by decide) (by kernel_rfl) (by kernel_rfl) (fun l w1 hh g => hh.h2 g) hHeld (Or.inl ⟨by rfl, fun wS hSw => by have hL : wS.cell? ⟨w.heap.size, 1, none⟩ = some (.string t) := hSw; go_simp⟩) (fun hHeld => ?_)
    simp only [Act.put, List.getElem_toArray, List.getElem_cons_zero, List.getElem_cons_succ, List.setIfInBounds_toArray, List.set_cons_zero, List.set_cons_succ]
    refine upTo_take 26 (S := (fun w' => w'.cell? ⟨w.heap.size, 1, none⟩ = some (.string t))) (i := 9) (oi := _) (v := .pointer (some ⟨w.heap.size, 1, none⟩)) rfl (by kernel_rfl) (by kernel_rfl) (by kernel_rfl) (fun _ _ _ h => h) (by decide) (by kernel_rfl) (by kernel_rfl) (fun l w1 hh g => hh.h2 g) hHeld (Or.inl ⟨by rfl, fun wS hSw => by have hL : wS.cell? ⟨w.heap.size, 1, none⟩ = some (.string t) := hSw; go_simp⟩) (fun hHeld => ?_)
    simp only [Act.put, List.getElem_toArray, List.getElem_cons_zero, List.getElem_cons_succ, List.setIfInBounds_toArray, List.set_cons_zero, List.set_cons_succ]
    refine upTo_take 26 (S := (fun w' => w'.cell? ⟨w.heap.size, 1, none⟩ = some (.string t))) (i := 10) (oi := _) (v := .string t) rfl (by kernel_rfl) (by kernel_rfl) (by kernel_rfl) (fun _ _ _ h => h) (by decide) (by kernel_rfl) (by kernel_rfl) (fun l w1 hh g => hh.h2 g) hHeld (Or.inl ⟨by rfl, fun wS hSw => by have hL : wS.cell? ⟨w.heap.size, 1, none⟩ = some (.string t) := hSw; go_simp⟩) (fun hHeld => ?_)
    simp only [Act.put, List.getElem_toArray, List.getElem_cons_zero, List.getElem_cons_succ, List.setIfInBounds_toArray, List.set_cons_zero, List.set_cons_succ]
    refine upTo_take 26 (S := (fun w' => w'.cell? ⟨w.heap.size, 1, none⟩ = some (.string t))) (i := 11) (oi := _) (v := .int .i64 (t.size : Int)) rfl (by kernel_rfl) (by kernel_rfl) (by kernel_rfl) (fun _ _ _ h => h) (by decide) (by kernel_rfl) (by kernel_rfl) (fun l w1 hh g => hh.h2 g) hHeld (Or.inl ⟨by rfl, fun wS hSw => by have hL : wS.cell? ⟨w.heap.size, 1, none⟩ = some (.string t) := hSw; go_simp⟩) (fun hHeld => ?_)
    simp only [Act.put, List.getElem_toArray, List.getElem_cons_zero, List.getElem_cons_succ, List.setIfInBounds_toArray, List.set_cons_zero, List.set_cons_succ]
    refine upTo_take 26 (S := (fun w' => w'.cell? ⟨w.heap.size, 1, none⟩ = some (.string t))) (i := 12) (oi := _) (v := .int .i64 (min (t.size : Int) 20)) rfl (by kernel_rfl) (by kernel_rfl) (by kernel_rfl) (fun _ _ _ h => h) (by decide) (by kernel_rfl) (by kernel_rfl) (fun l w1 hh g => hh.h2 g) hHeld (Or.inl ⟨by rfl, fun wS hSw => by have hL : wS.cell? ⟨w.heap.size, 1, none⟩ = some (.string t) := hSw; go_simp⟩) (fun hHeld => ?_)
    simp only [Act.put, List.getElem_toArray, List.getElem_cons_zero, List.getElem_cons_succ, List.setIfInBounds_toArray, List.set_cons_zero, List.set_cons_succ]
    refine upTo_take 26 (S := (fun w' => w'.cell? ⟨w.heap.size, 1, none⟩ = some (.string t))) (i := 13) (oi := _) (v := .string (t.extract 0 (min (t.size : Int) 20).toNat)) rfl (by kernel_rfl) (by kernel_rfl) (by kernel_rfl) (fun _ _ _ h => h) (by decide) (by kernel_rfl) (by kernel_rfl) (fun l w1 hh g => hh.h2 g) hHeld (Or.inl ⟨by rfl, fun wS hSw => by have hL : wS.cell? ⟨w.heap.size, 1, none⟩ = some (.string t) := hSw; go_simp⟩) (fun hHeld => ?_)
    simp only [Act.put, List.getElem_toArray, List.getElem_cons_zero, List.getElem_cons_succ, List.setIfInBounds_toArray, List.set_cons_zero, List.set_cons_succ]
    refine upTo_take 29 (S := (fun w' => w'.cell? ⟨w.heap.size, 14, none⟩ = some (.string cln))) (i := 14) (oi := _) (v := .pointer (some ⟨w.heap.size, 13, none⟩)) rfl (by kernel_rfl) (by kernel_rfl) (by kernel_rfl) (fun _ _ _ h => h) (by decide) (by kernel_rfl) (by kernel_rfl) (fun l w1 hh g => hh.h3 g) hHeld (Or.inl ⟨by rfl, fun wS hSw => by have hL : wS.cell? ⟨w.heap.size, 14, none⟩ = some (.string cln) := hSw; go_simp⟩) (fun hHeld => ?_)
    simp only [Act.put, List.getElem_toArray, List.getElem_cons_zero, List.getElem_cons_succ, List.setIfInBounds_toArray, List.set_cons_zero, List.set_cons_succ]
    refine upTo_take 29 (S := (fun w' => w'.cell? ⟨w.heap.size, 14, none⟩ = some (.string cln))) (i := 15) (oi := _) (v := .pointer (some ⟨w.heap.size, 14, none⟩)) rfl (by kernel_rfl) (by kernel_rfl) (by kernel_rfl) (fun _ _ _ h => h) (by decide) (by kernel_rfl) (by kernel_rfl) (fun l w1 hh g => hh.h3 g) hHeld (Or.inl ⟨by rfl, fun wS hSw => by have hL : wS.cell? ⟨w.heap.size, 14, none⟩ = some (.string cln) := hSw; go_simp⟩) (fun hHeld => ?_)
    simp only [Act.put, List.getElem_toArray, List.getElem_cons_zero, List.getElem_cons_succ, List.setIfInBounds_toArray, List.set_cons_zero, List.set_cons_succ]
    refine upTo_take 29 (S := (fun w' => w'.cell? ⟨w.heap.size, 14, none⟩ = some (.string cln))) (i := 16) (oi := _) (v := .string cln) rfl (by kernel_rfl) (by kernel_rfl) (by kernel_rfl) (fun _ _ _ h => h) (by decide) (by kernel_rfl) (by kernel_rfl) (fun l w1 hh g => hh.h3 g) hHeld (Or.inl ⟨by rfl, fun wS hSw => by have hL : wS.cell? ⟨w.heap.size, 14, none⟩ = some (.string cln) := hSw; go_simp⟩) (fun hHeld => ?_)
    simp only [Act.put, List.getElem_toArray, List.getElem_cons_zero, List.getElem_cons_succ, List.setIfInBounds_toArray, List.set_cons_zero, List.set_cons_succ]
    refine upTo_take 29 (S := (fun w' => w'.cell? ⟨w.heap.size, 14, none⟩ = some (.string cln))) (i := 17) (oi := _) (v := .pointer (some ⟨w.heap.size, 13, none⟩)) rfl (by kernel_rfl) (by kernel_rfl) (by kernel_rfl) (fun _ _ _ h => h) (by decide) (by kernel_rfl) (by kernel_rfl) (fun l w1 hh g => hh.h3 g) hHeld (Or.inl ⟨by rfl, fun wS hSw => by have hL : wS.cell? ⟨w.heap.size, 14, none⟩ = some (.string cln) := hSw; go_simp⟩) (fun hHeld => ?_)
    simp only [Act.put, List.getElem_toArray, List.getElem_cons_zero, List.getElem_cons_succ, List.setIfInBounds_toArray, List.set_cons_zero, List.set_cons_succ]
    refine upTo_take 29 (S := (fun w' => w'.cell? ⟨w.heap.size, 14, none⟩ = some (.string cln))) (i := 18) (oi := _) (v := .pointer (some ⟨w.heap.size, 14, none⟩)) rfl (by kernel_rfl) (by kernel_rfl) (by kernel_rfl) (fun _ _ _ h => h) (by decide) (by kernel_rfl) (by kernel_rfl) (fun l w1 hh g => hh.h3 g) hHeld (Or.inl ⟨by rfl, fun wS hSw => by have hL : wS.cell? ⟨w.heap.size, 14, none⟩ = some (.string cln) := hSw; go_simp⟩) (fun hHeld => ?_)
    simp only [Act.put, List.getElem_toArray, List.getElem_cons_zero, List.getElem_cons_succ, List.setIfInBounds_toArray, List.set_cons_zero, List.set_cons_succ]
    refine upTo_take 29 (S := (fun w' => w'.cell? ⟨w.heap.size, 14, none⟩ = some (.string cln))) (i := 19) (oi := _) (v := .string cln) rfl (by kernel_rfl) (by kernel_rfl) (by kernel_rfl) (fun _ _ _ h => h) (by decide) (by kernel_rfl) (by kernel_rfl) (fun l w1 hh g => hh.h3 g) hHeld (Or.inl ⟨by rfl, fun wS hSw => by have hL : wS.cell? ⟨w.heap.size, 14, none⟩ = some (.string cln) := hSw; go_simp⟩) (fun hHeld => ?_)
    simp only [Act.put, List.getElem_toArray, List.getElem_cons_zero, List.getElem_cons_succ, List.setIfInBounds_toArray, List.set_cons_zero, List.set_cons_succ]
    refine upTo_take 29 (S := (fun w' => w'.cell? ⟨w.heap.size, 14, none⟩ = some (.string cln))) (i := 20) (oi := _) (v := .int .i64 (cln.size : Int)) rfl (by kernel_rfl) (by kernel_rfl) (by kernel_rfl) (fun _ _ _ h => h) (by decide) (by kernel_rfl) (by kernel_rfl) (fun l w1 hh g => hh.h3 g) hHeld (Or.inl ⟨by rfl, fun wS hSw => by have hL : wS.cell? ⟨w.heap.size, 14, none⟩ = some (.string cln) := hSw; go_simp⟩) (fun hHeld => ?_)
    simp only [Act.put, List.getElem_toArray, List.getElem_cons_zero, List.getElem_cons_succ, List.setIfInBounds_toArray, List.set_cons_zero, List.set_cons_succ]
    refine upTo_take 29 (S := (fun w' => w'.cell? ⟨w.heap.size, 14, none⟩ = some (.string cln))) (i := 21) (oi := _) (v := .int .i64 (min (cln.size : Int) 300)) rfl (by kernel_rfl) (by kernel_rfl) (by kernel_rfl) (fun _ _ _ h => h) (by decide) (by kernel_rfl) (by kernel_rfl) (fun l w1 hh g => hh.h3 g) hHeld (Or.inl ⟨by rfl, fun wS hSw => by have hL : wS.cell? ⟨w.heap.size, 14, none⟩ = some (.string cln) := hSw; go_simp⟩) (fun hHeld => ?_)
    simp only [Act.put, List.getElem_toArray, List.getElem_cons_zero, List.getElem_cons_succ, List.setIfInBounds_toArray, List.set_cons_zero, List.set_cons_succ]
    refine upTo_take 29 (S := (fun w' => w'.cell? ⟨w.heap.size, 14, none⟩ = some (.string cln))) (i := 22) (oi := _) (v := .string (cln.extract 0 (min (cln.size : Int) 300).toNat)) rfl (by kernel_rfl) (by kernel_rfl) (by kernel_rfl) (fun _ _ _ h => h) (by decide) (by kernel_rfl) (by kernel_rfl) (fun l w1 hh g => hh.h3 g) hHeld (Or.inl ⟨by rfl, fun wS hSw => by have hL : wS.cell? ⟨w.heap.size, 14, none⟩ = some (.string cln) := hSw; go_simp⟩) (fun hHeld => ?_)
    simp only [Act.put, List.getElem_toArray, List.getElem_cons_zero, List.getElem_cons_succ, List.setIfInBounds_toArray, List.set_cons_zero, List.set_cons_succ]
    refine upTo_take 24 (S := (fun w' => w'.cell? ⟨w.heap.size, 2, none⟩ = some (.string bu))) (i := 23) (oi := _) (v := .pointer (some ⟨w.heap.size, 2, none⟩)) rfl (by kernel_rfl) (by kernel_rfl) (by kernel_rfl) (fun _ _ _ h => h) (by decide) (by kernel_rfl) (by kernel_rfl) (fun l w1 hh g => hh.h1 g) hHeld (Or.inl ⟨by rfl, fun wS hSw => by have hL : wS.cell? ⟨w.heap.size, 2, none⟩ = some (.string bu) := hSw; go_simp⟩) (fun hHeld => ?_)
    simp only [Act.put, List.getElem_toArray, List.getElem_cons_zero, List.getElem_cons_succ, List.setIfInBounds_toArray, List.set_cons_zero, List.set_cons_succ]
    refine upTo_run (i := 24) (o := _) (by kernel_rfl) rfl (fun K hK => ?_)
    go_simp
    refine hK.out _ _ (⟨fun g => Bool.noConfusion (show true = false from g), fun _ => by show World.cell? _ ⟨w.heap.size, 1, none⟩ = _; go_simp, fun _ => by show World.cell? _ ⟨w.heap.size, 14, none⟩ = _; go_simp⟩) (fun hHeld => ?_)
    clear hK K
    refine upTo_take 26 (S := (fun w' => w'.cell? ⟨w.heap.size, 1, none⟩ = some (.string t))) (i := 25) (oi := _) (v := .pointer (some ⟨w.heap.size, 1, none⟩)) rfl (by kernel_rfl) (by kernel_rfl) (by kernel_rfl) (fun _ _ _ h => h) (by decide) (by kernel_rfl) (by kernel_rfl) (fun l w1 hh g => hh.h2 g) hHeld (Or.inl ⟨by rfl, fun wS hSw => by have hL : wS.cell? ⟨w.heap.size, 1, none⟩ = some (.string t) := hSw; go_simp⟩) (fun hHeld => ?_)
    simp only [Act.put, List.getElem_toArray, List.getElem_cons_zero, List.getElem_cons_succ, List.setIfInBounds_toArray, List.set_cons_zero, List.set_cons_succ]
    refine upTo_run (i := 26) (o := _) (by kernel_rfl) rfl (fun K hK => ?_)
    go_simp
    refine hK.out _ _ (⟨fun g => Bool.noConfusion (show true = false from g), fun g => Bool.noConfusion (show true = false from g), fun _ => by show World.cell? _ ⟨w.heap.size, 14, none⟩ = _; go_simp⟩) (fun hHeld => ?_)
    clear hK K
    refine upTo_run (i := 27) (o := _) (by kernel_rfl) rfl (fun K hK => ?_)
    go_simp
    refine hK.out _ _ (⟨fun g => Bool.noConfusion (show true = false from g), fun g => Bool.noConfusion (show true = false from g), fun _ => by show World.cell? _ ⟨w.heap.size, 14, none⟩ = _; go_simp⟩) (fun hHeld => ?_)
    clear hK K
    refine upTo_take 29 (S := (fun w' => w'.cell? ⟨w.heap.size, 14, none⟩ = some (.string cln))) (i := 28) (oi := _) (v := .pointer (some ⟨w.heap.size, 14, none⟩)) rfl (by kernel_rfl) (by kernel_rfl) (by kernel_rfl) (fun _ _ _ h => h) (by decide) (by kernel_rfl) (by kernel_rfl) (fun l w1 hh g => hh.h3 g) hHeld (Or.inl ⟨by rfl, fun wS hSw => by have hL : wS.cell? ⟨w.heap.size, 14, none⟩ = some (.string cln) := hSw; go_simp⟩) (fun hHeld => ?_)
    simp only [Act.put, List.getElem_toArray, List.getElem_cons_zero, List.getElem_cons_succ, List.setIfInBounds_toArray, List.set_cons_zero, List.set_cons_succ]
    refine upTo_run (i := 29) (o := _) (by kernel_rfl) rfl (fun K hK => ?_)
    go_simp
    refine hK.out _ _ (⟨fun g => Bool.noConfusion (show true = false from g), fun g => Bool.noConfusion (show true = false from g), fun g => Bool.noConfusion (show true = false from g)⟩) (fun hHeld => ?_)
    clear hK K
    refine upTo_done (by kernel_rfl) ?_ _
    go_wp2_with fail
    go_meet
    exact ⟨(((hX.set 2 (by simp) (.string (bu.extract 0 (min (bu.size : Int) 4100).toNat))).set 1 (by simp) (.string (t.extract 0 (min (t.size : Int) 20).toNat))).set 14 (by simp) (.string (cln.extract 0 (min (cln.size : Int) 300).toNat))).drew,
      ((((HR.out).far HS.out.2.2.2.2 2 (.string (bu.extract 0 (min (bu.size : Int) 4100).toNat))).far HS.out.2.2.2.2 1 (.string (t.extract 0 (min (t.size : Int) 20).toNat))).far HS.out.2.2.2.2 14 (.string (cln.extract 0 (min (cln.size : Int) 300).toNat))),
      (((hB.setCell (Nat.le_refl _) (.string (bu.extract 0 (min (bu.size : Int) 4100).toNat))).setCell (Nat.le_refl _) (.string (t.extract 0 (min (t.size : Int) 20).toNat))).setCell (Nat.le_refl _) (.string (cln.extract 0 (min (cln.size : Int) 300).toNat))).drew⟩
  case rest =>
  clear hX hB HR m1 m2 m3 k1 k2 k3
  obtain ⟨hX, hRW, hB⟩ := hcut
  have y1 := cut_le bu 4100
  have y2 := cut_le t 20
  have y3 := cut_le cln 300
  generalize (bu.extract 0 (min (bu.size : Int) 4100).toNat) = BU at hX y1
  generalize (t.extract 0 (min (t.size : Int) 20).toNat) = T at hX y2
  generalize (cln.extract 0 (min (cln.size : Int) 300).toNat) = LN at hX y3
  obtain ⟨q, hq, hq2, hq3⟩ : ∃ q : Nat, min (s.size : Int) 1000 = (q : Int) ∧ q ≤ 1000 ∧ q ≤ s.size := ⟨(min (s.size : Int) 1000).toNat, by omega, by omega, by omega⟩
  have hqs : (s.extract 0 q).size ≤ 1000 := by rw [ByteArray.size_extract]; omega
  have hqi : (q : Int) ≤ (s.size : Int) := by omega
  obtain ⟨r, hrr⟩ : ∃ r : Rr, r = ⟨a, T, BU.data.toList, i, x, k, z, ⟨cst, LN, clf, csz⟩, e⟩ := ⟨_, rfl⟩
  have hXr : Blk wc w.heap.size 33 (r.cs (.slice va r.m.L.length vc)) := by
    rw [hrr]
    unfold Rr.cs
    simp only
    rw [bs_back]; exact hX
  have G : Gut r := by
    rw [hrr]
    exact ⟨HS.out.1, HS.out.2.2.1, HS.out.2.1, HS.out.2.2.2.1, y3, by show BU.data.toList.length ≤ 4100; rw [size_list']; exact y1⟩
  have hRr : Row wc (.slice va r.m.L.length vc) r.m.L := by rw [hrr]; exact hRW
  clear hX hRW hrr HS y1 y2 y3
  have hX := hXr
  have HR := hide hRr
  clear hXr hRr
  go_upto_region 4 with fail
  generalize s.extract 0 q = SS at hqs ⊢
  clear hq hq2 hq3 hqi
  cases hR : rgB r
  · have hfd := fun W hW => feed_bad r (.slice va r.m.L.length vc) SS W hW G.s (Nat.le_trans G.l (by decide)) G.f (Nat.le_trans G.b (by decide)) (Nat.le_trans G.c (by decide)) (Nat.le_trans G.u (by decide)) hR
    have hcl := fun W hW => close_any r (.slice va r.m.L.length vc) W hW G.s (Nat.le_trans G.l (by decide)) G.f (Nat.le_trans G.b (by decide)) (Nat.le_trans G.c (by decide)) (Nat.le_trans G.u (by decide))
    have hrg := fun W hW => wright_any r (.slice va r.m.L.length vc) W hW G.s (Nat.le_trans G.l (by decide)) G.f (Nat.le_trans G.b (by decide)) (Nat.le_trans G.c (by decide)) (Nat.le_trans G.u (by decide))
    rw [show clE r = 1 by unfold clE; rw [if_pos hR], show clO r = [] by unfold clO; rw [if_neg (by rintro ⟨g, -⟩; rw [hR] at g; exact absurd g (by decide))]] at hcl
    rw [hR] at hrg
    have HF := hide hfd
    have HC := hide hcl
    have HG := hide hrg
    clear hfd hcl hrg hR G
    go_wp2_with (refine wpList_load_mid rfl 33 (.tmp 2) rfl w.heap.size 0 rfl (r.cs (.slice va r.m.L.length vc)) _ (hX.range 0 18) Tryz.underlying33 rfl (by kernel_rfl) ?_)
    refine (HF.out _ HR.out).mono ?_
    rintro en w5 ⟨rfl, hb5⟩
    replace hX := hX.below hb5
    have HR5 := hide (HR.out.below hb5)
    replace hB := hB.trans (hb5.mono hB.size)
    clear hb5 HR
    go_upto_region 5 with (refine boxed rfl rfl _ rfl rfl _ rfl rfl [.bool false, .string ⟨#[]⟩, .string ⟨#[]⟩, .bool false, .string ⟨#[]⟩, .string ⟨#[]⟩, .int .i64 0, .string ⟨#[]⟩, .int .i64 0, .slice none 0 0, .string ⟨#[]⟩, .int .i64 0, .int .i64 0, .int .i64 0, .string ⟨#[]⟩, .int .i64 0, .int .i64 0, .int .i64 0] rfl (by kernel_rfl) rfl rfl ?_; intro W6 hY hBW)
    replace hX := hX.below hBW
    have HR6 := hide (HR5.out.below hBW)
    replace hB := hB.trans (hBW.mono hB.size)
    clear hBW HR5
    generalize w5.heap.size = N2 at hY ⊢
    go_wp2_with (refine wpList_load_mid rfl 33 (.tmp 2) rfl w.heap.size 0 rfl (r.cs (.slice va r.m.L.length vc)) _ (hX.range 0 18) Tryz.underlying33 rfl (by kernel_rfl) ?_)
    refine (HC.out _ HR6.out).mono ?_
    rintro en w7 ⟨⟨u7, l7, rfl, hM7, hl7⟩, hb7⟩
    obtain rfl : l7 = [] := by simpa using hl7
    obtain ⟨a7, c7, rfl, -, -⟩ := hM7.mrow
    replace hX := hX.below hb7
    replace hY := hY.below hb7
    have HR7 := hide (HR6.out.below hb7)
    replace hB := hB.trans (hb7.mono hB.size)
    clear hb7 hM7 hl7 HR6 HC HF
    go_wp2_with (refine wpList_load_mid rfl 33 (.tmp 2) rfl w.heap.size 0 rfl (r.cs (.slice va r.m.L.length vc)) _ (hX.range 0 18) Tryz.underlying33 rfl (by kernel_rfl) ?_)
    refine (HG.out _ HR7.out).mono ?_
    rintro en w8 ⟨rfl, hb8⟩
    replace hY := hY.below hb8
    replace hB := hB.trans (hb8.mono hB.size)
    clear hb8 HR7 HG hX
    go_wp2_with fail
    refine (alive_any _).mono ?_
    rintro en w9 ⟨rfl, hb9⟩
    replace hY := hY.below hb9
    replace hB := hB.trans (hb9.mono hB.size)
    clear hb9
    go_wp2_with (first | (refine wpList_load_want (by kernel_rfl) 33 (.tmp 5) rfl N2 0 rfl [.bool false, .string ⟨#[]⟩, .string ⟨#[]⟩, .bool false, .string ⟨#[]⟩, .string ⟨#[]⟩, .int .i64 0, .string ⟨#[]⟩, .int .i64 0, .slice none 0 0, .string ⟨#[]⟩, .int .i64 0, .int .i64 0, .int .i64 0, .string ⟨#[]⟩, .int .i64 0, .int .i64 0, .int .i64 0] _ (hY.range 0 18) Tryz.underlying33 rfl (by kernel_rfl) ?_) | (refine wpList_build_want (by kernel_rfl) 33 _ rfl #[.bool false, .string ⟨#[]⟩, .string ⟨#[]⟩, .bool false, .string ⟨#[]⟩, .string ⟨#[]⟩, .int .i64 0, .string ⟨#[]⟩, .int .i64 0, .slice none 0 0, .string ⟨#[]⟩, .int .i64 0, .int .i64 0, .int .i64 0, .string ⟨#[]⟩, .int .i64 0, .int .i64 0, .int .i64 0] (by kernel_rfl) ?_))
    refine (likeR_any (fresh false ⟨#[]⟩ []) (.slice none 0 0) (.slice none 0 0) _ (Row.nil _) (Row.nil _) (show 0 ≤ 1000000 by decide)).mono ?_
    rintro en w10 ⟨rfl, hb10⟩
    go_wp2_with fail
    go_ret
    exact ⟨rfl, hB.trans (hb10.mono hB.size)⟩
  by_cases he : r.e ≠ 0
  · have hfd := fun W hW => feed_good r (.slice va r.m.L.length vc) SS.data.toList W hW G.s (Nat.le_trans G.l (by decide)) G.f (Nat.le_trans G.b (by decide)) (Nat.le_trans G.c (by decide)) (by have h1 := G.u; have h2 := size_list' SS; rw [h2]; omega) hR
    rw [bs_back] at hfd
    have hcl := fun W hW => close_any r (.slice va r.m.L.length vc) W hW G.s (Nat.le_trans G.l (by decide)) G.f (Nat.le_trans G.b (by decide)) (Nat.le_trans G.c (by decide)) (Nat.le_trans G.u (by decide))
    have hrg := fun W hW => wright_any r (.slice va r.m.L.length vc) W hW G.s (Nat.le_trans G.l (by decide)) G.f (Nat.le_trans G.b (by decide)) (Nat.le_trans G.c (by decide)) (Nat.le_trans G.u (by decide))
    rw [hR] at hrg
    rw [show fdG r SS.data.toList = (r, []) by unfold fdG; rw [if_pos he]] at hfd
    rw [show clE r = r.e by unfold clE; rw [if_neg (by rw [hR]; decide), if_pos he], show clO r = [] by unfold clO; rw [if_neg (by rintro ⟨-, g, -⟩; exact he g)]] at hcl
    have hen : (r.e != 0) = true := by simpa using he
    have HF := hide hfd
    have HC := hide hcl
    have HG := hide hrg
    have HL := hide G.l
    clear hfd hcl hrg hR G
    go_wp2_with (refine wpList_load_mid rfl 33 (.tmp 2) rfl w.heap.size 0 rfl (r.cs (.slice va r.m.L.length vc)) _ (hX.range 0 18) Tryz.underlying33 rfl (by kernel_rfl) ?_)
    refine (HF.out _ HR.out).mono ?_
    rintro en w5 ⟨⟨vb, vd, u5, l5, rfl, hFR5, hM5, hl5⟩, hb5⟩
    obtain ⟨a5, c5, rfl, -, -⟩ := hM5.mrow
    replace hX := hX.below hb5
    have HR5 := hide (And.intro (HR.out.below hb5) hFR5.row)
    replace hB := hB.trans (hb5.mono hB.size)
    clear hb5 HR hFR5 hM5
    go_upto_region 5 with (refine boxed rfl rfl _ rfl rfl _ rfl rfl (r.cs (.slice vb r.m.L.length vd)) rfl (by kernel_rfl) rfl rfl ?_; intro W6 hY hBW)
    replace hX := hX.below hBW
    have HR6 := hide (And.intro (HR5.out.1.below hBW) (HR5.out.2.below hBW))
    replace hB := hB.trans (hBW.mono hB.size)
    clear hBW HR5
    generalize w5.heap.size = N2 at hY ⊢
    go_wp2_with (refine wpList_load_mid rfl 33 (.tmp 2) rfl w.heap.size 0 rfl (r.cs (.slice va r.m.L.length vc)) _ (hX.range 0 18) Tryz.underlying33 rfl (by kernel_rfl) ?_)
    refine (HC.out _ HR6.out.1).mono ?_
    rintro en w7 ⟨⟨u7, l7, rfl, hM7, hl7⟩, hb7⟩
    obtain ⟨a7, c7, rfl, -, -⟩ := hM7.mrow
    replace hX := hX.below hb7
    replace hY := hY.below hb7
    have HR7 := hide (And.intro (HR6.out.1.below hb7) (HR6.out.2.below hb7))
    replace hB := hB.trans (hb7.mono hB.size)
    clear hb7 hM7 hl7 HR6 HC HF
    go_wp2_with (refine wpList_load_mid rfl 33 (.tmp 2) rfl w.heap.size 0 rfl (r.cs (.slice va r.m.L.length vc)) _ (hX.range 0 18) Tryz.underlying33 rfl (by kernel_rfl) ?_)
    refine (HG.out _ HR7.out.1).mono ?_
    rintro en w8 ⟨rfl, hb8⟩
    replace hX := hX.below hb8
    replace hY := hY.below hb8
    have HR8 := hide (And.intro (HR7.out.1.below hb8) (HR7.out.2.below hb8))
    replace hB := hB.trans (hb8.mono hB.size)
    clear hb8 HR7 HG
    have c17 := hX.cell 17 _ rfl
    obtain rfl : l5 = [] := by simpa using hl5
    go_wp2_with fail
    refine (alive_any _).mono ?_
    rintro en w9 ⟨rfl, hb9⟩
    replace hX := hX.below hb9
    replace hY := hY.below hb9
    have HR9 := hide (And.intro (HR8.out.1.below hb9) (HR8.out.2.below hb9))
    replace hB := hB.trans (hb9.mono hB.size)
    clear hb9 HR8 c17
    go_wp2_with (first | (refine wpList_load_want (by kernel_rfl) 33 (.tmp 5) rfl N2 0 rfl (r.cs (.slice vb r.m.L.length vd)) _ (hY.range 0 18) Tryz.underlying33 rfl (by kernel_rfl) ?_) | (refine wpList_load_want (by kernel_rfl) 33 (.tmp 2) rfl w.heap.size 0 rfl (r.cs (.slice va r.m.L.length vc)) _ (hX.range 0 18) Tryz.underlying33 rfl (by kernel_rfl) ?_))
    refine (likeR_any r (.slice vb r.m.L.length vd) (.slice va r.m.L.length vc) _ HR9.out.2 HR9.out.1 (Nat.le_trans HL.out (by decide))).mono ?_
    rintro en w10 ⟨rfl, hb10⟩
    replace hX := hX.below hb10
    have c17 := hX.cell 17 _ rfl
    go_wp2_with fail
    go_ret
    exact ⟨rfl, hB.trans (hb10.mono hB.size)⟩
  · replace he : r.e = 0 := by simpa using he
    have hfd := fun W hW => feed_good r (.slice va r.m.L.length vc) SS.data.toList W hW G.s (Nat.le_trans G.l (by decide)) G.f (Nat.le_trans G.b (by decide)) (Nat.le_trans G.c (by decide)) (by have h1 := G.u; have h2 := size_list' SS; rw [h2]; omega) hR
    rw [bs_back] at hfd
    have hcl := fun W hW => close_any r (.slice va r.m.L.length vc) W hW G.s (Nat.le_trans G.l (by decide)) G.f (Nat.le_trans G.b (by decide)) (Nat.le_trans G.c (by decide)) (Nat.le_trans G.u (by decide))
    have hrg := fun W hW => wright_any r (.slice va r.m.L.length vc) W hW G.s (Nat.le_trans G.l (by decide)) G.f (Nat.le_trans G.b (by decide)) (Nat.le_trans G.c (by decide)) (Nat.le_trans G.u (by decide))
    rw [hR] at hrg
    obtain ⟨q, hq⟩ : ∃ q, fdG r SS.data.toList = q := ⟨_, rfl⟩
    have hql := fd_lim hR G.f SS.data.toList
    have hqr := fd_right hR SS.data.toList
    rw [hq] at hfd hql hqr
    have hqg := fun va' vc' W hW => wright_any q.1 (.slice va' q.1.m.L.length vc') W hW hql.s (Nat.le_trans hql.l (by decide)) hql.f (Nat.le_trans hql.b (by decide)) (Nat.le_trans hql.c (by decide)) (Nat.le_trans hql.u (by decide))
    rw [hqr] at hqg
    have hqb : decide (((Ck.bs q.1.buf).size : Int) ≤ 4000) = true := decide_eq_true (by have h1 := hql.u; rw [Ck.bs_size]; omega)
    have hqm : decide (((Ck.bs q.1.m.b).size : Int) ≤ 20000) = true := decide_eq_true (by have h1 := hql.b; rw [Ck.bs_size]; omega)
    have hen : (r.e != 0) = false := by simpa using he
    have hin := fun h => lg_right ((wait_rg hR he).mid.inn h).1
    have hst := fun W => srefright_any r.m.s W G.s
    have hfr := fun W hW => refright_any r.m.L (.slice va r.m.L.length vc) W hW (Nat.le_trans G.l (by decide)) G.f
    unfold St.v at hst
    have HQ := hide hqg
    have HIN := hide hin
    have HST := hide hst
    have HFR := hide hfr
    clear hq hql hqr hqg hin hst hfr he
    have HF := hide hfd
    have HC := hide hcl
    have HG := hide hrg
    have HL := hide G.l
    clear hfd hcl hrg hR G
    go_wp2_with (refine wpList_load_mid rfl 33 (.tmp 2) rfl w.heap.size 0 rfl (r.cs (.slice va r.m.L.length vc)) _ (hX.range 0 18) Tryz.underlying33 rfl (by kernel_rfl) ?_)
    refine (HF.out _ HR.out).mono ?_
    rintro en w5 ⟨⟨vb, vd, u5, l5, rfl, hFR5, hM5, hl5⟩, hb5⟩
    obtain ⟨a5, c5, rfl, -, -⟩ := hM5.mrow
    replace hX := hX.below hb5
    have HR5 := hide (And.intro (HR.out.below hb5) hFR5.row)
    replace hB := hB.trans (hb5.mono hB.size)
    clear hb5 HR hFR5 hM5
    go_upto_region 5 with (refine boxed rfl rfl _ rfl rfl _ rfl rfl (q.1.cs (.slice vb q.1.m.L.length vd)) rfl (by kernel_rfl) rfl rfl ?_; intro W6 hY hBW)
    replace hX := hX.below hBW
    have HR6 := hide (And.intro (HR5.out.1.below hBW) (HR5.out.2.below hBW))
    replace hB := hB.trans (hBW.mono hB.size)
    clear hBW HR5
    generalize w5.heap.size = N2 at hY ⊢
    go_wp2_with (refine wpList_load_mid rfl 33 (.tmp 2) rfl w.heap.size 0 rfl (r.cs (.slice va r.m.L.length vc)) _ (hX.range 0 18) Tryz.underlying33 rfl (by kernel_rfl) ?_)
    refine (HC.out _ HR6.out.1).mono ?_
    rintro en w7 ⟨⟨u7, l7, rfl, hM7, hl7⟩, hb7⟩
    obtain ⟨a7, c7, rfl, -, -⟩ := hM7.mrow
    replace hX := hX.below hb7
    replace hY := hY.below hb7
    have HR7 := hide (And.intro (HR6.out.1.below hb7) (HR6.out.2.below hb7))
    replace hB := hB.trans (hb7.mono hB.size)
    clear hb7 hM7 hl7 HR6 HC HF
    go_wp2_with (refine wpList_load_mid rfl 33 (.tmp 2) rfl w.heap.size 0 rfl (r.cs (.slice va r.m.L.length vc)) _ (hX.range 0 18) Tryz.underlying33 rfl (by kernel_rfl) ?_)
    refine (HG.out _ HR7.out.1).mono ?_
    rintro en w8 ⟨rfl, hb8⟩
    replace hX := hX.below hb8
    replace hY := hY.below hb8
    have HR8 := hide (And.intro (HR7.out.1.below hb8) (HR7.out.2.below hb8))
    replace hB := hB.trans (hb8.mono hB.size)
    clear hb8 HR7 HG
    have c17 := hX.cell 17 _ rfl
    have c3 := hX.cell 3 _ rfl
    go_upto_region 10 with fail
    go_cut [10] (fun s10 wc => s10 = .bool true ∧ Blk wc N2 33 (q.1.cs (.slice vb q.1.m.L.length vd)) ∧ Row wc (.slice vb q.1.m.L.length vd) q.1.m.L ∧ Below w.heap.size w wc)
    case first =>
      cases hi : r.i
      · rw [hi] at c3
        go_wp2_with fail
        go_meet
        exact ⟨rfl, hY, HR8.out.2, hB⟩
      · obtain ⟨g1, g2, -, g4⟩ := HIN.out hi
        rw [hi] at c3
        have hst := HST.out
        have hfr := HFR.out
        rw [g1] at hst
        rw [g2] at hfr
        have HST2 := hide hst
        have HFR2 := hide hfr
        have c4 := hX.cell 4 _ rfl
        have c5' := hX.cell 5 _ rfl
        have c6 := hX.cell 6 _ rfl
        have c7' := hX.cell 7 _ rfl
        have c8 := hX.cell 8 _ rfl
        clear hst hfr HST HFR HIN g1 g2
        go_wp2_with fail
        refine (HST2.out _).mono ?_
        rintro en w9 ⟨rfl, hb9⟩
        replace hX := hX.below hb9
        replace hY := hY.below hb9
        have HR9 := hide (And.intro (HR8.out.1.below hb9) (HR8.out.2.below hb9))
        replace hB := hB.trans (hb9.mono hB.size)
        clear c3 c4 c5' c6 c7' c8 c17 hb9 HR8
        have c9 := hX.cell 9 _ rfl
        go_wp2_with fail
        refine (HFR2.out _ HR9.out.1).mono ?_
        rintro en w10 ⟨rfl, hb10⟩
        replace hX := hX.below hb10
        replace hY := hY.below hb10
        have HRa := hide (HR9.out.2.below hb10)
        replace hB := hB.trans (hb10.mono hB.size)
        have c6 := hX.cell 6 _ rfl
        have c0 := hX.cell 0 _ rfl
        rw [← g4] at c0
        clear c9 hb10 HR9 hX g4
        go_wp2_with fail
        go_meet
        exact ⟨by rw [show (r.m.s.c == 0) = decide (r.m.s.c = 0) from rfl, beq_self_eq_true], hY, HRa.out, hB⟩
    case rest =>
    obtain ⟨rfl, hY, hRR, hB⟩ := hcut
    have HRR := hide hRR
    clear hX c17 c3 HR8 HIN HST HFR hRR
    go_wp2_with fail
    refine (alive_any _).mono ?_
    rintro en w11 ⟨rfl, hb11⟩
    replace hY := hY.below hb11
    have HR11 := hide (HRR.out.below hb11)
    replace hB := hB.trans (hb11.mono hB.size)
    clear hb11 HRR
    go_wp2_with (refine wpList_load_want (by kernel_rfl) 33 (.tmp 5) rfl N2 0 rfl (q.1.cs (.slice vb q.1.m.L.length vd)) _ (hY.range 0 18) Tryz.underlying33 rfl (by kernel_rfl) ?_)
    refine (HQ.out vb vd _ HR11.out).mono ?_
    rintro en w12 ⟨rfl, hb12⟩
    replace hY := hY.below hb12
    replace hB := hB.trans (hb12.mono hB.size)
    have d2 := hY.cell 2 _ rfl
    have d10 := hY.cell 10 _ rfl
    clear hY HR11 HQ hb12
    go_wp2_with fail
    go_ret
    exact ⟨rfl, hB⟩

end Go.Proofs.YtmpijlaidnhpnaaGreat
