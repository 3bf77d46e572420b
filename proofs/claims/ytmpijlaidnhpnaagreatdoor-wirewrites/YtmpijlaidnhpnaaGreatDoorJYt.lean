/- The walk of WireWrites. -/
import Derived.Test.YtmpijlaidnhpnaaGreatDoorJYq
import Derived.Test.YtmpijlaidnhpnaaGreatDoorJYf
namespace Go.Proofs.YtmpijlaidnhpnaaGreatDoor
set_option linter.unusedVariables false
set_option linter.unusedSimpArgs false
set_option maxRecDepth 100000
open Go.RowKit

theorem Few.short {w : World} {m x : Ms} {v : Value} {B : Nat} (h : Few w m x v B) : Short x.s := ⟨Nat.le_trans h.sm (by decide), Nat.le_trans h.st (by decide), Nat.le_trans h.sr (by decide)⟩
theorem Few.sh {w : World} {m x : Ms} {v : Value} {B : Nat} (h : Few w m x v B) : Sh x.L := fun f hf => ⟨Nat.le_trans (h.f f hf).1 (by decide), Nat.le_trans (h.f f hf).2 (by decide)⟩

set_option maxHeartbeats 16000000 in
theorem writes_walk (sm st : ByteArray) (sc : Int) (sr : ByteArray) (sn : Int) (L : List Fd) (bb : ByteArray) (a : Option Addr) (cap : Nat) (c : Bool) (w : World) (hr : Row w (.slice a L.length cap) L) (hcm : cap ≤ maxLen) (hs : ∀ f ∈ L, f.1.size ≤ maxLen ∧ f.2.size ≤ maxLen)
    (z0 : sm.size ≤ maxLen) (z1 : st.size ≤ maxLen) (z2 : sr.size ≤ maxLen) (z3 : bb.size ≤ maxLen) (ht : TT w) :
    Calls Tryz.prog 3 #[.agg #[.string sm, .string st, .int .i64 sc, .string sr, .int .i64 sn, .slice a L.length cap, .string bb], .bool c] w fun en w' => en = .returned (.bool true) ∧ Below w.heap.size w w' := by
  have hX : Blk (w.alloc (.cells #[.string sm, .string st, .int .i64 sc, .string sr, .int .i64 sn, .slice a L.length cap, .string bb] 26)) w.heap.size 26 [.string sm, .string st, .int .i64 sc, .string sr, .int .i64 sn, .slice a L.length cap, .string bb] := Blk.new w 26 _
  have hB : Below w.heap.size w (w.alloc (.cells #[.string sm, .string st, .int .i64 sc, .string sr, .int .i64 sn, .slice a L.length cap, .string bb] 26)) := (Below.refl _ _).alloc (Nat.le_refl _) _
  have hF := few_any sm st sc sr sn L bb a cap _ (hr.below hB) hcm hs z0 z1 z2 z3
  go_enter Tryz.func3, Tryz.ntmps3
  go_upto_region 1 with fail
  generalize World.alloc _ _ = W1 at hX hB hF ⊢
  go_wp2_with (refine wpList_load_mid rfl 26 (.tmp 2) rfl w.heap.size 0 rfl [.string sm, .string st, .int .i64 sc, .string sr, .int .i64 sn, .slice a L.length cap, .string bb] _ (hX.range 0 7) Tryz.underlying26 rfl (by kernel_rfl) ?_)
  refine hF.mono ?_
  rintro en w2 ⟨⟨x, v, rfl, hw⟩, hb2⟩
  have hN := hX.lt
  replace hX := hX.below hb2
  replace hB := hB.trans (hb2.mono hB.size)
  have hsh := hw.short
  have hSh := hw.sh
  have hl := hw.l
  have hbl := hw.b
  obtain ⟨va, vc, rfl⟩ := hw.row.slice
  have hth := hX.there 0 7 (show 0 + 7 ≤ 7 by decide)
  have hO := only_sets [.string x.s.m, .string x.s.t, .int .i64 x.s.c, .string x.s.r, .int .i64 x.s.n, .slice va x.L.length vc, .string (Ck.bs x.b)] 0 (only_refl w2 w.heap.size)
  have hX2 : Blk (w2.setCells w.heap.size 0 [.string x.s.m, .string x.s.t, .int .i64 x.s.c, .string x.s.r, .int .i64 x.s.n, .slice va x.L.length vc, .string (Ck.bs x.b)]) w.heap.size 26 [.string x.s.m, .string x.s.t, .int .i64 x.s.c, .string x.s.r, .int .i64 x.s.n, .slice va x.L.length vc, .string (Ck.bs x.b)] := hX.sets [.string x.s.m, .string x.s.t, .int .i64 x.s.c, .string x.s.r, .int .i64 x.s.n, .slice va x.L.length vc, .string (Ck.bs x.b)] 0 (show 0 + 7 ≤ 7 by decide)
  have hR2 : Row (w2.setCells w.heap.size 0 [.string x.s.m, .string x.s.t, .int .i64 x.s.c, .string x.s.r, .int .i64 x.s.n, .slice va x.L.length vc, .string (Ck.bs x.b)]) (.slice va x.L.length vc) x.L := Row.only hw.row (fun h0 => by obtain ⟨g, n, k, e, hg⟩ := hw.own h0; exact ⟨g, n, k, e, by omega⟩) hO
  have hB2 := hB.trans (below_only hO (Nat.le_refl _) hB.size)
  have hT2 := ht.below hB2
  have HQ := hide (And.intro hX2 (And.intro hB2 (And.intro hR2 hT2)))
  have HS := hide (And.intro hsh (And.intro hSh (And.intro hl hbl)))
  clear hX hB hO hX2 hR2 hB2 hT2 hsh hSh hl hbl hF hb2 hw hr hs ht
  rw [show x.v (.slice va x.L.length vc) = .agg #[.string x.s.m, .string x.s.t, .int .i64 x.s.c, .string x.s.r, .int .i64 x.s.n, .slice va x.L.length vc, .string (Ck.bs x.b)] from rfl]
  go_upto_region 2 with (refine wpList_store_mid rfl 26 (.tmp 2) (.tmp 10) rfl w.heap.size 0 #[.string x.s.m, .string x.s.t, .int .i64 x.s.c, .string x.s.r, .int .i64 x.s.n, .slice va x.L.length vc, .string (Ck.bs x.b)] rfl rfl hth (by kernel_rfl) (by simp [Value.oneCell']) ?_; obtain ⟨hX, hB, hR, hT⟩ := HQ.out; generalize World.setCells _ _ _ _ = W3 at hX hB hR hT ⊢; have HR := hide (And.intro hR hT); clear hR hT HQ hth)
  go_wp2_with (refine wpList_load_mid rfl 26 (.tmp 2) rfl w.heap.size 0 rfl [.string x.s.m, .string x.s.t, .int .i64 x.s.c, .string x.s.r, .int .i64 x.s.n, .slice va x.L.length vc, .string (Ck.bs x.b)] _ (hX.range 0 7) Tryz.underlying26 rfl (by kernel_rfl) ?_)
  refine (wwrite_any x (.slice va x.L.length vc) c _ HR.out.1 HS.out.1 (Nat.le_trans HS.out.2.2.1 (by decide)) HS.out.2.1 (Nat.le_trans HS.out.2.2.2 (by decide)) HR.out.2).mono ?_
  rintro en w4 ⟨rfl, hb4⟩
  have hR4 := hide (And.intro (HR.out.1.below hb4) (HR.out.2.below hb4))
  replace hX := hX.below hb4
  replace hB := hB.trans (hb4.mono hB.size)
  clear HR hb4
  go_wp2_with (refine wpList_load_mid rfl 26 (.tmp 2) rfl w.heap.size 0 rfl [.string x.s.m, .string x.s.t, .int .i64 x.s.c, .string x.s.r, .int .i64 x.s.n, .slice va x.L.length vc, .string (Ck.bs x.b)] _ (hX.range 0 7) Tryz.underlying26 rfl (by kernel_rfl) ?_)
  refine (refwwrite_any x (.slice va x.L.length vc) c _ hR4.out.1 HS.out.1 (Nat.le_trans HS.out.2.2.1 (by decide)) HS.out.2.1 (Nat.le_trans HS.out.2.2.2 (by decide)) hR4.out.2).mono ?_
  rintro en w5 ⟨rfl, hb5⟩
  replace hB := hB.trans (hb5.mono hB.size)
  generalize wmS x c = A
  generalize wmE x c = E
  clear hX hR4 HS hb5
  go_wp2_with fail
  refine (alive_any _).mono ?_
  rintro en w6 ⟨rfl, hb6⟩
  replace hB := hB.trans (hb6.mono hB.size)
  clear hb6
  go_wp2_with fail
  go_ret
  exact ⟨rfl, hB⟩

end Go.Proofs.YtmpijlaidnhpnaaGreatDoor
