/- The walk of WireWrites. WireWrites returns true for every message and every yes or no that can be handed in, and leaves its arguments as they were. The condition that its card bears: the listed tables of the library hold what their initialisers lay. -/
import Derived.Test.YtmpijlaidnhpnaaGreatDoorJYq
import Derived.Test.YtmpijlaidnhpnaaGreatDoorJYf
import Derived.Test.YtmpijlaidnhpnaaGreatDoorRows
import Derived.Test.YtmpijlaidnhpnaaGreatDoorCards
import Derived.Test.YtmpijlaidnhpnaaGreatDoorTie
import Derived.Test.YtmpijlaidnhpnaaGreatDoorJOp
import Derived.ProofKit
import Derived.LaidMore
import Derived.OpenShut
import Derived.ShutString
import Derived.ChangeOld
import Derived.Below
import Derived.Stop.Joined
import Derived.Lib.SmallJoins
import Derived.SevenTiedAt
namespace Go.Proofs.YtmpijlaidnhpnaaGreatDoor
set_option linter.unusedVariables false
set_option linter.unusedSimpArgs false
set_option maxRecDepth 100000
open Go.RowKit

theorem Few.short {w : World} {m x : Ms} {v : Value} {B : Nat} (h : Few w m x v B) : Short x.s := ⟨Nat.le_trans h.sm (by decide), Nat.le_trans h.st (by decide), Nat.le_trans h.sr (by decide)⟩
theorem Few.sh {w : World} {m x : Ms} {v : Value} {B : Nat} (h : Few w m x v B) : Sh x.L := fun f hf => ⟨Nat.le_trans (h.f f hf).1 (by decide), Nat.le_trans (h.f f hf).2 (by decide)⟩

set_option maxHeartbeats 16000000 in
theorem writes_walk (sm st : ByteArray) (sc : Int) (sr : ByteArray) (sn : Int) (L : List Fd) (bb : ByteArray) (a : Option Addr) (cap : Nat) (c : Bool) (w : World) (hr : Row w (.slice a L.length cap) L) (hcm : cap ≤ maxLen) (hs : ∀ f ∈ L, f.1.size ≤ maxLen ∧ f.2.size ≤ maxLen)
    (z0 : sm.size ≤ maxLen) (z1 : st.size ≤ maxLen) (z2 : sr.size ≤ maxLen) (z3 : bb.size ≤ maxLen) (ht : TT w) :
    Calls Tryz.prog 3 #[.agg #[.string sm, .string st, .int .i64 sc, .string sr, .int .i64 sn, .slice a L.length cap, .string bb], .bool c] w fun en w' => en = .returned (.bool true) ∧ Below w.heap.size w w' := by
  have hX : Blk (w.alloc (.cells #[.string sm, .string st, .int .i64 sc, .string sr, .int .i64 sn, .slice a L.length cap, .string bb] 26)) w.heap.size 26 [.string sm, .string st, .int .i64 sc, .string sr, .int .i64 sn, .slice a L.length cap, .string bb] := Blk.new w 26 _
  have hB : Below w.heap.size w (w.alloc (.cells #[.string sm, .string st, .int .i64 sc, .string sr, .int .i64 sn, .slice a L.length cap, .string bb] 26)) := (Below.refl _ _).alloc (Nat.le_refl _) _
  have hF := few_any sm st sc sr sn L bb a cap _ (hr.below hB) hcm hs z0 z1 z2 z3
  go_enter Tryz.func3, Tryz.ntmps3
  go_upto_region 1 with fail
  generalize World.alloc _ _ = W1 at hX hB hF ⊢
  go_wp2_with (refine wpList_load_mid rfl 26 (.tmp 2) rfl w.heap.size 0 rfl [.string sm, .string st, .int .i64 sc, .string sr, .int .i64 sn, .slice a L.length cap, .string bb] _ (hX.range 0 7) Tryz.underlying26 rfl (by kernel_rfl) ?_)
  refine hF.mono ?_
  rintro en w2 ⟨⟨x, v, rfl, hw⟩, hb2⟩
  have hN := hX.lt
  replace hX := hX.below hb2
  replace hB := hB.trans (hb2.mono hB.size)
  have hsh := hw.short
  have hSh := hw.sh
  have hl := hw.l
  have hbl := hw.b
  obtain ⟨va, vc, rfl⟩ := hw.row.slice
  have hth := hX.there 0 7 (show 0 + 7 ≤ 7 by decide)
  have hO := only_sets [.string x.s.m, .string x.s.t, .int .i64 x.s.c, .string x.s.r, .int .i64 x.s.n, .slice va x.L.length vc, .string (Ck.bs x.b)] 0 (only_refl w2 w.heap.size)
  have hX2 : Blk (w2.setCells w.heap.size 0 [.string x.s.m, .string x.s.t, .int .i64 x.s.c, .string x.s.r, .int .i64 x.s.n, .slice va x.L.length vc, .string (Ck.bs x.b)]) w.heap.size 26 [.string x.s.m, .string x.s.t, .int .i64 x.s.c, .string x.s.r, .int .i64 x.s.n, .slice va x.L.length vc, .string (Ck.bs x.b)] := hX.sets [.string x.s.m, .string x.s.t, .int .i64 x.s.c, .string x.s.r, .int .i64 x.s.n, .slice va x.L.length vc, .string (Ck.bs x.b)] 0 (show 0 + 7 ≤ 7 by decide)
  have hR2 : Row (w2.setCells w.heap.size 0 [.string x.s.m, .string x.s.t, .int .i64 x.s.c, .string x.s.r, .int .i64 x.s.n, .slice va x.L.length vc, .string (Ck.bs x.b)]) (.slice va x.L.length vc) x.L := Row.only hw.row (fun h0 => by obtain ⟨g, n, k, e, hg⟩ := hw.own h0; exact ⟨g, n, k, e, by omega⟩) hO
  have hB2 := hB.trans (below_only hO (Nat.le_refl _) hB.size)
  have hT2 := ht.below hB2
  have HQ := hide (And.intro hX2 (And.intro hB2 (And.intro hR2 hT2)))
  have HS := hide (And.intro hsh (And.intro hSh (And.intro hl hbl)))
  clear hX hB hO hX2 hR2 hB2 hT2 hsh hSh hl hbl hF hb2 hw hr hs ht
  rw [show x.v (.slice va x.L.length vc) = .agg #[.string x.s.m, .string x.s.t, .int .i64 x.s.c, .string x.s.r, .int .i64 x.s.n, .slice va x.L.length vc, .string (Ck.bs x.b)] from rfl]
  go_upto_region 2 with (refine wpList_store_mid rfl 26 (.tmp 2) (.tmp 10) rfl w.heap.size 0 #[.string x.s.m, .string x.s.t, .int .i64 x.s.c, .string x.s.r, .int .i64 x.s.n, .slice va x.L.length vc, .string (Ck.bs x.b)] rfl rfl hth (by kernel_rfl) (by simp [Value.oneCell']) ?_; obtain ⟨hX, hB, hR, hT⟩ := HQ.out; generalize World.setCells _ _ _ _ = W3 at hX hB hR hT ⊢; have HR := hide (And.intro hR hT); clear hR hT HQ hth)
  go_wp2_with (refine wpList_load_mid rfl 26 (.tmp 2) rfl w.heap.size 0 rfl [.string x.s.m, .string x.s.t, .int .i64 x.s.c, .string x.s.r, .int .i64 x.s.n, .slice va x.L.length vc, .string (Ck.bs x.b)] _ (hX.range 0 7) Tryz.underlying26 rfl (by kernel_rfl) ?_)
  refine (wwrite_any x (.slice va x.L.length vc) c _ HR.out.1 HS.out.1 (Nat.le_trans HS.out.2.2.1 (by decide)) HS.out.2.1 (Nat.le_trans HS.out.2.2.2 (by decide)) HR.out.2).mono ?_
  rintro en w4 ⟨rfl, hb4⟩
  have hR4 := hide (And.intro (HR.out.1.below hb4) (HR.out.2.below hb4))
  replace hX := hX.below hb4
  replace hB := hB.trans (hb4.mono hB.size)
  clear HR hb4
  go_wp2_with (refine wpList_load_mid rfl 26 (.tmp 2) rfl w.heap.size 0 rfl [.string x.s.m, .string x.s.t, .int .i64 x.s.c, .string x.s.r, .int .i64 x.s.n, .slice va x.L.length vc, .string (Ck.bs x.b)] _ (hX.range 0 7) Tryz.underlying26 rfl (by kernel_rfl) ?_)
  refine (refwwrite_any x (.slice va x.L.length vc) c _ hR4.out.1 HS.out.1 (Nat.le_trans HS.out.2.2.1 (by decide)) HS.out.2.1 (Nat.le_trans HS.out.2.2.2 (by decide)) hR4.out.2).mono ?_
  rintro en w5 ⟨rfl, hb5⟩
  replace hB := hB.trans (hb5.mono hB.size)
  generalize wmS x c = A
  generalize wmE x c = E
  clear hX hR4 HS hb5
  go_wp2_with fail
  refine (alive_any _).mono ?_
  rintro en w6 ⟨rfl, hb6⟩
  replace hB := hB.trans (hb6.mono hB.size)
  clear hb6
  go_wp2_with fail
  go_ret
  exact ⟨rfl, hB⟩

end Go.Proofs.YtmpijlaidnhpnaaGreatDoor

namespace Go.Proofs.YtmpijlaidnhpnaaGreatDoor
set_option linter.unusedVariables false
set_option linter.unusedSimpArgs false
open Go.ChangeShapes Go.WideShapes Go.ChangeAt Go.RowKit Go.Joins
open Go.ChangeMaps (open_string shut_string)

set_option maxRecDepth 100000 in
theorem writes_lifted (os : Os) (started : os.Started) (H : Type) (enc : TypeId × Value → H) :
    ReturnsInHanded {} Tryz.checked os 3 .any (fun w args => (Rows.wireWritesSpec.pre enc Tryz.prog Tryz.f3 [] false w args ∧ laidMetH Tryz.prog laid3 w) ∧ sizedMet enc Tryz.prog Tryz.f3 (OpenSpec.ofChange Rows.wireWritesSpec) false w args)
      (Rows.wireWritesSpec.post enc Tryz.prog Tryz.f3 false true false false) := by
  refine returnsInHanded_of_change_and (C := Tryz.checked) (X := fun w _ => laidMetH Tryz.prog laid3 w) (fun _ _ _ hh h => h.of_heap hh) own started (by kernel_rfl) Tryz.func3
    (ChangeSpec.witness_shaped (enc := enc) (C := Tryz.checked) (os := os) (X := fun w _ => laidMetH Tryz.prog laid3 w) false (World.doorLaid Tryz.prog 24 os) #[.agg #[.string ⟨#[]⟩, .string ⟨#[]⟩, .int .i64 0, .string ⟨#[]⟩, .int .i64 0, .slice none 0 0, .string ⟨#[]⟩], .bool false] 8 rfl (World.shaped_of_RefB (by kernel_rfl) (by kernel_rfl)) (by kernel_rfl) (by kernel_rfl) (by kernel_rfl) (door_met os _)) ?_
  intro W base args ds gs before hval0 hW _ _ hL _
  have hval : ∀ (j : Nat) t v, Tryz.f3.params[j]? = some t → args[j]? = some v → Value.okWide Tryz.prog W .any base t v := hval0
  have hW' := hW
  obtain ⟨p, q, hA0, hV, rfl, hfz, hnd⟩ := hW
  have hA : DataW.TrodAll enc Tryz.prog W 0 (fun _ => true) true Tryz.f3.params.toList args.toList ds p := hA0
  rw [Tryz.params3] at hA hval
  obtain ⟨v0, vs0, d0, ds0, p0, q0, hargs, rfl, rfl, h0, r0⟩ := trodAll_cons hA
  obtain ⟨v1, vs1, d1, ds1, p1, q1, rfl, rfl, rfl, h1, r1⟩ := trodAll_cons r0
  obtain ⟨rfl, rfl, rfl⟩ := trodAll_nil r1
  obtain rfl : args = #[v0, v1] := by cases args; simp_all
  obtain ⟨rfl, rfl⟩ := trodVars_none hV
  have k0 := h0
  have lt0 : ∀ x ∈ p0, x.block < W.heap.size := by obtain ⟨m, hm⟩ := k0; exact DataW.trod_lt m _ _ _ hm
  have k1 := h1
  have lt1 : ∀ x ∈ p1, x.block < W.heap.size := by obtain ⟨m, hm⟩ := k1; exact DataW.trod_lt m _ _ _ hm
  obtain ⟨sm0, st0, sc0, sr0, sn0, L0, bb0, ad0, cap0, rfl, hrow0, hcap0, hshort0, hm0, ht0, hr0, hb0⟩ := open_message (hval 0 26 v0 rfl rfl) h0
  obtain ⟨x1, rfl, -, -⟩ := open_bool Tryz.underlying4 (hval 1 4 v1 rfl rfl) h1
  have hT := tabs_of hL
  clear hA0 hval0
  refine (writes_walk sm0 st0 sc0 sr0 sn0 L0 bb0 ad0 cap0 x1 W hrow0 hcap0 hshort0 hm0 ht0 hr0 hb0 hT).mono fun e W' ⟨he, bel⟩ => ?_
  subst he
  exact ⟨_, rfl, _, _, _, [], _, [], hW', trodAll_mk1 (shut_bool Tryz.underlying4 _), (trodAll_cons_mk (Below.trod laidOut (by kernel_rfl) (of_decide_eq_true (by kernel_rfl)) k0 bel lt0) (trodAll_cons_mk (Below.trod laidOut (by kernel_rfl) (of_decide_eq_true (by kernel_rfl)) k1 bel lt1) trodAll_mk0)), rfl, bel.frame _, fun h => by cases h⟩

theorem writes_row : Rows.WireWritesSaid :=
  OpenClaim.holds_of_wide 3 Tryz.f3 rfl rfl rfl rfl rfl rfl rfl ⟨rfl, rfl, rfl, rfl, rfl⟩ rfl rfl rfl rfl rfl (by kernel_rfl) Tryz.func3 (by kernel_rfl)
    (of_decide_eq_true (by kernel_rfl)) (by unfold Func.isWrapper; first | (rw [if_pos (by decide +kernel)]; kernel_rfl) | (rw [if_neg (by decide +kernel)]; exact ⟨rfl, rfl⟩))
    (fun os started H enc _ => writes_lifted os started H enc)

theorem writes_holds : Rows.WireWritesCardSaid :=
  Claim7.holds_tied_plain_at .later [] [.data, .data, .data] true (true, "a603b6b9b9401121a7b687d27458eabfe861105e2f95f3117fb00a0d67a9a931") false
    writes_row (fun _ h => by cases h) (by kernel_rfl) (fun _ h => by cases h) wireWrites_row_tie rfl ⟨rfl, rfl⟩ (by kernel_rfl) rfl
    (fun f fn hf hfn => by
      obtain rfl : f = 3 := Option.some.inj ((show Tryz.prog.funcNamed "intarsia/intarsialaw10.WireWrites" = some 3 by kernel_rfl).symm.trans hf) |>.symm
      obtain rfl : fn = Tryz.f3 := (Option.some.inj (Tryz.func3.symm.trans hfn)).symm
      exact ⟨by kernel_rfl, fun j t ht => by
        rw [Tryz.params3] at ht
        have hm : t ∈ [26, 4] := by simpa using Array.mem_of_getElem? ht
        have hall : ([26, 4].all fun u => !Tryz.prog.wantsStandIn u) = true := by kernel_rfl
        exact (show Tryz.prog.wantsStandIn t = false by simpa using List.all_eq_true.1 hall t hm)⟩)
    (by kernel_rfl)

end Go.Proofs.YtmpijlaidnhpnaaGreatDoor
