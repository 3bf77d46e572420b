/- The wrap of a row with listed tables, the world's shape kept: what the library reads of its own stands in some cell. Where a written head ends: at the first four bytes 13, 10, 13, 10. The walk of WireBack. WireBack returns true for every message, every yes or no and every text that can be handed in, and leaves its arguments as they were. The condition that its card bears: the listed tables of the library hold what their initialisers lay. -/
import Derived.Test.YtmpijlaidnhpnaaGreatDoorRows
import Derived.HandedShaped
import Derived.Shelf.Vars
import Derived.ProofKit
import Derived.Test.YtmpijlaidnhpnaaGreatDoorJXs
import Derived.Lib.IndexMore
import Derived.Test.YtmpijlaidnhpnaaGreatDoorCards
import Derived.Test.YtmpijlaidnhpnaaGreatDoorTie
import Derived.Test.YtmpijlaidnhpnaaGreatDoorJOp
import Derived.LaidMore
import Derived.OpenShut
import Derived.ShutString
import Derived.ChangeOld
import Derived.Below
import Derived.Stop.Joined
import Derived.Lib.SmallJoins
import Derived.SevenTiedAt
namespace Go.Proofs.YtmpijlaidnhpnaaGreatDoor
set_option linter.unusedVariables false
open Go

theorem change_and_shaped {H : Type} {enc : TypeId × Value → H} {a : Assume} {C : Checked} {os : Os} {f : FuncId} {fn : Func} {s : ChangeSpec} {conds : List PathCond} {apart fresh handsOn again : Bool} {X : World → Array Value → Prop}
    (hX : ∀ (w w' : World) (args : Array Value), w.heap = w'.heap → X w args → X w' args)
    (own : ownKnob C.prog.godebug = none) (started : os.Started) (noInit : C.prog.inits.idxOf? f = none) (hfn : C.prog.funcs[f]? = some fn)
    (witness : ∃ (w : World) (tape : Tape) (i : Input), w.os = os ∧ (w.forCall tape i).Shaped C.prog ∧ i.vars = [] ∧ Input.okWide C.prog (w.forCall tape i) .any w.heap.size f i ∧
      ((s.pre enc C.prog fn conds apart (w.forCall tape i).memory i.args ∧ X (w.forCall tape i).memory i.args) ∧ sizedMet enc C.prog fn (OpenSpec.ofChange s) apart (w.forCall tape i).memory i.args) ∧ a.holds C.prog (lone (Frame.enter C.prog f i.args .normal) [] (w.forCall tape i)))
    (contract : ∀ (W : World) (base : Nat) (args : Array Value) (ds gs : List (DataW H)) (before : List MemPlace),
      (∀ (j : Nat) t v, fn.params[j]? = some t → args[j]? = some v → Value.okWide C.prog W .any base t v) →
      DataW.Whole enc C.prog fn.params.toList s.vars apart W args.toList ds gs before →
      X W args → W.ShapedOpen C.prog →
      Calls C.prog f args W fun e W' => ∃ v, e = .returned v ∧ s.post enc C.prog fn apart fresh handsOn again W args v W') :
    ReturnsInHanded a C os f .any (fun w args => (s.pre enc C.prog fn conds apart w args ∧ X w args) ∧ sizedMet enc C.prog fn (OpenSpec.ofChange s) apart w args) (s.post enc C.prog fn apart fresh handsOn again) := by
  refine returnsInHanded_of_calls own started noInit witness ?_
  intro w tape i _ hsh _ hok hpre hholds
  obtain ⟨_, _, _, fn', hfn', _, _, _, _, hval⟩ := hok
  have e : fn' = fn := Option.some.inj (hfn'.symm.trans hfn)
  subst e
  obtain ⟨⟨⟨ds, gs, before, hw, hc⟩, hx⟩, hz⟩ := hpre
  have hw' := DataW.Whole.of_heap (w' := w.forCall tape i) (by rfl) hw
  refine (contract (w.forCall tape i) w.heap.size i.args ds gs before hval hw' (hX _ _ _ (by rfl) hx) hsh).mono fun e W' ⟨v, he, hp⟩ => ?_
  subst he
  exact ChangeSpec.post_blind hp

theorem maxlen_of {W : World} (h : W.ShapedOpen Tryz.prog) : ∃ m, W.cell? ⟨0, 0, none⟩ = some (.int .i64 m) :=
  cell_of_shapedOpen_int (P := Tryz.prog) (g := 0) (t := 3) (zero := #[.int .i64 0]) h (of_decide_eq_true (by kernel_rfl)) (by kernel_rfl) rfl (by kernel_rfl) (by kernel_rfl) Tryz.underlying3

end Go.Proofs.YtmpijlaidnhpnaaGreatDoor

namespace Go.Proofs.YtmpijlaidnhpnaaGreatDoor
set_option linter.unusedVariables false
set_option linter.unusedSimpArgs false
set_option maxRecDepth 100000

theorem empty_by (l : List UInt8) : ∀ (a : Nat) (p q : List UInt8), l = p ++ 10 :: 13 :: 10 :: q → ∃ n, Hd.enA (Hd.lns a l) = some n ∧ n ≤ a + p.length + 3 := by
  induction l using Hd.lines_ind with
  | h0 l h =>
    intro a p q e
    have := h 10 (by rw [e]; simp)
    exact absurd this (by decide)
  | h1 x r h ih =>
    intro a p q e
    rw [Hd.lns_line h, Hd.enA]
    have last : x = p → r = 13 :: 10 :: q → ∃ n, (if (Hd.bareL x).isEmpty = true then some (a + x.length + 1) else Hd.enA (Hd.lns (a + x.length + 1) r)) = some n ∧ n ≤ a + p.length + 3 := by
      intro e1 e2
      split
      · exact ⟨_, rfl, by rw [e1]; omega⟩
      · rw [e2, show (13 :: 10 :: q : List UInt8) = [13] ++ 10 :: q from rfl, Hd.lns_line (by decide), Hd.enA, if_pos (show (Hd.bareL [13]).isEmpty = true by decide)]
        exact ⟨_, rfl, by rw [e1]; simp⟩
    rcases List.append_eq_append_iff.1 e with ⟨c, e1, e2⟩ | ⟨c, e1, e2⟩
    · cases c with
      | nil =>
        rw [List.nil_append] at e2
        injection e2 with _ e2
        exact last (by rw [e1, List.append_nil]) e2
      | cons d c =>
        rw [List.cons_append] at e2
        injection e2 with e3 e4
        subst e3
        have hlen : p.length = x.length + 1 + c.length := by rw [e1]; simp; omega
        split
        · exact ⟨_, rfl, by omega⟩
        · obtain ⟨n, h1, h2⟩ := ih (a + x.length + 1) c q e4
          exact ⟨n, h1, by omega⟩
    · cases c with
      | nil =>
        rw [List.nil_append] at e2
        injection e2 with _ e2
        exact last (by rw [e1, List.append_nil]) e2.symm
      | cons d c =>
        rw [List.cons_append] at e2
        injection e2 with e3 e4
        have := h d (by rw [e1]; simp)
        rw [← e3] at this
        exact absurd this (by decide)
theorem ea_wr {L : List Fd} (h : ∀ f ∈ L, mayF f = true) (r : List UInt8) : ∀ a : Nat, Hd.enA (Hd.lns a (Hd.wrL L ++ r)) = Hd.enA (Hd.lns (a + (Hd.wrL L).length) r) := by
  induction L with
  | nil => intro a; rw [Hd.wrL, List.flatMap_nil, List.nil_append]; rfl
  | cons f L ih =>
    intro a
    have hf := Hd.line_no (h f (by simp))
    rw [Hd.wrL_cons, Hd.wr1_eq, List.append_assoc, List.append_assoc, List.singleton_append, Hd.lns_line, Hd.enA, Hd.bareL_snoc, if_neg (by simp [Hd.lineL]), ih (fun g hg => h g (by simp [hg]))]
    · congr 2; simp; omega
    · intro d hd
      rcases List.mem_append.1 hd with hd | hd
      · exact hf.1 d hd
      · obtain rfl : d = 13 := by simpa using hd
        decide
theorem hd_end {s : St} {L : List Fd} (h : rtB s = true) (hr : rightF L = true) (y : List UInt8) : Hd.enA (Hd.lns 0 (hdW s L ++ y)) = some (hdW s L).length := by
  have hlen := hd_len s L
  have e : hdW s L ++ y = (Sr.wrL s ++ [13]) ++ 10 :: (Hd.wrL L ++ (13 :: 10 :: y)) := by simp [hdW]
  have hm : ∀ f ∈ L, mayF f = true := by
    unfold rightF at hr
    rw [Bool.and_eq_true] at hr
    exact List.all_eq_true.1 hr.2
  rw [e, Hd.lns_line (hd_line h), Hd.enA, Hd.bareL_snoc, if_neg (by simpa using (ten_free h).2), ea_wr hm, show (13 :: 10 :: y : List UInt8) = [13] ++ 10 :: y from rfl, Hd.lns_line (by decide), Hd.enA,
    if_pos (show (Hd.bareL [13]).isEmpty = true by decide), hlen]
  congr 1
  simp <;> omega
theorem ends_two (L : List Fd) : ∀ z : List UInt8, ∃ P, z ++ [13, 10] ++ Hd.wrL L = P ++ [13, 10] := by
  induction L with
  | nil => intro z; exact ⟨z, by simp [Hd.wrL]⟩
  | cons f L ih =>
    intro z
    obtain ⟨P, hP⟩ := ih (z ++ [13, 10] ++ Hd.lineL f)
    refine ⟨P, ?_⟩
    rw [← hP, Hd.wrL_cons, Hd.wr1_eq]
    simp
theorem idx_head {s : St} {L : List Fd} {y : List UInt8} (h : rtB s = true) (hr : rightF L = true) (hi : Lib.index (hdW s L ++ y) [13, 10, 13, 10] + 4 ≤ 4000) : (hdW s L).length ≤ 4000 := by
  obtain ⟨P, hP⟩ := ends_two L (Sr.wrL s)
  have e : hdW s L = P ++ [13, 10, 13, 10] := by
    have : hdW s L = (Sr.wrL s ++ [13, 10] ++ Hd.wrL L) ++ [13, 10] := by simp [hdW]
    rw [this, hP]; simp
  rcases Lib.index_spec (hdW s L ++ y) [13, 10, 13, 10] with ⟨-, hno⟩ | ⟨i, hx, hil, hocc, -⟩
  · have := hno P.length (by rw [e]; simp <;> omega)
    unfold Lib.occAt at this
    rw [e, List.append_assoc, List.drop_left] at this
    simp at this
  · rw [hx] at hi
    unfold Lib.occAt at hocc
    rw [List.isPrefixOf_iff_prefix] at hocc
    obtain ⟨q, hq⟩ := hocc
    have hs : hdW s L ++ y = ((hdW s L ++ y).take i ++ [13]) ++ 10 :: 13 :: 10 :: q := by
      conv => lhs; rw [← List.take_append_drop i (hdW s L ++ y), ← hq]
      simp
    obtain ⟨n, h1, h2⟩ := empty_by (hdW s L ++ y) 0 _ q hs
    rw [hd_end h hr] at h1
    have := Option.some.inj h1
    rw [List.length_append, List.length_take] at h2
    simp at h2
    omega

end Go.Proofs.YtmpijlaidnhpnaaGreatDoor

namespace Go.Proofs.YtmpijlaidnhpnaaGreatDoor
set_option linter.unusedVariables false
set_option linter.unusedSimpArgs false
set_option maxRecDepth 100000
open Go.RowKit
open Ck (region_upTo upTo_take upTo_run upTo_done)

theorem samef_any (L : List Fd) (v : Value) (w : World) (hr : Row w v L) (hl : L.length ≤ 50) (hS : Sh L) :
    Calls Tryz.prog 14 #[v] w fun e w' => ∃ r, e = .returned r ∧ Own w' w.heap.size r (dlF L) ∧ Below w.heap.size w w' := by
  have hd1 : ∀ w0, Row w0 v L → Calls Tryz.prog 15 #[v, .string ⟨#[99, 111, 110, 116, 101, 110, 116, 45, 108, 101, 110, 103, 116, 104]⟩] w0 fun e w' => ∃ r, e = .returned r ∧ Own w' w0.heap.size r (delF lenS L) ∧ Below w0.heap.size w0 w' := fun w0 h => by rw [← del_cl]; exact refremove_any L v lenW w0 h (by omega) hS (by decide)
  have hd2 : ∀ u w0, Row w0 u (delF lenS L) → Calls Tryz.prog 15 #[u, .string ⟨#[116, 114, 97, 110, 115, 102, 101, 114, 45, 101, 110, 99, 111, 100, 105, 110, 103]⟩] w0 fun e w' => ∃ r, e = .returned r ∧ Own w' w0.heap.size r (dlF L) ∧ Below w0.heap.size w0 w' := fun u w0 h => by unfold dlF; rw [← del_te]; exact refremove_any (delF lenS L) u tecW w0 h (Nat.le_trans (del_le _ _) (by omega)) (del_short hS) (by decide)
  obtain ⟨aa, ca, rfl⟩ := hr.slice
  have HR := hide hr
  clear hr
  go_enter Tryz.func14, Tryz.ntmps14
  go_wp2_with fail
  refine (hd1 _ HR.out).mono ?_
  rintro e w1 ⟨r1, rfl, hO1, hb1⟩
  go_wp2_with fail
  refine (hd2 r1 _ hO1.row).mono ?_
  rintro e w2 ⟨r2, rfl, hO2, hb2⟩
  go_wp2_with fail
  go_ret
  exact ⟨r2, rfl, owns_mono hO2 hb1.size, hb1.trans (hb2.mono hb1.size)⟩

/-- Which messages are not looked at. -/
def skB (c : Bool) (s : St) : Bool := (c && (s.n == 0)) || (!(s.c == 0) && decide (s.c < 200)) || (s.c == 204) || (s.c == 304)
theorem sk_no {c : Bool} {s : St} (h : skB c s = false) (hs : rtB s = true) : (c = true → s.n ≠ 0) ∧ (s.c = 0 ∨ bareB s.c = false) := by
  unfold skB at h
  simp only [Bool.or_eq_false_iff] at h
  obtain ⟨⟨⟨h1, h2⟩, h3⟩, h4⟩ := h
  refine ⟨fun e e2 => ?_, ?_⟩
  · rw [e, e2] at h1; exact absurd h1 (by decide)
  · by_cases hc : s.c = 0
    · exact Or.inl hc
    · right
      have k2 : ¬ s.c < 200 := by
        intro g
        rw [decide_eq_true g, show (s.c == 0) = false by simpa using hc] at h2
        exact absurd h2 (by decide)
      have k3 : s.c ≠ 204 := by simpa using h3
      have k4 : s.c ≠ 304 := by simpa using h4
      unfold bareB
      rw [decide_eq_false k2, decide_eq_false k3, decide_eq_false k4]; rfl

set_option maxHeartbeats 16000000 in
theorem back_walk (sm st : ByteArray) (sc : Int) (sr : ByteArray) (sn : Int) (L : List Fd) (bb : ByteArray) (a : Option Addr) (cap : Nat) (c : Bool) (more : ByteArray) (w : World) (hr : Row w (.slice a L.length cap) L) (hcm : cap ≤ maxLen) (hs : ∀ f ∈ L, f.1.size ≤ maxLen ∧ f.2.size ≤ maxLen)
    (z0 : sm.size ≤ maxLen) (z1 : st.size ≤ maxLen) (z2 : sr.size ≤ maxLen) (z3 : bb.size ≤ maxLen) (z4 : more.size ≤ maxLen) (ht : TT w) (mx : Int) (hmx : w.cell? ⟨0, 0, none⟩ = some (.int .i64 mx)) :
    Calls Tryz.prog 4 #[.agg #[.string sm, .string st, .int .i64 sc, .string sr, .int .i64 sn, .slice a L.length cap, .string bb], .bool c, .string more] w fun en w' => en = .returned (.bool true) ∧ Below w.heap.size w w' := by
  have h00 : 0 < w.heap.size := World.block_lt_of_cell? w ⟨0, 0, none⟩ hmx
  have hX : Blk (w.alloc (.cells #[.string sm, .string st, .int .i64 sc, .string sr, .int .i64 sn, .slice a L.length cap, .string bb] 26)) w.heap.size 26 [.string sm, .string st, .int .i64 sc, .string sr, .int .i64 sn, .slice a L.length cap, .string bb] := Blk.new w 26 _
  have hB : Below w.heap.size w (w.alloc (.cells #[.string sm, .string st, .int .i64 sc, .string sr, .int .i64 sn, .slice a L.length cap, .string bb] 26)) := (Below.refl _ _).alloc (Nat.le_refl _) _
  have hF := fun W hW => few_any sm st sc sr sn L bb a cap W hW hcm hs z0 z1 z2 z3
  have hR0 := hr.below hB
  unfold maxLen at z4
  obtain ⟨n, hn, hn2, hn3⟩ : ∃ n : Nat, min (more.size : Int) 500 = (n : Int) ∧ n ≤ 500 ∧ n ≤ more.size := ⟨(min (more.size : Int) 500).toNat, by omega, by omega, by omega⟩
  have hni : (n : Int) ≤ (more.size : Int) := by omega
  have hns : (more.extract 0 n).size ≤ 500 := by rw [ByteArray.size_extract]; omega
  have HT := hide (And.intro ht hmx)
  have HF := hide hF
  have HR0 := hide hR0
  clear hr hs ht hmx hF hR0
  go_enter Tryz.func4, Tryz.ntmps4
  go_upto_region 1 with fail
  generalize World.alloc _ _ = W1 at hX hB HR0 ⊢
  have hN := hX.lt
  generalize hNN : w.heap.size = N at hX hN ⊢
  go_cut [2] (fun s2 wc => ∃ (x : Ms) (va : Option Addr) (vc : Nat), s2 = .string (more.extract 0 n) ∧ Blk wc N 26 [.string x.s.m, .string x.s.t, .int .i64 x.s.c, .string x.s.r, .int .i64 x.s.n, .slice va x.L.length vc, .string (Ck.bs x.b)] ∧ Row wc (.slice va x.L.length vc) x.L ∧ Below w.heap.size w wc ∧ Hid (Short x.s ∧ Sh x.L ∧ x.L.length ≤ 45 ∧ x.b.length ≤ 21000))
  case first =>
    have hXd := hX.drew
    have hBd : Below W1.heap.size W1 W1.drew := ⟨rfl, rfl, rfl, Nat.le_refl _, fun _ _ => rfl⟩
    refine region_upTo 7 8 8 (fun w' => Blk w' N 26 [.string sm, .string st, .int .i64 sc, .string sr, .int .i64 sn, .slice a L.length cap, .string bb]) (fun _ => True) (fun _ => True) (by kernel_rfl) ⟨hXd, trivial, trivial⟩ (fun hHeld => ?_)
    refine upTo_take 7 (S := (fun w' => Blk w' N 26 [.string sm, .string st, .int .i64 sc, .string sr, .int .i64 sn, .slice a L.length cap, .string bb])) (i := 0) (oi := _) (v := .agg #[.string sm, .string st, .int .i64 sc, .string sr, .int .i64 sn, .slice a L.length cap, .string bb]) rfl (by kernel_rfl) (by kernel_rfl) (by kernel_rfl) (fun _ _ _ h => h) (by decide) (by kernel_rfl) (by kernel_rfl) (fun l w1 hh g => hh.h1 g) hHeld (yieldsIf_load_mid (by kernel_rfl) 26 (.tmp 3) rfl N 0 rfl _ _ (fun _ hS => Blk.range hS 0 7) Tryz.underlying26 rfl (by kernel_rfl)) (fun hHeld => ?_)
    simp only [Act.put, List.getElem_toArray, List.getElem_cons_zero, List.getElem_cons_succ, List.setIfInBounds_toArray, List.set_cons_zero, List.set_cons_succ]
    refine upTo_take 8 (S := fun _ => True) (i := 2) (oi := _) (v := .string more) rfl (by kernel_rfl) (by kernel_rfl) (by kernel_rfl) (fun _ _ _ h => h) (by decide) (by kernel_rfl) (by kernel_rfl) (fun _ _ _ _ => trivial) hHeld (Or.inl ⟨by rfl, fun wS hSw => by go_simp⟩) (fun hHeld => ?_)
    simp only [Act.put, List.getElem_toArray, List.getElem_cons_zero, List.getElem_cons_succ, List.setIfInBounds_toArray, List.set_cons_zero, List.set_cons_succ]
    refine upTo_take 8 (S := fun _ => True) (i := 3) (oi := _) (v := .string more) rfl (by kernel_rfl) (by kernel_rfl) (by kernel_rfl) (fun _ _ _ h => h) (by decide) (by kernel_rfl) (by kernel_rfl) (fun _ _ _ _ => trivial) hHeld (Or.inl ⟨by rfl, fun wS hSw => by go_simp⟩) (fun hHeld => ?_)
    simp only [Act.put, List.getElem_toArray, List.getElem_cons_zero, List.getElem_cons_succ, List.setIfInBounds_toArray, List.set_cons_zero, List.set_cons_succ]
    refine upTo_take 8 (S := fun _ => True) (i := 4) (oi := _) (v := .int .i64 (more.size : Int)) rfl (by kernel_rfl) (by kernel_rfl) (by kernel_rfl) (fun _ _ _ h => h) (by decide) (by kernel_rfl) (by kernel_rfl) (fun _ _ _ _ => trivial) hHeld (Or.inl ⟨by rfl, fun wS hSw => by go_simp⟩) (fun hHeld => ?_)
    simp only [Act.put, List.getElem_toArray, List.getElem_cons_zero, List.getElem_cons_succ, List.setIfInBounds_toArray, List.set_cons_zero, List.set_cons_succ]
    refine upTo_take 8 (S := fun _ => True) (i := 5) (oi := _) (v := .int .i64 (n : Int)) rfl (by kernel_rfl) (by kernel_rfl) (by kernel_rfl) (fun _ _ _ h => h) (by decide) (by kernel_rfl) (by kernel_rfl) (fun _ _ _ _ => trivial) hHeld (Or.inl ⟨by rfl, fun wS hSw => by go_simp⟩) (fun hHeld => ?_)
    simp only [Act.put, List.getElem_toArray, List.getElem_cons_zero, List.getElem_cons_succ, List.setIfInBounds_toArray, List.set_cons_zero, List.set_cons_succ]
    refine upTo_take 8 (S := fun _ => True) (i := 6) (oi := _) (v := .string (more.extract 0 n)) rfl (by kernel_rfl) (by kernel_rfl) (by kernel_rfl) (fun _ _ _ h => h) (by decide) (by kernel_rfl) (by kernel_rfl) (fun _ _ _ _ => trivial) hHeld (Or.inl ⟨by rfl, fun wS hSw => by go_simp⟩) (fun hHeld => ?_)
    simp only [Act.put, List.getElem_toArray, List.getElem_cons_zero, List.getElem_cons_succ, List.setIfInBounds_toArray, List.set_cons_zero, List.set_cons_succ]
    refine upTo_run (i := 1) (o := _) (by kernel_rfl) rfl (fun K hK => ?_)
    go_simp
    refine (HF.out _ (HR0.out.below hBd)).mono ?_
    rintro en w2 ⟨⟨x, v, rfl, hw⟩, hb2⟩
    have hb2' : Below W1.heap.size W1 w2 := hBd.trans (hb2.mono hBd.size)
    go_simp
    refine hK.out _ _ (⟨fun _ => hXd.below hb2, fun _ => trivial, fun _ => trivial⟩) (fun hHeld => ?_)
    clear hK K
    have hX2 := hX.below hb2'
    have hsh : Short x.s := ⟨Nat.le_trans hw.sm (by decide), Nat.le_trans hw.st (by decide), Nat.le_trans hw.sr (by decide)⟩
    have hSh : Sh x.L := fun f hf => ⟨Nat.le_trans (hw.f f hf).1 (by decide), Nat.le_trans (hw.f f hf).2 (by decide)⟩
    have hl := hw.l
    have hbl := hw.b
    obtain ⟨va, vc, rfl⟩ := hw.row.slice
    have hth := hX2.there 0 7 (show 0 + 7 ≤ 7 by decide)
    have hO := only_sets [.string x.s.m, .string x.s.t, .int .i64 x.s.c, .string x.s.r, .int .i64 x.s.n, .slice va x.L.length vc, .string (Ck.bs x.b)] 0 (only_refl w2 N)
    have hX3 : Blk (w2.setCells N 0 [.string x.s.m, .string x.s.t, .int .i64 x.s.c, .string x.s.r, .int .i64 x.s.n, .slice va x.L.length vc, .string (Ck.bs x.b)]) N 26 [.string x.s.m, .string x.s.t, .int .i64 x.s.c, .string x.s.r, .int .i64 x.s.n, .slice va x.L.length vc, .string (Ck.bs x.b)] := hX2.sets [.string x.s.m, .string x.s.t, .int .i64 x.s.c, .string x.s.r, .int .i64 x.s.n, .slice va x.L.length vc, .string (Ck.bs x.b)] 0 (show 0 + 7 ≤ 7 by decide)
    have hR3 : Row (w2.setCells N 0 [.string x.s.m, .string x.s.t, .int .i64 x.s.c, .string x.s.r, .int .i64 x.s.n, .slice va x.L.length vc, .string (Ck.bs x.b)]) (.slice va x.L.length vc) x.L := Row.only hw.row (fun h0 => by obtain ⟨g, n, k, e, hg⟩ := hw.own h0; exact ⟨g, n, k, e, Nat.lt_of_lt_of_le hN hg⟩) hO
    have hB2 := hB.trans (hb2'.mono hB.size)
    have hB3 := hB2.trans (below_only hO (by omega) hB2.size)
    have HP := hide (And.intro hX3 (And.intro hR3 (And.intro hB3 (And.intro hsh (And.intro hSh (And.intro hl hbl))))))
    clear hX3 hR3 hB3 hB2 hsh hSh hl hbl hO hX2
    rw [show x.v (.slice va x.L.length vc) = .agg #[.string x.s.m, .string x.s.t, .int .i64 x.s.c, .string x.s.r, .int .i64 x.s.n, .slice va x.L.length vc, .string (Ck.bs x.b)] from rfl]
    refine upTo_run (i := 7) (o := _) (by kernel_rfl) rfl (fun K hK => ?_)
    rw [if_pos (by kernel_rfl)]
    refine wp_store_mid 26 (.tmp 3) (.tmp 15) rfl _ _ _ rfl rfl (hth) (by kernel_rfl) (by simp [Value.oneCell']) ?_
    simp only [Act.put, List.getElem_toArray, List.getElem_cons_zero, List.getElem_cons_succ, List.setIfInBounds_toArray, List.set_cons_zero, List.set_cons_succ]
    refine hK.out _ _ (⟨fun g => Bool.noConfusion (show true = false from g), fun _ => trivial, fun _ => trivial⟩) (fun hHeld => ?_)
    clear hK K
    refine upTo_run (i := 8) (o := _) (by kernel_rfl) rfl (fun K hK => ?_)
    go_simp
    refine hK.out _ _ (⟨fun g => Bool.noConfusion (show true = false from g), fun g => Bool.noConfusion (show true = false from g), fun g => Bool.noConfusion (show true = false from g)⟩) (fun hHeld => ?_)
    clear hK K
    refine upTo_done (by kernel_rfl) ?_ _
    go_wp2_with fail
    go_meet
    exact ⟨x, va, vc, rfl, HP.out.1, HP.out.2.1, HP.out.2.2.1, HP.out.2.2.2⟩
  case rest =>
  obtain ⟨x, va, vc, rfl, hX, hR, hB, HS⟩ := hcut
  clear hN hn hn2 hn3 hni z4 HF HR0
  generalize more.extract 0 n = M at hns ⊢
  have HR := hide (And.intro hR (HT.out.1.below hB))
  have hmx2 : ∀ W, Below w.heap.size w W → W.cell? ⟨0, 0, none⟩ = some (.int .i64 mx) := fun W h => (h.cell (p := ⟨0, 0, none⟩) h00).trans HT.out.2
  have HM := hide hmx2
  clear hR hmx2 HT
  go_wp2_with (refine wpList_load_mid rfl 26 (.tmp 3) rfl N 0 rfl [.string x.s.m, .string x.s.t, .int .i64 x.s.c, .string x.s.r, .int .i64 x.s.n, .slice va x.L.length vc, .string (Ck.bs x.b)] _ (hX.range 0 7) Tryz.underlying26 rfl (by kernel_rfl) ?_)
  refine (wwrite_any x (.slice va x.L.length vc) c _ HR.out.1 HS.out.1 (Nat.le_trans HS.out.2.2.1 (by decide)) HS.out.2.1 (Nat.le_trans HS.out.2.2.2 (by decide)) HR.out.2).mono ?_
  rintro en w4 ⟨rfl, hb4⟩
  have hR4 := hide (HR.out.1.below hb4)
  replace hX := hX.below hb4
  replace hB := hB.trans (hb4.mono hB.size)
  clear HR hb4
  have c2 := hX.cell 2 _ rfl
  have c4 := hX.cell 4 _ rfl
  by_cases hE : wmE x c = 0
  · obtain ⟨k1, k2, k3, k4, k5, k6⟩ := wm_okay hE
    rw [hE, k6]
    have hbk := fun h1 h2 h3 => back_go (m := x) (c := c) (t := ⟨#[71, 69, 84]⟩) hE h1 h2 h3 (by kernel_rfl)
    have hls := wmT_list x c
    have hbl := wmB_list x c
    have hr1 : rightF (wmL x c) = true := (wi_okay (show wiE x.L (wmK c) (wmZ x c) = 0 from k4)).2.2.2.2.2.1
    have hdl : dlF (wmL x c) = dlF x.L := (wi_okay (show wiE x.L (wmK c) (wmZ x c) = 0 from k4)).2.2.2.2.2.2.1
    have hsz : (wmT x c).size ≤ 30000 := by
      have h := congrArg List.length hls
      rw [size_list', List.length_append, hbl, hd_len] at h
      have hw1 := wrL_le k1
      have he : (if c = true then Ck.encL x.b ++ Ck.endL else x.b).length ≤ 20100 := by
        cases c
        · rw [if_neg (by decide)]; omega
        · have := Ck.encL_len x.b (by omega)
          rw [if_pos rfl, List.length_append, show Ck.endL.length = 5 from rfl]; omega
      omega
    have hix := fun h => idx_head (y := (wmB x c).data.toList) k1 hr1 h
    rw [← hls] at hix
    have HBK := hide hbk
    have HIX := hide hix
    have HK := hide (And.intro k1 (And.intro hdl (And.intro (wi_len : (wmL x c).length ≤ 40) (wi_short (K := wmK c) (Z := wmZ x c) HS.out.2.1))))
    clear hbk hls hbl hix k1 k2 k3 k4 k5 k6 hdl hr1
    generalize wmT x c = S at hsz HBK HIX ⊢
    go_upto_region 4 with fail
    go_cut [56] (fun s56 wc => s56 = .bool (skB c x.s) ∧ wc = w4)
    case first =>
      have hskv : ∀ b0 b1 b2 b3 b4 : Bool, (x.s.n == 0) = b0 → (x.s.c == 0) = b1 → decide (x.s.c < 200) = b2 → (x.s.c == 204) = b3 → (x.s.c == 304) = b4 → skB c x.s = ((c && b0) || (!b1 && b2) || b3 || b4) := by
        intro b0 b1 b2 b3 b4 h0 h1 h2 h3 h4
        unfold skB
        rw [h0, h1, h2, h3, h4]
      have HV := hide hskv
      clear hskv HBK HIX HK HS HM hB hX hR4
      cases h0 : (x.s.n == 0) <;> cases h1 : (x.s.c == 0) <;> cases h2 : decide (x.s.c < 200) <;> cases h3 : (x.s.c == 204) <;> cases h4 : (x.s.c == 304) <;> cases c <;>
        (have hv := HV.out _ _ _ _ _ h0 h1 h2 h3 h4
         clear HV
         have h1' : (x.s.c != 0) = !(x.s.c == 0) := rfl
         rw [h1] at h1'
         go_wp2_with fail
         go_meet
         exact ⟨by rw [hv]; rfl, rfl⟩)
    case rest =>
    obtain ⟨rfl, rfl⟩ := hcut
    cases hsk : skB c x.s
    · obtain ⟨j1, j2⟩ := sk_no hsk HK.out.1
      have hbk2 := fun h => HBK.out h j2 j1
      have HBK2 := hide hbk2
      clear HBK hbk2 j1 j2 hsk
      go_wp2_with fail
      refine (Tryz.strings_Index S ⟨#[13, 10, 13, 10]⟩ mx _ (by omega) (HM.out _ hB)).mono ?_
      rintro en w5 ⟨rfl, rfl⟩
      have hge := Lib.index_ge S.data.toList (⟨#[13, 10, 13, 10]⟩ : ByteArray).data.toList
      have hle := Lib.index_le S.data.toList (⟨#[13, 10, 13, 10]⟩ : ByteArray).data.toList
      rw [size_list'] at hle
      obtain ⟨I, hI⟩ : ∃ I, Lib.index S.data.toList (⟨#[13, 10, 13, 10]⟩ : ByteArray).data.toList = I := ⟨_, rfl⟩
      have HIX2 : Hid (I + 4 ≤ 4000 → (hdW x.s (wmL x c)).length ≤ 4000) := fun h => HIX.out (by rw [← hI] at h; exact h)
      rw [hI] at hge hle ⊢
      clear HIX hI
      by_cases hlong : 4000 < I + 4
      · have hd : decide (4000 < I + 4) = true := decide_eq_true hlong
        go_wp2_with fail
        refine (alive_any _).mono ?_
        rintro en w6 ⟨rfl, hb6⟩
        go_wp2_with fail
        go_ret
        exact ⟨rfl, hB.trans (hb6.mono hB.size)⟩
      · have hd : decide (4000 < I + 4) = false := decide_eq_false hlong
        have hbk := HBK2.out (HIX2.out (by omega))
        clear HBK2 HIX2
        rw [show decide (x.s.c = 0) = (x.s.c == 0) from rfl] at hbk
        have hfc := fd_cut (rg_fresh (x.s.c == 0) ⟨#[71, 69, 84]⟩) S.data.toList M.data.toList
        rw [hbk] at hfc
        simp only at hfc
        have hf := fun W => feed_fresh (x.s.c == 0) ⟨#[71, 69, 84]⟩ (S.data.toList ++ M.data.toList) W (by rw [List.length_append, size_list', size_list']; omega)
        rw [hfc, bs_eq (B := S ++ M) (by rw [app_bytes])] at hf
        generalize fdG (fresh (x.s.c == 0) ⟨#[71, 69, 84]⟩ []) M.data.toList = R at hf
        have HF := hide hf
        clear hf hfc hbk
        go_wp2_with fail
        refine (new_any (x.s.c == 0) ⟨#[71, 69, 84]⟩ _).mono ?_
        rintro en w6 ⟨rfl, hb6⟩
        go_wp2_with fail
        refine (HF.out _).mono ?_
        rintro en w7 ⟨⟨vb, vd, u, l, rfl, hFR, hM, hl⟩, hb7⟩
        obtain ⟨xv, l', rfl⟩ : ∃ xv l', l = ((⟨x.s, wmL x c, x.b⟩ : Ms), xv) :: l' := by
          match l, hl with
          | (m, y) :: l', hl => simp at hl; exact ⟨y, l', by rw [hl.1]⟩
        obtain ⟨ua, uc, rfl, -, hcell⟩ := hM.mrow
        obtain ⟨g, rfl, hg, hrg, hq⟩ := hcell 0 (by simp)
        have hrg' : w7.rangeAt g 0 ((⟨x.s, wmL x c, x.b⟩ : Ms).cs xv) := by
          have h2 := hrg
          rw [Nat.zero_mul] at h2
          exact h2
        have hqr : Row w7 xv (wmL x c) := hq.row
        obtain ⟨xa, xc, rfl⟩ := hqr.slice
        have hb67 := hb6.trans (hb7.mono hb6.size)
        have hrg2 : w7.rangeAt g 0 [.string x.s.m, .string x.s.t, .int .i64 x.s.c, .string x.s.r, .int .i64 x.s.n, .slice xa (wmL x c).length xc, .string (Ck.bs x.b)] := hrg'
        have hK0 : ((((⟨x.s, wmL x c, x.b⟩ : Ms), Value.slice xa (wmL x c).length xc) :: l').length : Int) ≠ 0 := by simp; omega
        have hKi : 0 < (((⟨x.s, wmL x c, x.b⟩ : Ms), Value.slice xa (wmL x c).length xc) :: l').length := by simp
        generalize (((⟨x.s, wmL x c, x.b⟩ : Ms), Value.slice xa (wmL x c).length xc) :: l').length = K at hK0 hKi ⊢
        have hK1 : ((K : Int) == 0) = false := by simpa using hK0
        have hKz : (0 : Int) < (K : Int) := by omega
        replace hX := hX.below hb67
        replace hB := hB.trans (hb67.mono hB.size)
        have HR7 := hide (And.intro (hR4.out.below hb67) (And.intro hqr (And.intro hrg2 hg)))
        clear hcell hM hl hFR hb6 hb7 hb67 hrg hrg' hq hqr hrg2 HF hR4 hK0 hg
        go_upto_region 9 with (refine boxed rfl rfl _ rfl rfl _ rfl rfl (R.1.cs (.slice vb R.1.m.L.length vd)) rfl (by kernel_rfl) rfl rfl ?_; intro W8 hY hBW)
        replace hX := hX.below hBW
        replace hB := hB.trans (hBW.mono hB.size)
        have HR8 := hide (And.intro (HR7.out.1.below hBW) (And.intro (HR7.out.2.1.below hBW) (And.intro (range_below HR7.out.2.2.1 HR7.out.2.2.2 hBW) (Nat.lt_of_lt_of_le HR7.out.2.2.2 hBW.size))))
        clear hBW HR7 hY
        go_wp2_with fail
        refine (alive_any _).mono ?_
        rintro en w9 ⟨rfl, hb9⟩
        replace hX := hX.below hb9
        replace hB := hB.trans (hb9.mono hB.size)
        have HR9 := hide (And.intro (HR8.out.1.below hb9) (And.intro (HR8.out.2.1.below hb9) (And.intro (range_below HR8.out.2.2.1 HR8.out.2.2.2 hb9) (Nat.lt_of_lt_of_le HR8.out.2.2.2 hb9.size))))
        clear hb9 HR8
        go_upto_region 12 with fail
        refine wp_region_held_drew (S := (fun w' => w'.rangeAt g 0 [.string x.s.m, .string x.s.t, .int .i64 x.s.c, .string x.s.r, .int .i64 x.s.n, .slice xa (wmL x c).length xc, .string (Ck.bs x.b)] ∧ Blk w' N 26 [.string x.s.m, .string x.s.t, .int .i64 x.s.c, .string x.s.r, .int .i64 x.s.n, .slice va x.L.length vc, .string (Ck.bs x.b)])) (by kernel_rfl) (⟨HR9.out.2.2.1, hX.drew⟩) (fun hHeld => ?_)
        refine wpAnyH_take (i := 0) (oi := _) (v := .slice (some ⟨g, 0, none⟩) K uc) rfl (by kernel_rfl) (by kernel_rfl) (by kernel_rfl) (fun _ _ _ h => h) (Or.inl ⟨by rfl, fun wS hSw => by go_simp⟩) (by first | trivial | assumption) ?_
        simp only [Act.put, List.getElem_toArray, List.getElem_cons_zero, List.getElem_cons_succ, List.setIfInBounds_toArray, List.set_cons_zero, List.set_cons_succ]
        refine wpAnyH_take (i := 1) (oi := _) (v := .pointer (some ⟨g, 0, none⟩)) rfl (by kernel_rfl) (by kernel_rfl) (by kernel_rfl) (fun _ _ _ h => h) (Or.inl ⟨by rfl, fun wS hSw => by go_simp⟩) (by first | trivial | assumption) ?_
        simp only [Act.put, List.getElem_toArray, List.getElem_cons_zero, List.getElem_cons_succ, List.setIfInBounds_toArray, List.set_cons_zero, List.set_cons_succ]
        refine wpAnyH_take (i := 2) (oi := _) (v := .pointer (some ⟨g, 0, none⟩)) rfl (by kernel_rfl) (by kernel_rfl) (by kernel_rfl) (fun _ _ _ h => h) (Or.inl ⟨by rfl, fun wS hSw => by go_simp⟩) (by first | trivial | assumption) ?_
        simp only [Act.put, List.getElem_toArray, List.getElem_cons_zero, List.getElem_cons_succ, List.setIfInBounds_toArray, List.set_cons_zero, List.set_cons_succ]
        refine wpAnyH_take (i := 3) (oi := _) (v := .agg #[.string x.s.m, .string x.s.t, .int .i64 x.s.c, .string x.s.r, .int .i64 x.s.n]) rfl (by kernel_rfl) (by kernel_rfl) (by kernel_rfl) (fun _ _ _ h => h) (Or.inl ⟨by kernel_rfl, fun wS hSw => by have e0 : wS.cell? ⟨g, 0, none⟩ = some (.string x.s.m) := hSw.1 0 _ rfl; have e1 : wS.cell? ⟨g, 1, none⟩ = some (.string x.s.t) := hSw.1 1 _ rfl; have e2 : wS.cell? ⟨g, 2, none⟩ = some (.int .i64 x.s.c) := hSw.1 2 _ rfl; have e3 : wS.cell? ⟨g, 3, none⟩ = some (.string x.s.r) := hSw.1 3 _ rfl; have e4 : wS.cell? ⟨g, 4, none⟩ = some (.int .i64 x.s.n) := hSw.1 4 _ rfl; go_simp⟩) (by first | trivial | assumption) ?_
        simp only [Act.put, List.getElem_toArray, List.getElem_cons_zero, List.getElem_cons_succ, List.setIfInBounds_toArray, List.set_cons_zero, List.set_cons_succ]
        refine wpAnyH_take (i := 4) (oi := _) (v := .pointer (some ⟨N, 0, none⟩)) rfl (by kernel_rfl) (by kernel_rfl) (by kernel_rfl) (fun _ _ _ h => h) (Or.inl ⟨by rfl, fun wS hSw => by go_simp⟩) (by first | trivial | assumption) ?_
        simp only [Act.put, List.getElem_toArray, List.getElem_cons_zero, List.getElem_cons_succ, List.setIfInBounds_toArray, List.set_cons_zero, List.set_cons_succ]
        refine wpAnyH_take (i := 5) (oi := _) (v := .agg #[.string x.s.m, .string x.s.t, .int .i64 x.s.c, .string x.s.r, .int .i64 x.s.n]) rfl (by kernel_rfl) (by kernel_rfl) (by kernel_rfl) (fun _ _ _ h => h) (Or.inl ⟨by kernel_rfl, fun wS hSw => by have e0 := hSw.2.cell 0 _ rfl; have e1 := hSw.2.cell 1 _ rfl; have e2 := hSw.2.cell 2 _ rfl; have e3 := hSw.2.cell 3 _ rfl; have e4 := hSw.2.cell 4 _ rfl; go_simp⟩) (by first | trivial | assumption) ?_
        simp only [Act.put, List.getElem_toArray, List.getElem_cons_zero, List.getElem_cons_succ, List.setIfInBounds_toArray, List.set_cons_zero, List.set_cons_succ]
        refine wpAnyH_take (i := 6) (oi := _) (v := .bool true) rfl (by kernel_rfl) (by kernel_rfl) (by kernel_rfl) (fun _ _ _ h => h) (Or.inl ⟨by rfl, fun wS hSw => by go_simp⟩) (by first | trivial | assumption) ?_
        simp only [Act.put, List.getElem_toArray, List.getElem_cons_zero, List.getElem_cons_succ, List.setIfInBounds_toArray, List.set_cons_zero, List.set_cons_succ]
        refine wpAnyH_take (i := 7) (oi := _) (v := .bool true) rfl (by kernel_rfl) (by kernel_rfl) (by kernel_rfl) (fun _ _ _ h => h) (Or.inl ⟨by rfl, fun wS hSw => by go_simp⟩) (by first | trivial | assumption) ?_
        simp only [Act.put, List.getElem_toArray, List.getElem_cons_zero, List.getElem_cons_succ, List.setIfInBounds_toArray, List.set_cons_zero, List.set_cons_succ]
        refine wpAnyH_take (i := 8) (oi := _) (v := .slice (some ⟨g, 0, none⟩) K uc) rfl (by kernel_rfl) (by kernel_rfl) (by kernel_rfl) (fun _ _ _ h => h) (Or.inl ⟨by kernel_rfl, fun wS hSw => by skip; go_simp⟩) (by first | trivial | assumption) ?_
        simp only [Act.put, List.getElem_toArray, List.getElem_cons_zero, List.getElem_cons_succ, List.setIfInBounds_toArray, List.set_cons_zero, List.set_cons_succ]
        refine wpAnyH_take (i := 9) (oi := _) (v := .pointer (some ⟨g, 0, none⟩)) rfl (by kernel_rfl) (by kernel_rfl) (by kernel_rfl) (fun _ _ _ h => h) (Or.inl ⟨by kernel_rfl, fun wS hSw => by skip; go_simp⟩) (by first | trivial | assumption) ?_
        simp only [Act.put, List.getElem_toArray, List.getElem_cons_zero, List.getElem_cons_succ, List.setIfInBounds_toArray, List.set_cons_zero, List.set_cons_succ]
        refine wpAnyH_take (i := 10) (oi := _) (v := .pointer (some ⟨g, 6, none⟩)) rfl (by kernel_rfl) (by kernel_rfl) (by kernel_rfl) (fun _ _ _ h => h) (Or.inl ⟨by kernel_rfl, fun wS hSw => by skip; go_simp⟩) (by first | trivial | assumption) ?_
        simp only [Act.put, List.getElem_toArray, List.getElem_cons_zero, List.getElem_cons_succ, List.setIfInBounds_toArray, List.set_cons_zero, List.set_cons_succ]
        refine wpAnyH_take (i := 11) (oi := _) (v := .string (Ck.bs x.b)) rfl (by kernel_rfl) (by kernel_rfl) (by kernel_rfl) (fun _ _ _ h => h) (Or.inl ⟨by kernel_rfl, fun wS hSw => by have e6 : wS.cell? ⟨g, 6, none⟩ = some (.string (Ck.bs x.b)) := hSw.1 6 _ rfl; go_simp⟩) (by first | trivial | assumption) ?_
        simp only [Act.put, List.getElem_toArray, List.getElem_cons_zero, List.getElem_cons_succ, List.setIfInBounds_toArray, List.set_cons_zero, List.set_cons_succ]
        refine wpAnyH_take (i := 12) (oi := _) (v := .pointer (some ⟨N, 6, none⟩)) rfl (by kernel_rfl) (by kernel_rfl) (by kernel_rfl) (fun _ _ _ h => h) (Or.inl ⟨by kernel_rfl, fun wS hSw => by skip; go_simp⟩) (by first | trivial | assumption) ?_
        simp only [Act.put, List.getElem_toArray, List.getElem_cons_zero, List.getElem_cons_succ, List.setIfInBounds_toArray, List.set_cons_zero, List.set_cons_succ]
        refine wpAnyH_take (i := 13) (oi := _) (v := .string (Ck.bs x.b)) rfl (by kernel_rfl) (by kernel_rfl) (by kernel_rfl) (fun _ _ _ h => h) (Or.inl ⟨by kernel_rfl, fun wS hSw => by have e6 := hSw.2.cell 6 _ rfl; go_simp⟩) (by first | trivial | assumption) ?_
        simp only [Act.put, List.getElem_toArray, List.getElem_cons_zero, List.getElem_cons_succ, List.setIfInBounds_toArray, List.set_cons_zero, List.set_cons_succ]
        refine wpAnyH_take (i := 14) (oi := _) (v := .bool true) rfl (by kernel_rfl) (by kernel_rfl) (by kernel_rfl) (fun _ _ _ h => h) (Or.inl ⟨by kernel_rfl, fun wS hSw => by skip; go_simp⟩) (by first | trivial | assumption) ?_
        simp only [Act.put, List.getElem_toArray, List.getElem_cons_zero, List.getElem_cons_succ, List.setIfInBounds_toArray, List.set_cons_zero, List.set_cons_succ]
        refine wpAnyH_take (i := 15) (oi := _) (v := .bool true) rfl (by kernel_rfl) (by kernel_rfl) (by kernel_rfl) (fun _ _ _ h => h) (Or.inl ⟨by rfl, fun wS hSw => by go_simp⟩) (by first | trivial | assumption) ?_
        simp only [Act.put, List.getElem_toArray, List.getElem_cons_zero, List.getElem_cons_succ, List.setIfInBounds_toArray, List.set_cons_zero, List.set_cons_succ]
        refine wpAnyH_take (i := 16) (oi := _) (v := .bool true) rfl (by kernel_rfl) (by kernel_rfl) (by kernel_rfl) (fun _ _ _ h => h) (Or.inl ⟨by rfl, fun wS hSw => by go_simp⟩) (by first | trivial | assumption) ?_
        simp only [Act.put, List.getElem_toArray, List.getElem_cons_zero, List.getElem_cons_succ, List.setIfInBounds_toArray, List.set_cons_zero, List.set_cons_succ]
        refine wpAnyH_take (i := 17) (oi := _) (v := .func (.func 14) #[] #[]) rfl (by kernel_rfl) (by kernel_rfl) (by kernel_rfl) (fun _ _ _ h => h) (Or.inl ⟨by kernel_rfl, fun wS hSw => by skip; go_simp⟩) (by first | trivial | assumption) ?_
        simp only [Act.put, List.getElem_toArray, List.getElem_cons_zero, List.getElem_cons_succ, List.setIfInBounds_toArray, List.set_cons_zero, List.set_cons_succ]
        refine wpAnyH_take (i := 18) (oi := _) (v := .slice (some ⟨g, 0, none⟩) K uc) rfl (by kernel_rfl) (by kernel_rfl) (by kernel_rfl) (fun _ _ _ h => h) (Or.inl ⟨by kernel_rfl, fun wS hSw => by skip; go_simp⟩) (by first | trivial | assumption) ?_
        simp only [Act.put, List.getElem_toArray, List.getElem_cons_zero, List.getElem_cons_succ, List.setIfInBounds_toArray, List.set_cons_zero, List.set_cons_succ]
        refine wpAnyH_take (i := 19) (oi := _) (v := .pointer (some ⟨g, 0, none⟩)) rfl (by kernel_rfl) (by kernel_rfl) (by kernel_rfl) (fun _ _ _ h => h) (Or.inl ⟨by kernel_rfl, fun wS hSw => by skip; go_simp⟩) (by first | trivial | assumption) ?_
        simp only [Act.put, List.getElem_toArray, List.getElem_cons_zero, List.getElem_cons_succ, List.setIfInBounds_toArray, List.set_cons_zero, List.set_cons_succ]
        refine wpAnyH_take (i := 20) (oi := _) (v := .pointer (some ⟨g, 5, none⟩)) rfl (by kernel_rfl) (by kernel_rfl) (by kernel_rfl) (fun _ _ _ h => h) (Or.inl ⟨by kernel_rfl, fun wS hSw => by skip; go_simp⟩) (by first | trivial | assumption) ?_
        simp only [Act.put, List.getElem_toArray, List.getElem_cons_zero, List.getElem_cons_succ, List.setIfInBounds_toArray, List.set_cons_zero, List.set_cons_succ]
        refine wpAnyH_take (i := 21) (oi := _) (v := .slice xa (wmL x c).length xc) rfl (by kernel_rfl) (by kernel_rfl) (by kernel_rfl) (fun _ _ _ h => h) (Or.inl ⟨by kernel_rfl, fun wS hSw => by have e5 : wS.cell? ⟨g, 5, none⟩ = some (.slice xa (wmL x c).length xc) := hSw.1 5 _ rfl; go_simp⟩) (by first | trivial | assumption) ?_
        simp only [Act.put, List.getElem_toArray, List.getElem_cons_zero, List.getElem_cons_succ, List.setIfInBounds_toArray, List.set_cons_zero, List.set_cons_succ]
        refine wpAnyH_take (i := 23) (oi := _) (v := .func (.func 14) #[] #[]) rfl (by kernel_rfl) (by kernel_rfl) (by kernel_rfl) (fun _ _ _ h => h) (Or.inl ⟨by kernel_rfl, fun wS hSw => by skip; go_simp⟩) (by first | trivial | assumption) ?_
        simp only [Act.put, List.getElem_toArray, List.getElem_cons_zero, List.getElem_cons_succ, List.setIfInBounds_toArray, List.set_cons_zero, List.set_cons_succ]
        refine wpAnyH_take (i := 24) (oi := _) (v := .pointer (some ⟨N, 5, none⟩)) rfl (by kernel_rfl) (by kernel_rfl) (by kernel_rfl) (fun _ _ _ h => h) (Or.inl ⟨by kernel_rfl, fun wS hSw => by skip; go_simp⟩) (by first | trivial | assumption) ?_
        simp only [Act.put, List.getElem_toArray, List.getElem_cons_zero, List.getElem_cons_succ, List.setIfInBounds_toArray, List.set_cons_zero, List.set_cons_succ]
        refine wpAnyH_take (i := 25) (oi := _) (v := .slice va x.L.length vc) rfl (by kernel_rfl) (by kernel_rfl) (by kernel_rfl) (fun _ _ _ h => h) (Or.inl ⟨by kernel_rfl, fun wS hSw => by have e5 := hSw.2.cell 5 _ rfl; go_simp⟩) (by first | trivial | assumption) ?_
        simp only [Act.put, List.getElem_toArray, List.getElem_cons_zero, List.getElem_cons_succ, List.setIfInBounds_toArray, List.set_cons_zero, List.set_cons_succ]
        have hdr : Below w9.heap.size w9 w9.drew := ⟨rfl, rfl, rfl, Nat.le_refl _, fun _ _ => rfl⟩
        refine wpAnyH_ready (rs := [22]) (by kernel_rfl) (by simp) ?_
        refine AllReadyH.cons (o := _) rfl (fun K hK => ?_) AllReadyH.nil
        go_simp
        refine (samef_any (wmL x c) (.slice xa (wmL x c).length xc) _ (HR9.out.2.1.below hdr) (Nat.le_trans HK.out.2.2.1 (by decide)) HK.out.2.2.2).mono ?_
        rintro en wa ⟨r1, rfl, hO1, hba⟩
        have hba' := hdr.trans (hba.mono hdr.size)
        have hXa := hX.below hba'
        have hRa := range_below HR9.out.2.2.1 HR9.out.2.2.2 hba'
        have hga := Nat.lt_of_lt_of_le HR9.out.2.2.2 hba'.size
        go_simp
        refine hK.out _ _ (⟨hRa, hXa⟩) (fun hHeld => ?_)
        clear hK K
        refine wpAnyH_ready (rs := [26]) (by kernel_rfl) (by simp) ?_
        refine AllReadyH.cons (o := _) rfl (fun K hK => ?_) AllReadyH.nil
        go_simp
        refine (samef_any x.L (.slice va x.L.length vc) _ (HR9.out.1.below hba') (Nat.le_trans HS.out.2.2.1 (by decide)) HS.out.2.1).mono ?_
        rintro en wb ⟨r2, rfl, hO2, hbb⟩
        have hXb := hXa.below hbb
        have hRb := range_below hRa hga hbb
        have hgb := Nat.lt_of_lt_of_le hga hbb.size
        go_simp
        refine hK.out _ _ (⟨hRb, hXb⟩) (fun hHeld => ?_)
        clear hK K
        refine wpAnyH_ready (rs := [27]) (by kernel_rfl) (by simp) ?_
        refine AllReadyH.cons (o := _) rfl (fun K hK => ?_) AllReadyH.nil
        go_simp
        refine (like_same (dlF x.L) r1 r2 _ (by have := hO1.row.below hbb; rwa [HK.out.2.1] at this) hO2.row (Nat.le_trans (dl_le x.L) (Nat.le_trans HS.out.2.2.1 (by decide)))).mono ?_
        rintro en wd ⟨rfl, hbd⟩
        go_simp
        refine hK.out _ _ (⟨range_below hRb hgb hbd, hXb.below hbd⟩) (fun hHeld => ?_)
        clear hK K
        refine wpAnyH_take (i := 28) (oi := _) (v := .bool true) rfl (by kernel_rfl) (by kernel_rfl) (by kernel_rfl) (fun _ _ _ h => h) (Or.inl ⟨by rfl, fun wS hSw => by go_simp⟩) (by first | trivial | assumption) ?_
        simp only [Act.put, List.getElem_toArray, List.getElem_cons_zero, List.getElem_cons_succ, List.setIfInBounds_toArray, List.set_cons_zero, List.set_cons_succ]
        refine wpAnyH_take (i := 29) (oi := _) (v := .bool true) rfl (by kernel_rfl) (by kernel_rfl) (by kernel_rfl) (fun _ _ _ h => h) (Or.inl ⟨by rfl, fun wS hSw => by go_simp⟩) (by first | trivial | assumption) ?_
        simp only [Act.put, List.getElem_toArray, List.getElem_cons_zero, List.getElem_cons_succ, List.setIfInBounds_toArray, List.set_cons_zero, List.set_cons_succ]
        refine wpAnyH_done (by kernel_rfl) ?_ _
        go_wp2_with fail
        go_ret
        have hB1 := hB.trans (hba'.mono hB.size)
        have hB2 := hB1.trans (hbb.mono hB1.size)
        exact ⟨rfl, hB2.trans (hbd.mono hB2.size)⟩
    · clear HBK HIX HK c2 c4
      go_wp2_with fail
      refine (alive_any _).mono ?_
      rintro en w6 ⟨rfl, hb6⟩
      go_wp2_with fail
      go_ret
      exact ⟨rfl, hB.trans (hb6.mono hB.size)⟩
  · have hS : wmS x c = ⟨#[]⟩ := by unfold wmS; rw [if_neg hE]
    rw [hS]
    have e1 : (wmE x c == 0) = false := by simpa using hE
    have e2 : (wmE x c != 0) = true := by simpa using hE
    generalize wmE x c = E at e1 e2 ⊢
    clear hE hS HS HM
    go_wp2_with fail
    refine (alive_any _).mono ?_
    rintro en w6 ⟨rfl, hb6⟩
    go_wp2_with fail
    go_ret
    exact ⟨rfl, hB.trans (hb6.mono hB.size)⟩

end Go.Proofs.YtmpijlaidnhpnaaGreatDoor

namespace Go.Proofs.YtmpijlaidnhpnaaGreatDoor
set_option linter.unusedVariables false
set_option linter.unusedSimpArgs false
open Go.ChangeShapes Go.WideShapes Go.ChangeAt Go.RowKit Go.Joins
open Go.ChangeMaps (open_string shut_string)

set_option maxRecDepth 100000 in
theorem back_lifted (os : Os) (started : os.Started) (H : Type) (enc : TypeId × Value → H) :
    ReturnsInHanded {} Tryz.checked os 4 .any (fun w args => (Rows.wireBackSpec.pre enc Tryz.prog Tryz.f4 [] false w args ∧ laidMetH Tryz.prog laid3 w) ∧ sizedMet enc Tryz.prog Tryz.f4 (OpenSpec.ofChange Rows.wireBackSpec) false w args)
      (Rows.wireBackSpec.post enc Tryz.prog Tryz.f4 false true false false) := by
  refine change_and_shaped (C := Tryz.checked) (X := fun w _ => laidMetH Tryz.prog laid3 w) (fun _ _ _ hh h => h.of_heap hh) own started (by kernel_rfl) Tryz.func4
    (ChangeSpec.witness_shaped (enc := enc) (C := Tryz.checked) (os := os) (X := fun w _ => laidMetH Tryz.prog laid3 w) false (World.doorLaid Tryz.prog 24 os) #[.agg #[.string ⟨#[]⟩, .string ⟨#[]⟩, .int .i64 0, .string ⟨#[]⟩, .int .i64 0, .slice none 0 0, .string ⟨#[]⟩], .bool false, .string ⟨#[]⟩] 8 rfl (World.shaped_of_RefB (by kernel_rfl) (by kernel_rfl)) (by kernel_rfl) (by kernel_rfl) (by kernel_rfl) (door_met os _)) ?_
  intro W base args ds gs before hval0 hW hL hSh
  have hval : ∀ (j : Nat) t v, Tryz.f4.params[j]? = some t → args[j]? = some v → Value.okWide Tryz.prog W .any base t v := hval0
  have hW' := hW
  obtain ⟨p, q, hA0, hV, rfl, hfz, hnd⟩ := hW
  have hA : DataW.TrodAll enc Tryz.prog W 0 (fun _ => true) true Tryz.f4.params.toList args.toList ds p := hA0
  rw [Tryz.params4] at hA hval
  obtain ⟨v0, vs0, d0, ds0, p0, q0, hargs, rfl, rfl, h0, r0⟩ := trodAll_cons hA
  obtain ⟨v1, vs1, d1, ds1, p1, q1, rfl, rfl, rfl, h1, r1⟩ := trodAll_cons r0
  obtain ⟨v2, vs2, d2, ds2, p2, q2, rfl, rfl, rfl, h2, r2⟩ := trodAll_cons r1
  obtain ⟨rfl, rfl, rfl⟩ := trodAll_nil r2
  obtain rfl : args = #[v0, v1, v2] := by cases args; simp_all
  obtain ⟨rfl, rfl⟩ := trodVars_none hV
  have k0 := h0
  have lt0 : ∀ x ∈ p0, x.block < W.heap.size := by obtain ⟨m, hm⟩ := k0; exact DataW.trod_lt m _ _ _ hm
  have k1 := h1
  have lt1 : ∀ x ∈ p1, x.block < W.heap.size := by obtain ⟨m, hm⟩ := k1; exact DataW.trod_lt m _ _ _ hm
  have k2 := h2
  have lt2 : ∀ x ∈ p2, x.block < W.heap.size := by obtain ⟨m, hm⟩ := k2; exact DataW.trod_lt m _ _ _ hm
  obtain ⟨sm0, st0, sc0, sr0, sn0, L0, bb0, ad0, cap0, rfl, hrow0, hcap0, hshort0, hm0, ht0, hr0, hb0⟩ := open_message (hval 0 26 v0 rfl rfl) h0
  obtain ⟨x1, rfl, -, -⟩ := open_bool Tryz.underlying4 (hval 1 4 v1 rfl rfl) h1
  obtain ⟨s2, rfl, -, -, ws2⟩ := open_string Tryz.underlying9 (hval 2 9 v2 rfl rfl) h2
  have hT := tabs_of hL
  obtain ⟨mx, hmx⟩ := maxlen_of hSh
  clear hA0 hval0
  refine (back_walk sm0 st0 sc0 sr0 sn0 L0 bb0 ad0 cap0 x1 s2 W hrow0 hcap0 hshort0 hm0 ht0 hr0 hb0 ws2 hT mx hmx).mono fun e W' ⟨he, bel⟩ => ?_
  subst he
  exact ⟨_, rfl, _, _, _, [], _, [], hW', trodAll_mk1 (shut_bool Tryz.underlying4 _), (trodAll_cons_mk (Below.trod laidOut (by kernel_rfl) (of_decide_eq_true (by kernel_rfl)) k0 bel lt0) (trodAll_cons_mk (Below.trod laidOut (by kernel_rfl) (of_decide_eq_true (by kernel_rfl)) k1 bel lt1) (trodAll_cons_mk (Below.trod laidOut (by kernel_rfl) (of_decide_eq_true (by kernel_rfl)) k2 bel lt2) trodAll_mk0))), rfl, bel.frame _, fun h => by cases h⟩

theorem back_row : Rows.WireBackSaid :=
  OpenClaim.holds_of_wide 4 Tryz.f4 rfl rfl rfl rfl rfl rfl rfl ⟨rfl, rfl, rfl, rfl, rfl⟩ rfl rfl rfl rfl rfl (by kernel_rfl) Tryz.func4 (by kernel_rfl)
    (of_decide_eq_true (by kernel_rfl)) (by unfold Func.isWrapper; first | (rw [if_pos (by decide +kernel)]; kernel_rfl) | (rw [if_neg (by decide +kernel)]; exact ⟨rfl, rfl⟩))
    (fun os started H enc _ => back_lifted os started H enc)

theorem back_holds : Rows.WireBackCardSaid :=
  Claim7.holds_tied_plain_at .later [] [.data, .data, .data] true (true, "a603b6b9b9401121a7b687d27458eabfe861105e2f95f3117fb00a0d67a9a931") false
    back_row (fun _ h => by cases h) (by kernel_rfl) (fun _ h => by cases h) wireBack_row_tie rfl ⟨rfl, rfl⟩ (by kernel_rfl) rfl
    (fun f fn hf hfn => by
      obtain rfl : f = 4 := Option.some.inj ((show Tryz.prog.funcNamed "intarsia/intarsialaw10.WireBack" = some 4 by kernel_rfl).symm.trans hf) |>.symm
      obtain rfl : fn = Tryz.f4 := (Option.some.inj (Tryz.func4.symm.trans hfn)).symm
      exact ⟨by kernel_rfl, fun j t ht => by
        rw [Tryz.params4] at ht
        have hm : t ∈ [26, 4, 9] := by simpa using Array.mem_of_getElem? ht
        have hall : ([26, 4, 9].all fun u => !Tryz.prog.wantsStandIn u) = true := by kernel_rfl
        exact (show Tryz.prog.wantsStandIn t = false by simpa using List.all_eq_true.1 hall t hm)⟩)
    (by kernel_rfl)

end Go.Proofs.YtmpijlaidnhpnaaGreatDoor
