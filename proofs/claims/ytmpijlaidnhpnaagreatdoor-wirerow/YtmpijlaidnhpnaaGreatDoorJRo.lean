/- A row of texts as it is handed in. The walk of WireRow. WireRow returns true for every row of texts and every two of yes or no that can be handed in, and leaves its arguments as they were. The condition that its card bears: the listed tables of the library hold what their initialisers lay. -/
import Derived.Test.YtmpijlaidnhpnaaGreatDoorRows
import Derived.Test.YtmpijlaidnhpnaaGreatDoorJMa
import Derived.ProofKit
import Derived.SliceStrings
import Derived.OpenShut
import Derived.ShutString
import Derived.ChangeOld
import Derived.Below
import Derived.Lib.SmallJoins
import Derived.Test.YtmpijlaidnhpnaaGreatDoorJXs
import Derived.Test.YtmpijlaidnhpnaaGreatDoorCards
import Derived.Test.YtmpijlaidnhpnaaGreatDoorTie
import Derived.Test.YtmpijlaidnhpnaaGreatDoorJOp
import Derived.LaidMore
import Derived.Stop.Joined
import Derived.SevenTiedAt
namespace Go.Proofs.YtmpijlaidnhpnaaGreatDoor
set_option linter.unusedVariables false
set_option linter.unusedSimpArgs false
open Go.ChangeShapes Go.WideShapes Go.ChangeAt Go.RowKit Go.Joins
open Go.ChangeMaps (open_string shut_string)

theorem open_row {H : Type} {enc : TypeId × Value → H} {W : World} {fuel : Nat} {ad : Option Addr} {len cap : Nat} {x : DataW H × List MemPlace}
    (h : DataW.trod enc Tryz.prog W 0 (fun _ => true) true fuel 48 [.slice ad len cap] = some x) :
    ∃ (B off : Nat) (S : Nat → ByteArray), len ≤ cap ∧ cap ≤ maxLen ∧ ∀ i, i < len → ad = some ⟨B, off, none⟩ ∧ B < W.heap.size ∧ W.cell? ⟨B, off + i, none⟩ = some (.string (S i)) ∧ (S i).size ≤ maxLen := by
  rcases open_strings Tryz.underlying48 Tryz.underlying9 (by kernel_rfl) h with ⟨hcs, _⟩ | ⟨a, len', cap', ss, hcs, hb, hl, hm, hz, hx, hcell, hws⟩
  · simp at hcs
    obtain ⟨rfl, rfl, rfl⟩ := hcs
    exact ⟨0, 0, fun _ => ⟨#[]⟩, Nat.le_refl _, Nat.zero_le _, fun i hi => absurd hi (Nat.not_lt_zero _)⟩
  · simp at hcs
    obtain ⟨rfl, rfl, rfl⟩ := hcs
    simp at hz
    refine ⟨a.block, a.off, fun i => ss.getD i ByteArray.empty, hl, hm, fun i hi => ?_⟩
    have hsp : a.spot = none := by
      have z0 := hcell 0 (by omega)
      have e : a.add 0 = a := by simp [Addr.add]
      rw [e] at z0
      exact spot_none z0
    have hc := hcell i (by omega)
    obtain ⟨B, off, sp⟩ := a
    simp only at hsp
    subst hsp
    rw [add_none] at hc
    refine ⟨rfl, block_lt_of_cell (a := ⟨B, off + i, none⟩) hc, hc, ?_⟩
    apply hws
    show ss.getD i ByteArray.empty ∈ ss
    rw [List.getD_eq_getElem?_getD, List.getElem?_eq_getElem (by omega)]
    exact List.getElem_mem _

end Go.Proofs.YtmpijlaidnhpnaaGreatDoor

namespace Go.Proofs.YtmpijlaidnhpnaaGreatDoor
set_option linter.unusedVariables false
set_option linter.unusedSimpArgs false
set_option maxRecDepth 100000
open Go.RowKit

def cutS (x : ByteArray) : ByteArray := x.extract 0 (min (x.size : Int) 500).toNat
theorem cutS_le (x : ByteArray) : (cutS x).data.toList.length ≤ 500 := by
  rw [size_list']
  unfold cutS
  rw [ByteArray.size_extract]; omega
def rwS (a : Bool) : St := if a then poS else ⟨⟨#[]⟩, ⟨#[]⟩, 200, ⟨#[]⟩, 1⟩
theorem rw_right (a : Bool) : rtB (rwS a) = true := by cases a <;> kernel_rfl
theorem rw_code (a : Bool) : decide ((rwS a).c = 0) = a := by cases a <;> rfl
theorem rw_bare (a : Bool) : (rwS a).c = 0 ∨ bareB (rwS a).c = false := by
  cases a
  · exact Or.inr (by kernel_rfl)
  · exact Or.inl rfl
theorem rw_minor (a : Bool) : (rwS a).n ≠ 0 := by cases a <;> decide
/-- The message of a text; all of them, written one behind the other; what they are read as. -/
def rwM (a : Bool) (x : ByteArray) : Ms := ⟨rwS a, [], (cutS x).data.toList⟩
def rwA (a c : Bool) (S : Nat → ByteArray) (k : Nat) : List UInt8 := (List.range k).flatMap fun i => (wmT (rwM a (S i)) c).data.toList
def rwL (a c : Bool) (S : Nat → ByteArray) (k : Nat) : List Ms := (List.range k).map fun i => ⟨rwS a, wmL (rwM a (S i)) c, (cutS (S i)).data.toList⟩
theorem rwA_succ (a c : Bool) (S : Nat → ByteArray) (k : Nat) : rwA a c S (k + 1) = rwA a c S k ++ (wmT (rwM a (S k)) c).data.toList := by
  unfold rwA; rw [List.range_succ, List.flatMap_append]; simp
theorem rwL_succ (a c : Bool) (S : Nat → ByteArray) (k : Nat) : rwL a c S (k + 1) = rwL a c S k ++ [⟨rwS a, wmL (rwM a (S k)) c, (cutS (S k)).data.toList⟩] := by
  unfold rwL; rw [List.range_succ, List.map_append]; rfl
theorem rwL_len (a c : Bool) (S : Nat → ByteArray) (k : Nat) : (rwL a c S k).length = k := by unfold rwL; simp
theorem rwL_at (a c : Bool) (S : Nat → ByteArray) {k j : Nat} (h : j < k) : (rwL a c S k)[j]? = some ⟨rwS a, wmL (rwM a (S j)) c, (cutS (S j)).data.toList⟩ := by
  unfold rwL; rw [List.getElem?_map, List.getElem?_range h]; rfl
theorem rw_ok (a c : Bool) (x : ByteArray) : wmE (rwM a x) c = 0 ∧ (hdW (rwS a) (wmL (rwM a x) c)).length ≤ 4000 := small_ok (rw_right a) (cutS_le x) c
theorem rwT_le (a c : Bool) (x : ByteArray) : (wmT (rwM a x) c).data.toList.length ≤ 4600 := by
  have h := (rw_ok a c x).2
  have hb := cutS_le x
  rw [wmT_list, List.length_append, wmB_list]
  cases c
  · rw [if_neg (by decide)]
    show (hdW (rwS a) _).length + (cutS x).data.toList.length ≤ 4600
    omega
  · have := Ck.encL_len (cutS x).data.toList (by omega)
    rw [if_pos rfl, List.length_append, show Ck.endL.length = 5 from rfl]
    show (hdW (rwS a) _).length + ((Ck.encL (cutS x).data.toList).length + 5) ≤ 4600
    omega
theorem rwA_le (a c : Bool) (S : Nat → ByteArray) : ∀ k, (rwA a c S k).length ≤ 4600 * k
  | 0 => by simp [rwA]
  | k + 1 => by
    have h1 := rwA_le a c S k
    have h2 := rwT_le a c (S k)
    rw [rwA_succ, List.length_append]; omega
theorem rw_fd (a c : Bool) (S : Nat → ByteArray) : ∀ k, fdG (fresh a ⟨#[71, 69, 84]⟩ []) (rwA a c S k) = (fresh a ⟨#[71, 69, 84]⟩ [], rwL a c S k)
  | 0 => by
    have : rwA a c S 0 = [] := rfl
    rw [this]
    unfold fdG
    rw [if_neg (show ¬ (fresh a ⟨#[71, 69, 84]⟩ []).e ≠ 0 from fun e => e rfl), app_nil, go_none]; rfl
  | k + 1 => by
    obtain ⟨h1, h2⟩ := rw_ok a c (S k)
    have hb := back_go (m := rwM a (S k)) (c := c) (t := ⟨#[71, 69, 84]⟩) h1 h2 (rw_bare a) (fun _ => rw_minor a) (by kernel_rfl)
    change fdG (fresh (decide ((rwS a).c = 0)) _ []) _ = (fresh (decide ((rwS a).c = 0)) _ [], _) at hb
    rw [rw_code] at hb
    rw [rwA_succ, fd_cut (rg_fresh _ _), rw_fd a c S k]
    simp only
    rw [hb, rwL_succ]; rfl
theorem rw_one (a c : Bool) (x : ByteArray) : (wmL (rwM a x) c).length = 1 := by
  have h4 := (wm_okay (rw_ok a c x).1).2.2.2.1
  have hd0 : dlF [] = [] := rfl
  cases c
  · change wiE [] 1 _ = 0 at h4
    show (wiL [] 1 _).length = 1
    have hr := wi_okay h4
    have hb : (rightF [] && rbB 1 (wmZ (rwM a x) false)) = true := by
      unfold rbB
      rw [hr.1, decide_eq_true hr.2.1, decide_eq_true hr.2.2.1]; rfl
    have e := wi_one hb rfl
    rw [e.1] at h4
    rw [e.2, (add_zero h4).2.2.2, hd0]; rfl
  · change wiE [] 2 _ = 0 at h4
    show (wiL [] 2 _).length = 1
    have hr := wi_okay h4
    have hb : (rightF [] && rbB 2 (wmZ (rwM a x) true)) = true := by
      unfold rbB
      rw [hr.1, decide_eq_true hr.2.1, decide_eq_true hr.2.2.1]; rfl
    have e := wi_two hb rfl
    rw [e.1] at h4
    rw [e.2, (add_zero h4).2.2.2, hd0]; rfl

theorem wpList_build_want {P : Program} {ops : Array Oper} {rest : List Oper} {o : Oper} {a : Act} {w : World} {Q : Exit → Act → World → Prop} (hg : Region.wanted o (yielded ops a.tmps) = true) (t : TypeId) (parts : Array (Nat × Operand)) (ho : o.op = .build t parts) (cells : Array Value)
    (hv : P.built t (parts.map fun (i, x) => (i, a.eval x)).toList = some cells)
    (h : wpList P ops Q rest (a.put o.dst (.agg cells)) w) : wpList P ops Q (o :: rest) a w := by
  unfold wpList
  rw [if_pos hg]
  refine Or.inl (wp_build t parts ho (by rw [hv]; rfl) ?_)
  rw [hv]
  exact h

set_option maxHeartbeats 16000000 in
theorem row_walk (ad : Option Addr) (B off len cap : Nat) (S : Nat → ByteArray) (asks chunks : Bool) (w : World) (hlc : len ≤ cap) (hcap : cap ≤ maxLen)
    (hS : ∀ i, i < len → ad = some ⟨B, off, none⟩ ∧ B < w.heap.size ∧ w.cell? ⟨B, off + i, none⟩ = some (.string (S i)) ∧ (S i).size ≤ maxLen) (ht : TT w) :
    Calls Tryz.prog 5 #[.slice ad len cap, .bool asks, .bool chunks] w fun en w' => en = .returned (.bool true) ∧ Below w.heap.size w w' := by
  unfold maxLen at hcap
  have HS := hide hS
  have HT := hide ht
  clear hS ht
  obtain ⟨p, hp, hp2, hp3⟩ : ∃ p : Nat, min (len : Int) 8 = (p : Int) ∧ p ≤ 8 ∧ p ≤ len := ⟨(min (len : Int) 8).toNat, by omega, by omega, by omega⟩
  have hpi : (p : Int) ≤ (cap : Int) := by omega
  go_enter Tryz.func5, Tryz.ntmps5
  have hX : Blk (w.alloc (.cells #[.string ⟨#[]⟩, .string ⟨#[]⟩, .int .i64 200, .string ⟨#[]⟩, .int .i64 1, .slice none 0 0, .string ⟨#[]⟩] 26)) w.heap.size 26 [.string ⟨#[]⟩, .string ⟨#[]⟩, .int .i64 200, .string ⟨#[]⟩, .int .i64 1, .slice none 0 0, .string ⟨#[]⟩] := Blk.new w 26 _
  have hB : Below w.heap.size w (w.alloc (.cells #[.string ⟨#[]⟩, .string ⟨#[]⟩, .int .i64 200, .string ⟨#[]⟩, .int .i64 1, .slice none 0 0, .string ⟨#[]⟩] 26)) := (Below.refl _ _).alloc (Nat.le_refl _) _
  go_upto_if 25 with fail
  generalize World.alloc _ _ = W1 at hX hB ⊢
  generalize hNN : w.heap.size = N at hX ⊢
  go_cut [8] (fun s8 wc => s8 = .pointer (some ⟨N, 0, none⟩) ∧ Blk wc N 26 [.string (rwS asks).m, .string (rwS asks).t, .int .i64 (rwS asks).c, .string (rwS asks).r, .int .i64 (rwS asks).n, .slice none 0 0, .string ⟨#[]⟩] ∧ Below w.heap.size w wc)
  case first =>
    have hth := hX.there 0 5 (show 0 + 5 ≤ 7 by decide)
    have hO := only_sets [.string ⟨#[80, 79, 83, 84]⟩, .string ⟨#[47]⟩, .int .i64 0, .string ⟨#[]⟩, .int .i64 1] 0 (only_refl W1 N)
    have hX2 := hX.sets [.string ⟨#[80, 79, 83, 84]⟩, .string ⟨#[47]⟩, .int .i64 0, .string ⟨#[]⟩, .int .i64 1] 0 (show 0 + 5 ≤ 7 by decide)
    have hB2 := hB.trans (below_only hO (Nat.le_of_eq hNN) hB.size)
    have HP := hide (And.intro hX2 hB2)
    clear hO hX2 hB2
    cases asks
    · go_wp2_with fail
      go_meet
      exact ⟨rfl, hX, hB⟩
    · go_wp2_with (refine wpList_store_mid rfl 23 (.tmp 27) (.tmp 26) rfl N 0 #[.string ⟨#[80, 79, 83, 84]⟩, .string ⟨#[47]⟩, .int .i64 0, .string ⟨#[]⟩, .int .i64 1] rfl rfl hth (by kernel_rfl) (by simp [Value.oneCell']) ?_; obtain ⟨hX3, hB3⟩ := HP.out; generalize World.setCells _ _ _ _ = W3 at hX3 hB3 ⊢; clear HP hth)
      go_meet
      exact ⟨rfl, hX3, hB3⟩
  case rest =>
  obtain ⟨rfl, hX, hB⟩ := hcut
  go_wp2_with fail
  go_loopw [7, 10, 11, 12, 30] (fun al _ _ _ i wr => ∃ (k : Nat) (b : ByteArray), k ≤ p ∧ i = .int .i64 k ∧ al = .string (Ck.bs (rwA asks chunks S k)) ∧ Blk wr N 26 [.string (rwS asks).m, .string (rwS asks).t, .int .i64 (rwS asks).c, .string (rwS asks).r, .int .i64 (rwS asks).n, .slice none 0 0, .string b] ∧ Below w.heap.size w wr) (fun _ _ _ _ i _ => p - (intOf i).toNat)
  case atStart => exact ⟨0, ⟨#[]⟩, Nat.zero_le _, rfl, rfl, hX, hB⟩
  case round =>
    obtain ⟨k, b, hk, rfl, rfl, hX, hB⟩ := hrel
    by_cases hlt : k < p
    · have hltz : (k : Int) < p := by omega
      obtain ⟨rfl, hBl, hcell, hsz⟩ := HS.out k (by omega)
      have hc := (hB.cell (p := ⟨B, off + k, none⟩) hBl).trans hcell
      unfold maxLen at hsz
      obtain ⟨q, hq, hq2, hq3⟩ : ∃ q : Nat, min ((S k).size : Int) 500 = (q : Int) ∧ q ≤ 500 ∧ q ≤ (S k).size := ⟨(min ((S k).size : Int) 500).toNat, by omega, by omega, by omega⟩
      have hqi : (q : Int) ≤ ((S k).size : Int) := by omega
      have hcut : (S k).extract 0 q = cutS (S k) := by unfold cutS; rw [hq]; rfl
      have c6 := hX.cell 6 _ rfl
      have f6 := hX.fz 6
      have hX2 : Blk (wr.setCell ⟨N, 6, none⟩ (.string (cutS (S k)))) N 26 [.string (rwS asks).m, .string (rwS asks).t, .int .i64 (rwS asks).c, .string (rwS asks).r, .int .i64 (rwS asks).n, .slice none 0 0, .string (cutS (S k))] := hX.set 6 (by simp) (.string (cutS (S k)))
      have hB2 := hB.setCell (p := ⟨N, 6, none⟩) (Nat.le_of_eq hNN) (.string (cutS (S k)))
      have HP := hide (And.intro hX2 hB2)
      obtain ⟨k1, k2⟩ := rw_ok asks chunks (S k)
      have hw := fun W hT => wwrite_any (rwM asks (S k)) (.slice none 0 0) chunks W (Row.nil W) (rt_short (rw_right asks)) (show 0 ≤ 50 by decide) sh_nil (Nat.le_trans (cutS_le (S k)) (by decide)) hT
      rw [k1, (wm_okay k1).2.2.2.2.2] at hw
      have hl1 := rwA_le asks chunks S k
      have hl2 := rwT_le asks chunks (S k)
      rw [size_list'] at hl2
      have hl3 : (Ck.bs (rwA asks chunks S k)).size ≤ 36800 := by rw [Ck.bs_size]; omega
      have hsu : Ck.bs (rwA asks chunks S k) ++ wmT (rwM asks (S k)) chunks = Ck.bs (rwA asks chunks S (k + 1)) := bytes_ext (by rw [app_bytes, Ck.bs_list, Ck.bs_list, rwA_succ])
      have HSU := hide hsu
      have HW := hide hw
      clear hX hB hX2 hB2 k1 k2 hw hsu hl1 hBl hcell
      generalize wmT (rwM asks (S k)) chunks = TX at hl2 HSU HW
      go_upto_region 10 with fail
      try rw [hcut]
      obtain ⟨hX, hB⟩ := HP.out
      clear HP c6 f6 hc
      generalize World.setCell _ _ _ = W5 at hX hB ⊢
      have HT5 := hide (HT.out.below hB)
      go_wp2_with (refine wpList_load_mid rfl 26 (.tmp 8) rfl N 0 rfl [.string (rwS asks).m, .string (rwS asks).t, .int .i64 (rwS asks).c, .string (rwS asks).r, .int .i64 (rwS asks).n, .slice none 0 0, .string (cutS (S k))] _ (hX.range 0 7) Tryz.underlying26 rfl (by kernel_rfl) ?_)
      refine (show Calls Tryz.prog 8 #[.agg #[.string (rwS asks).m, .string (rwS asks).t, .int .i64 (rwS asks).c, .string (rwS asks).r, .int .i64 (rwS asks).n, .slice none 0 0, .string (cutS (S k))], .bool chunks] W5 _ from by have := HW.out _ HT5.out; unfold Ms.v rwM at this; simp only [bs_back] at this; exact this).mono ?_
      rintro en w6 ⟨rfl, hb6⟩
      replace hX := hX.below hb6
      replace hB := hB.trans (hb6.mono hB.size)
      clear HW hb6 HT5
      go_wp2_with fail
      refine ⟨⟨k + 1, cutS (S k), by omega, by go_num, by rw [HSU.out], hX, hB⟩, by simp [intOf]; omega⟩
    · have hkp : k = p := by omega
      subst hkp
      have hl1 := rwA_le asks chunks S k
      have hf := fun W => feed_fresh asks ⟨#[71, 69, 84]⟩ (rwA asks chunks S k) W (by omega)
      rw [rw_fd] at hf
      have HF := hide hf
      clear hf hp hpi
      go_wp2_with fail
      refine (new_any asks ⟨#[71, 69, 84]⟩ _).mono ?_
      rintro en w2 ⟨rfl, hb2⟩
      go_wp2_with fail
      refine (HF.out _).mono ?_
      rintro en w3 ⟨⟨va, vc, u, l, rfl, hFR, hM, hl⟩, hb3⟩
      have hlen : l.length = k := by have := congrArg List.length hl; rwa [List.length_map, rwL_len] at this
      have hMr := hM.mrow
      obtain ⟨ua, uc, hu, hcu, -⟩ := hM.mrow
      rw [hlen] at hu hcu
      subst hu
      have hb23 := hb2.trans (hb3.mono hb2.size)
      replace hX := hX.below hb23
      replace hB := hB.trans (hb23.mono hB.size)
      have HM := hide (And.intro hMr hFR.row)
      have HL := hide (And.intro hlen hl)
      clear hM hMr hFR hb2 hb3 hb23 HF hlen hl hl1
      go_upto_region 16 with (refine boxed rfl rfl _ rfl rfl _ rfl rfl ((fresh asks ⟨#[71, 69, 84]⟩ []).cs (.slice va 0 vc)) rfl (by kernel_rfl) rfl rfl ?_; intro W4 hY hBW)
      replace hX := hX.below hBW
      replace hB := hB.trans (hBW.mono hB.size)
      have HM4 := hide (And.intro (HM.out.1.below hBW) (HM.out.2.below hBW))
      clear hBW HM
      generalize w3.heap.size = N2 at hY ⊢
      go_wp2_with (first | (refine wpList_load_want (by kernel_rfl) 39 (.tmp 13) rfl N2 0 rfl ((fresh asks ⟨#[71, 69, 84]⟩ []).cs (.slice va 0 vc)) _ (hY.range 0 18) Tryz.underlying39 rfl (by kernel_rfl) ?_) | (refine wpList_build_want (by kernel_rfl) 39 _ rfl #[.bool asks, .string ⟨#[71, 69, 84]⟩, .string ⟨#[]⟩, .bool false, .string ⟨#[]⟩, .string ⟨#[]⟩, .int .i64 0, .string ⟨#[]⟩, .int .i64 0, .slice none 0 0, .string ⟨#[]⟩, .int .i64 0, .int .i64 0, .int .i64 0, .string ⟨#[]⟩, .int .i64 0, .int .i64 0, .int .i64 0] (by kernel_rfl) ?_))
      refine (likeR_any (fresh asks ⟨#[71, 69, 84]⟩ []) (.slice va 0 vc) (.slice none 0 0) _ HM4.out.2 (Row.nil _) (show 0 ≤ 1000000 by decide)).mono ?_
      rintro en w5 ⟨rfl, hb5⟩
      replace hX := hX.below hb5
      replace hB := hB.trans (hb5.mono hB.size)
      have HM5 := hide (HM4.out.1.below hb5)
      clear hY hb5 HM4
      go_wp2_with fail
      go_loopw [16, 17, 78] (fun _ _ i wr => ∃ j : Nat, j ≤ k ∧ i = .int .i64 j ∧ Below w5.heap.size w5 wr) (fun _ _ i _ => k - (intOf i).toNat)
      case atStart => exact ⟨0, Nat.zero_le _, rfl, Below.refl _ _⟩
      case round =>
        obtain ⟨j, hj, rfl, hbr⟩ := hrel
        by_cases hlt2 : j < k
        · have hltz : (j : Int) < k := by omega
          obtain ⟨rfl, hBl, hcell, hsz⟩ := HS.out j (by omega)
          unfold maxLen at hsz
          obtain ⟨q, hq, hq2, hq3⟩ : ∃ q : Nat, min ((S j).size : Int) 500 = (q : Int) ∧ q ≤ 500 ∧ q ≤ (S j).size := ⟨(min ((S j).size : Int) 500).toNat, by omega, by omega, by omega⟩
          have hqi : (q : Int) ≤ ((S j).size : Int) := by omega
          have hcut : (S j).extract 0 q = cutS (S j) := by unfold cutS; rw [hq]; rfl
          have hMr := HM5.out.below hbr
          obtain ⟨a1, c1, e1, -, f1⟩ := hMr
          obtain ⟨g1, h1, hg1, r1, q1⟩ := f1 j (by rw [HL.out.1]; exact hlt2)
          obtain rfl : ua = some ⟨g1, 0, none⟩ := by injection e1 with h _ _; exact h.trans h1
          obtain ⟨⟨x, xv⟩, hx⟩ : ∃ x, l[j]'(by rw [HL.out.1]; exact hlt2) = x := ⟨_, rfl⟩
          have hxe : x = ⟨rwS asks, wmL (rwM asks (S j)) chunks, (cutS (S j)).data.toList⟩ := by
            have h2 : (l.map Prod.fst)[j]? = some x := by rw [List.getElem?_map, List.getElem?_eq_getElem (by rw [HL.out.1]; exact hlt2), hx]; rfl
            rw [HL.out.2, rwL_at _ _ _ hlt2] at h2
            exact (Option.some.inj h2).symm
          rw [hx] at r1 q1
          subst hxe
          obtain ⟨xa, xc, hxs⟩ := q1.row.slice
          simp only at hxs
          rw [rw_one] at hxs
          subst hxs
          have r2 : wr.rangeAt g1 (j * 7) [.string (rwS asks).m, .string (rwS asks).t, .int .i64 (rwS asks).c, .string (rwS asks).r, .int .i64 (rwS asks).n, .slice xa 1 xc, .string (cutS (S j))] := by
            have := r1
            unfold Ms.cs at this
            simp only [bs_back] at this
            exact this
          have hZ : Blk (wr.alloc (.cells #[.string (rwS asks).m, .string (rwS asks).t, .int .i64 (rwS asks).c, .string (rwS asks).r, .int .i64 (rwS asks).n, .slice xa 1 xc, .string (cutS (S j))] 26)) wr.heap.size 26 [.string (rwS asks).m, .string (rwS asks).t, .int .i64 (rwS asks).c, .string (rwS asks).r, .int .i64 (rwS asks).n, .slice xa 1 xc, .string (cutS (S j))] := Blk.new wr 26 _
          have hba : Below w5.heap.size w5 (wr.alloc (.cells #[.string (rwS asks).m, .string (rwS asks).t, .int .i64 (rwS asks).c, .string (rwS asks).r, .int .i64 (rwS asks).n, .slice xa 1 xc, .string (cutS (S j))] 26)) := hbr.alloc hbr.size _
          have hXa := hX.below hba
          have hca := ((hB.trans (hba.mono hB.size)).cell (p := ⟨B, off + j, none⟩) hBl).trans hcell
          have HK := hide (And.intro hZ (And.intro hXa (And.intro hca hba)))
          clear r1 q1 hx e1 f1 h1 hZ hba hXa hca hcell hBl
          go_upto_region 21 with (refine wpList_load_mid rfl 26 (.tmp 81) rfl g1 (j * 7) rfl [.string (rwS asks).m, .string (rwS asks).t, .int .i64 (rwS asks).c, .string (rwS asks).r, .int .i64 (rwS asks).n, .slice xa 1 xc, .string (cutS (S j))] _ r2 Tryz.underlying26 rfl (by kernel_rfl) ?_)
          obtain ⟨hZ, hXa, hca, hba⟩ := HK.out
          clear HK r2
          generalize World.alloc _ _ = W7 at hZ hXa hca hba ⊢
          generalize wr.heap.size = M at hZ ⊢
          refine wp_region_held_drew (S := (fun w' => Blk w' M 26 [.string (rwS asks).m, .string (rwS asks).t, .int .i64 (rwS asks).c, .string (rwS asks).r, .int .i64 (rwS asks).n, .slice xa 1 xc, .string (cutS (S j))] ∧ Blk w' N 26 [.string (rwS asks).m, .string (rwS asks).t, .int .i64 (rwS asks).c, .string (rwS asks).r, .int .i64 (rwS asks).n, .slice none 0 0, .string b] ∧ w'.cell? ⟨B, off + j, none⟩ = some (.string (S j)))) (by kernel_rfl) (⟨hZ.drew, hXa.drew, hca⟩) (fun hHeld => ?_)
          refine wpAnyH_take (i := 0) (oi := _) (v := .pointer (some ⟨M, 6, none⟩)) rfl (by kernel_rfl) (by kernel_rfl) (by kernel_rfl) (fun _ _ _ h => h) (Or.inl ⟨by rfl, fun wS hSw => by go_simp⟩) (by first | trivial | assumption) ?_
          simp only [Act.put, List.getElem_toArray, List.getElem_cons_zero, List.getElem_cons_succ, List.setIfInBounds_toArray, List.set_cons_zero, List.set_cons_succ]
          refine wpAnyH_take (i := 1) (oi := _) (v := .string (cutS (S j))) rfl (by kernel_rfl) (by kernel_rfl) (by kernel_rfl) (fun _ _ _ h => h) (Or.inl ⟨by kernel_rfl, fun wS hSw => by have e6 := hSw.1.cell 6 _ rfl; go_simp⟩) (by first | trivial | assumption) ?_
          simp only [Act.put, List.getElem_toArray, List.getElem_cons_zero, List.getElem_cons_succ, List.setIfInBounds_toArray, List.set_cons_zero, List.set_cons_succ]
          refine wpAnyH_take (i := 2) (oi := _) (v := .slice (some ⟨B, off, none⟩) k cap) rfl (by kernel_rfl) (by kernel_rfl) (by kernel_rfl) (fun _ _ _ h => h) (Or.inl ⟨by rfl, fun wS hSw => by go_simp⟩) (by first | trivial | assumption) ?_
          simp only [Act.put, List.getElem_toArray, List.getElem_cons_zero, List.getElem_cons_succ, List.setIfInBounds_toArray, List.set_cons_zero, List.set_cons_succ]
          refine wpAnyH_take (i := 3) (oi := _) (v := .int .i64 j) rfl (by kernel_rfl) (by kernel_rfl) (by kernel_rfl) (fun _ _ _ h => h) (Or.inl ⟨by rfl, fun wS hSw => by go_simp⟩) (by first | trivial | assumption) ?_
          simp only [Act.put, List.getElem_toArray, List.getElem_cons_zero, List.getElem_cons_succ, List.setIfInBounds_toArray, List.set_cons_zero, List.set_cons_succ]
          refine wpAnyH_take (i := 4) (oi := _) (v := .pointer (some ⟨B, off + j, none⟩)) rfl (by kernel_rfl) (by kernel_rfl) (by kernel_rfl) (fun _ _ _ h => h) (Or.inl ⟨by rfl, fun wS hSw => by go_simp⟩) (by first | trivial | assumption) ?_
          simp only [Act.put, List.getElem_toArray, List.getElem_cons_zero, List.getElem_cons_succ, List.setIfInBounds_toArray, List.set_cons_zero, List.set_cons_succ]
          refine wpAnyH_take (i := 5) (oi := _) (v := .string (S j)) rfl (by kernel_rfl) (by kernel_rfl) (by kernel_rfl) (fun _ _ _ h => h) (Or.inl ⟨by kernel_rfl, fun wS hSw => by have e6 := hSw.2.2; go_simp⟩) (by first | trivial | assumption) ?_
          simp only [Act.put, List.getElem_toArray, List.getElem_cons_zero, List.getElem_cons_succ, List.setIfInBounds_toArray, List.set_cons_zero, List.set_cons_succ]
          refine wpAnyH_take (i := 6) (oi := _) (v := .slice (some ⟨B, off, none⟩) k cap) rfl (by kernel_rfl) (by kernel_rfl) (by kernel_rfl) (fun _ _ _ h => h) (Or.inl ⟨by rfl, fun wS hSw => by go_simp⟩) (by first | trivial | assumption) ?_
          simp only [Act.put, List.getElem_toArray, List.getElem_cons_zero, List.getElem_cons_succ, List.setIfInBounds_toArray, List.set_cons_zero, List.set_cons_succ]
          refine wpAnyH_take (i := 7) (oi := _) (v := .int .i64 j) rfl (by kernel_rfl) (by kernel_rfl) (by kernel_rfl) (fun _ _ _ h => h) (Or.inl ⟨by rfl, fun wS hSw => by go_simp⟩) (by first | trivial | assumption) ?_
          simp only [Act.put, List.getElem_toArray, List.getElem_cons_zero, List.getElem_cons_succ, List.setIfInBounds_toArray, List.set_cons_zero, List.set_cons_succ]
          refine wpAnyH_take (i := 8) (oi := _) (v := .pointer (some ⟨B, off + j, none⟩)) rfl (by kernel_rfl) (by kernel_rfl) (by kernel_rfl) (fun _ _ _ h => h) (Or.inl ⟨by rfl, fun wS hSw => by go_simp⟩) (by first | trivial | assumption) ?_
          simp only [Act.put, List.getElem_toArray, List.getElem_cons_zero, List.getElem_cons_succ, List.setIfInBounds_toArray, List.set_cons_zero, List.set_cons_succ]
          refine wpAnyH_take (i := 9) (oi := _) (v := .string (S j)) rfl (by kernel_rfl) (by kernel_rfl) (by kernel_rfl) (fun _ _ _ h => h) (Or.inl ⟨by kernel_rfl, fun wS hSw => by have e6 := hSw.2.2; go_simp⟩) (by first | trivial | assumption) ?_
          simp only [Act.put, List.getElem_toArray, List.getElem_cons_zero, List.getElem_cons_succ, List.setIfInBounds_toArray, List.set_cons_zero, List.set_cons_succ]
          refine wpAnyH_take (i := 10) (oi := _) (v := .int .i64 (S j).size) rfl (by kernel_rfl) (by kernel_rfl) (by kernel_rfl) (fun _ _ _ h => h) (Or.inl ⟨by rfl, fun wS hSw => by go_simp⟩) (by first | trivial | assumption) ?_
          simp only [Act.put, List.getElem_toArray, List.getElem_cons_zero, List.getElem_cons_succ, List.setIfInBounds_toArray, List.set_cons_zero, List.set_cons_succ]
          refine wpAnyH_take (i := 11) (oi := _) (v := .int .i64 q) rfl (by kernel_rfl) (by kernel_rfl) (by kernel_rfl) (fun _ _ _ h => h) (Or.inl ⟨by rfl, fun wS hSw => by go_simp⟩) (by first | trivial | assumption) ?_
          simp only [Act.put, List.getElem_toArray, List.getElem_cons_zero, List.getElem_cons_succ, List.setIfInBounds_toArray, List.set_cons_zero, List.set_cons_succ]
          refine wpAnyH_take (i := 12) (oi := _) (v := .string (cutS (S j))) rfl (by kernel_rfl) (by kernel_rfl) (by kernel_rfl) (fun _ _ _ h => h) (Or.inl ⟨by rfl, fun wS hSw => by go_simp⟩) (by first | trivial | assumption) ?_
          simp only [Act.put, List.getElem_toArray, List.getElem_cons_zero, List.getElem_cons_succ, List.setIfInBounds_toArray, List.set_cons_zero, List.set_cons_succ]
          refine wpAnyH_take (i := 13) (oi := _) (v := .bool false) rfl (by kernel_rfl) (by kernel_rfl) (by kernel_rfl) (fun _ _ _ h => h) (Or.inl ⟨by rfl, fun wS hSw => by go_simp⟩) (by first | trivial | assumption) ?_
          simp only [Act.put, List.getElem_toArray, List.getElem_cons_zero, List.getElem_cons_succ, List.setIfInBounds_toArray, List.set_cons_zero, List.set_cons_succ]
          refine wpAnyH_take (i := 14) (oi := _) (v := .bool false) rfl (by kernel_rfl) (by kernel_rfl) (by kernel_rfl) (fun _ _ _ h => h) (Or.inl ⟨by rfl, fun wS hSw => by go_simp⟩) (by first | trivial | assumption) ?_
          simp only [Act.put, List.getElem_toArray, List.getElem_cons_zero, List.getElem_cons_succ, List.setIfInBounds_toArray, List.set_cons_zero, List.set_cons_succ]
          refine wpAnyH_take (i := 15) (oi := _) (v := .pointer (some ⟨M, 0, none⟩)) rfl (by kernel_rfl) (by kernel_rfl) (by kernel_rfl) (fun _ _ _ h => h) (Or.inl ⟨by kernel_rfl, fun wS hSw => by skip; go_simp⟩) (by first | trivial | assumption) ?_
          simp only [Act.put, List.getElem_toArray, List.getElem_cons_zero, List.getElem_cons_succ, List.setIfInBounds_toArray, List.set_cons_zero, List.set_cons_succ]
          refine wpAnyH_take (i := 16) (oi := _) (v := .agg #[.string (rwS asks).m, .string (rwS asks).t, .int .i64 (rwS asks).c, .string (rwS asks).r, .int .i64 (rwS asks).n]) rfl (by kernel_rfl) (by kernel_rfl) (by kernel_rfl) (fun _ _ _ h => h) (Or.inl ⟨by kernel_rfl, fun wS hSw => by have e0 := hSw.1.cell 0 _ rfl; have e1 := hSw.1.cell 1 _ rfl; have e2 := hSw.1.cell 2 _ rfl; have e3 := hSw.1.cell 3 _ rfl; have e4 := hSw.1.cell 4 _ rfl; go_simp⟩) (by first | trivial | assumption) ?_
          simp only [Act.put, List.getElem_toArray, List.getElem_cons_zero, List.getElem_cons_succ, List.setIfInBounds_toArray, List.set_cons_zero, List.set_cons_succ]
          refine wpAnyH_take (i := 17) (oi := _) (v := .pointer (some ⟨N, 0, none⟩)) rfl (by kernel_rfl) (by kernel_rfl) (by kernel_rfl) (fun _ _ _ h => h) (Or.inl ⟨by kernel_rfl, fun wS hSw => by skip; go_simp⟩) (by first | trivial | assumption) ?_
          simp only [Act.put, List.getElem_toArray, List.getElem_cons_zero, List.getElem_cons_succ, List.setIfInBounds_toArray, List.set_cons_zero, List.set_cons_succ]
          refine wpAnyH_take (i := 18) (oi := _) (v := .agg #[.string (rwS asks).m, .string (rwS asks).t, .int .i64 (rwS asks).c, .string (rwS asks).r, .int .i64 (rwS asks).n]) rfl (by kernel_rfl) (by kernel_rfl) (by kernel_rfl) (fun _ _ _ h => h) (Or.inl ⟨by kernel_rfl, fun wS hSw => by have e0 := hSw.2.1.cell 0 _ rfl; have e1 := hSw.2.1.cell 1 _ rfl; have e2 := hSw.2.1.cell 2 _ rfl; have e3 := hSw.2.1.cell 3 _ rfl; have e4 := hSw.2.1.cell 4 _ rfl; go_simp⟩) (by first | trivial | assumption) ?_
          simp only [Act.put, List.getElem_toArray, List.getElem_cons_zero, List.getElem_cons_succ, List.setIfInBounds_toArray, List.set_cons_zero, List.set_cons_succ]
          refine wpAnyH_take (i := 19) (oi := _) (v := .bool false) rfl (by kernel_rfl) (by kernel_rfl) (by kernel_rfl) (fun _ _ _ h => h) (Or.inl ⟨by kernel_rfl, fun wS hSw => by skip; go_simp⟩) (by first | trivial | assumption) ?_
          simp only [Act.put, List.getElem_toArray, List.getElem_cons_zero, List.getElem_cons_succ, List.setIfInBounds_toArray, List.set_cons_zero, List.set_cons_succ]
          refine wpAnyH_take (i := 20) (oi := _) (v := .bool false) rfl (by kernel_rfl) (by kernel_rfl) (by kernel_rfl) (fun _ _ _ h => h) (Or.inl ⟨by rfl, fun wS hSw => by go_simp⟩) (by first | trivial | assumption) ?_
          simp only [Act.put, List.getElem_toArray, List.getElem_cons_zero, List.getElem_cons_succ, List.setIfInBounds_toArray, List.set_cons_zero, List.set_cons_succ]
          refine wpAnyH_take (i := 21) (oi := _) (v := .bool false) rfl (by kernel_rfl) (by kernel_rfl) (by kernel_rfl) (fun _ _ _ h => h) (Or.inl ⟨by rfl, fun wS hSw => by go_simp⟩) (by first | trivial | assumption) ?_
          simp only [Act.put, List.getElem_toArray, List.getElem_cons_zero, List.getElem_cons_succ, List.setIfInBounds_toArray, List.set_cons_zero, List.set_cons_succ]
          refine wpAnyH_take (i := 22) (oi := _) (v := .pointer (some ⟨M, 5, none⟩)) rfl (by kernel_rfl) (by kernel_rfl) (by kernel_rfl) (fun _ _ _ h => h) (Or.inl ⟨by kernel_rfl, fun wS hSw => by skip; go_simp⟩) (by first | trivial | assumption) ?_
          simp only [Act.put, List.getElem_toArray, List.getElem_cons_zero, List.getElem_cons_succ, List.setIfInBounds_toArray, List.set_cons_zero, List.set_cons_succ]
          refine wpAnyH_take (i := 23) (oi := _) (v := .slice xa 1 xc) rfl (by kernel_rfl) (by kernel_rfl) (by kernel_rfl) (fun _ _ _ h => h) (Or.inl ⟨by kernel_rfl, fun wS hSw => by have e5 := hSw.1.cell 5 _ rfl; go_simp⟩) (by first | trivial | assumption) ?_
          simp only [Act.put, List.getElem_toArray, List.getElem_cons_zero, List.getElem_cons_succ, List.setIfInBounds_toArray, List.set_cons_zero, List.set_cons_succ]
          refine wpAnyH_take (i := 24) (oi := _) (v := .int .i64 1) rfl (by kernel_rfl) (by kernel_rfl) (by kernel_rfl) (fun _ _ _ h => h) (Or.inl ⟨by kernel_rfl, fun wS hSw => by skip; go_simp⟩) (by first | trivial | assumption) ?_
          simp only [Act.put, List.getElem_toArray, List.getElem_cons_zero, List.getElem_cons_succ, List.setIfInBounds_toArray, List.set_cons_zero, List.set_cons_succ]
          refine wpAnyH_take (i := 25) (oi := _) (v := .bool false) rfl (by kernel_rfl) (by kernel_rfl) (by kernel_rfl) (fun _ _ _ h => h) (Or.inl ⟨by kernel_rfl, fun wS hSw => by skip; go_simp⟩) (by first | trivial | assumption) ?_
          simp only [Act.put, List.getElem_toArray, List.getElem_cons_zero, List.getElem_cons_succ, List.setIfInBounds_toArray, List.set_cons_zero, List.set_cons_succ]
          refine wpAnyH_take (i := 26) (oi := _) (v := .bool false) rfl (by kernel_rfl) (by kernel_rfl) (by kernel_rfl) (fun _ _ _ h => h) (Or.inl ⟨by rfl, fun wS hSw => by go_simp⟩) (by first | trivial | assumption) ?_
          simp only [Act.put, List.getElem_toArray, List.getElem_cons_zero, List.getElem_cons_succ, List.setIfInBounds_toArray, List.set_cons_zero, List.set_cons_succ]
          refine wpAnyH_done (by kernel_rfl) ?_ _
          go_wp2_with fail
          exact ⟨⟨j + 1, by omega, by go_num, hba.drew⟩, by simp [intOf]; omega⟩
        · have hd : decide ((j : Int) < k) = false := decide_eq_false (by omega)
          go_wp2_with fail
          refine (alive_any _).mono ?_
          rintro en w6 ⟨rfl, hb6⟩
          go_wp2_with fail
          go_ret
          exact ⟨rfl, (hB.trans (hbr.mono hB.size)).trans (hb6.mono (hB.trans (hbr.mono hB.size)).size)⟩

end Go.Proofs.YtmpijlaidnhpnaaGreatDoor

namespace Go.Proofs.YtmpijlaidnhpnaaGreatDoor
set_option linter.unusedVariables false
set_option linter.unusedSimpArgs false
open Go.ChangeShapes Go.WideShapes Go.ChangeAt Go.RowKit Go.Joins
open Go.ChangeMaps (open_string shut_string)

set_option maxRecDepth 100000 in
theorem row_lifted (os : Os) (started : os.Started) (H : Type) (enc : TypeId × Value → H) :
    ReturnsInHanded {} Tryz.checked os 5 .any (fun w args => (Rows.wireRowSpec.pre enc Tryz.prog Tryz.f5 [] false w args ∧ laidMetH Tryz.prog laid3 w) ∧ sizedMet enc Tryz.prog Tryz.f5 (OpenSpec.ofChange Rows.wireRowSpec) false w args)
      (Rows.wireRowSpec.post enc Tryz.prog Tryz.f5 false true false false) := by
  refine returnsInHanded_of_change_and (C := Tryz.checked) (X := fun w _ => laidMetH Tryz.prog laid3 w) (fun _ _ _ hh h => h.of_heap hh) own started (by kernel_rfl) Tryz.func5
    (ChangeSpec.witness_shaped (enc := enc) (C := Tryz.checked) (os := os) (X := fun w _ => laidMetH Tryz.prog laid3 w) false (World.doorLaid Tryz.prog 24 os) #[.slice none 0 0, .bool false, .bool false] 8 rfl (World.shaped_of_RefB (by kernel_rfl) (by kernel_rfl)) (by kernel_rfl) (by kernel_rfl) (by kernel_rfl) (door_met os _)) ?_
  intro W base args ds gs before hval0 hW _ _ hL _
  have hval : ∀ (j : Nat) t v, Tryz.f5.params[j]? = some t → args[j]? = some v → Value.okWide Tryz.prog W .any base t v := hval0
  have hW' := hW
  obtain ⟨p, q, hA0, hV, rfl, hfz, hnd⟩ := hW
  have hA : DataW.TrodAll enc Tryz.prog W 0 (fun _ => true) true Tryz.f5.params.toList args.toList ds p := hA0
  rw [Tryz.params5] at hA hval
  obtain ⟨v0, vs0, d0, ds0, p0, q0, hargs, rfl, rfl, h0, r0⟩ := trodAll_cons hA
  obtain ⟨v1, vs1, d1, ds1, p1, q1, rfl, rfl, rfl, h1, r1⟩ := trodAll_cons r0
  obtain ⟨v2, vs2, d2, ds2, p2, q2, rfl, rfl, rfl, h2, r2⟩ := trodAll_cons r1
  obtain ⟨rfl, rfl, rfl⟩ := trodAll_nil r2
  obtain rfl : args = #[v0, v1, v2] := by cases args; simp_all
  obtain ⟨rfl, rfl⟩ := trodVars_none hV
  have k0 := h0
  have lt0 : ∀ x ∈ p0, x.block < W.heap.size := by obtain ⟨m, hm⟩ := k0; exact DataW.trod_lt m _ _ _ hm
  have k1 := h1
  have lt1 : ∀ x ∈ p1, x.block < W.heap.size := by obtain ⟨m, hm⟩ := k1; exact DataW.trod_lt m _ _ _ hm
  have k2 := h2
  have lt2 : ∀ x ∈ p2, x.block < W.heap.size := by obtain ⟨m, hm⟩ := k2; exact DataW.trod_lt m _ _ _ hm
  obtain ⟨ad, len, cap, rfl⟩ := okWide_slice Tryz.underlying48 (hval 0 48 v0 rfl rfl)
  obtain ⟨B, off, S, hlc, hcap, hS⟩ : ∃ (B off : Nat) (S : Nat → ByteArray), len ≤ cap ∧ cap ≤ maxLen ∧ ∀ i, i < len → ad = some ⟨B, off, none⟩ ∧ B < W.heap.size ∧ W.cell? ⟨B, off + i, none⟩ = some (.string (S i)) ∧ (S i).size ≤ maxLen := by
    obtain ⟨fuel, hf⟩ := h0
    exact open_row (by simpa [Value.cells] using hf)
  obtain ⟨x1, rfl, -, -⟩ := open_bool Tryz.underlying4 (hval 1 4 v1 rfl rfl) h1
  obtain ⟨x2, rfl, -, -⟩ := open_bool Tryz.underlying4 (hval 2 4 v2 rfl rfl) h2
  have hT := tabs_of hL
  clear hA0 hval0
  refine (row_walk ad B off len cap S x1 x2 W hlc hcap hS hT).mono fun e W' ⟨he, bel⟩ => ?_
  subst he
  exact ⟨_, rfl, _, _, _, [], _, [], hW', trodAll_mk1 (shut_bool Tryz.underlying4 _), (trodAll_cons_mk (Below.trod laidOut (by kernel_rfl) (of_decide_eq_true (by kernel_rfl)) k0 bel lt0) (trodAll_cons_mk (Below.trod laidOut (by kernel_rfl) (of_decide_eq_true (by kernel_rfl)) k1 bel lt1) (trodAll_cons_mk (Below.trod laidOut (by kernel_rfl) (of_decide_eq_true (by kernel_rfl)) k2 bel lt2) trodAll_mk0))), rfl, bel.frame _, fun h => by cases h⟩

theorem row_row : Rows.WireRowSaid :=
  OpenClaim.holds_of_wide 5 Tryz.f5 rfl rfl rfl rfl rfl rfl rfl ⟨rfl, rfl, rfl, rfl, rfl⟩ rfl rfl rfl rfl rfl (by kernel_rfl) Tryz.func5 (by kernel_rfl)
    (of_decide_eq_true (by kernel_rfl)) (by unfold Func.isWrapper; first | (rw [if_pos (by decide +kernel)]; kernel_rfl) | (rw [if_neg (by decide +kernel)]; exact ⟨rfl, rfl⟩))
    (fun os started H enc _ => row_lifted os started H enc)

theorem row_holds : Rows.WireRowCardSaid :=
  Claim7.holds_tied_plain_at .later [] [.data, .data, .data] true (true, "a603b6b9b9401121a7b687d27458eabfe861105e2f95f3117fb00a0d67a9a931") false
    row_row (fun _ h => by cases h) (by kernel_rfl) (fun _ h => by cases h) wireRow_row_tie rfl ⟨rfl, rfl⟩ (by kernel_rfl) rfl
    (fun f fn hf hfn => by
      obtain rfl : f = 5 := Option.some.inj ((show Tryz.prog.funcNamed "intarsia/intarsialaw10.WireRow" = some 5 by kernel_rfl).symm.trans hf) |>.symm
      obtain rfl : fn = Tryz.f5 := (Option.some.inj (Tryz.func5.symm.trans hfn)).symm
      exact ⟨by kernel_rfl, fun j t ht => by
        rw [Tryz.params5] at ht
        have hm : t ∈ [48, 4, 4] := by simpa using Array.mem_of_getElem? ht
        have hall : ([48, 4, 4].all fun u => !Tryz.prog.wantsStandIn u) = true := by kernel_rfl
        exact (show Tryz.prog.wantsStandIn t = false by simpa using List.all_eq_true.1 hall t hm)⟩)
    (by kernel_rfl)

end Go.Proofs.YtmpijlaidnhpnaaGreatDoor
