/- The walk of WireStops. -/
import Derived.Test.YtmpijlaidnhpnaaGreatDoorJXs
import Derived.Test.YtmpijlaidnhpnaaGreatDoorJYq
import Derived.Test.YtmpijlaidnhpnaaGreatDoorJYf
namespace Go.Proofs.YtmpijlaidnhpnaaGreatDoor
set_option linter.unusedVariables false
set_option linter.unusedSimpArgs false
set_option maxRecDepth 100000
open Go.RowKit

theorem size_list' (B : ByteArray) : B.data.toList.length = B.size := by simp
theorem app_bytes (A B : ByteArray) : (A ++ B).data.toList = A.data.toList ++ B.data.toList := by simp [ByteArray.data_append]
theorem bs_eq {l : List UInt8} {B : ByteArray} (h : B.data.toList = l) : Ck.bs l = B := bytes_ext (by rw [Ck.bs_list, h])
theorem rg_fresh (a : Bool) (t : ByteArray) : rgB (fresh a t []) = true := rg_wait ⟨mid_fresh _ _ _, fun _ => Nat.zero_le _, fun h => nope h⟩

/- Small bodies behind a head without fields can be written. -/
def smB (n : Nat) : Bool := decide (wiE [] 1 n = 0) && decide ((Hd.wrL (wiL [] 1 n)).length ≤ 1000)
theorem sm_all : (List.range 501).all smB = true := by kernel_rfl
theorem sm_two' : (decide (wiE [] 2 0 = 0) && decide ((Hd.wrL (wiL [] 2 0)).length ≤ 1000)) = true := by kernel_rfl
theorem sm_two : wiE [] 2 0 = 0 ∧ (Hd.wrL (wiL [] 2 0)).length ≤ 1000 := by
  have h := sm_two'
  rw [Bool.and_eq_true] at h
  exact ⟨of_decide_eq_true h.1, of_decide_eq_true h.2⟩
theorem small_ok {s : St} (hs : rtB s = true) {b : List UInt8} (hb : b.length ≤ 500) (c : Bool) : wmE ⟨s, [], b⟩ c = 0 ∧ (hdW s (wmL ⟨s, [], b⟩ c)).length ≤ 4000 := by
  have h : wmD ⟨s, [], b⟩ c = 0 ∧ (Hd.wrL (wmL ⟨s, [], b⟩ c)).length ≤ 1000 := by
    cases c
    · have h := List.all_eq_true.1 sm_all b.length (List.mem_range.2 (by omega))
      unfold smB at h
      rw [Bool.and_eq_true] at h
      exact ⟨of_decide_eq_true h.1, of_decide_eq_true h.2⟩
    · exact sm_two
  have hw := wrL_le hs
  have hl := hd_len s (wmL ⟨s, [], b⟩ c)
  refine ⟨?_, by omega⟩
  unfold wmE wmF
  rw [if_pos (by rw [hs, decide_eq_true (show (⟨s, [], b⟩ : Ms).b.length ≤ 20000 from Nat.le_trans hb (by decide))]; rfl), if_neg (by omega), if_neg (by omega)]

def poS : St := ⟨⟨#[80, 79, 83, 84]⟩, ⟨#[47]⟩, 0, ⟨#[]⟩, 1⟩
theorem po_right : rtB poS = true := by kernel_rfl
def nrL : List UInt8 := [110, 111, 32, 114, 101, 113, 117, 101, 115, 116, 13, 10, 13, 10]
theorem nr_fd : fdG (fresh true ⟨#[]⟩ []) nrL = (stopR true ⟨#[]⟩ 30, []) := by kernel_rfl
theorem stop_fd {a : Bool} {t : ByteArray} {e : Int} (h : e ≠ 0) (s : List UInt8) : fdG (stopR a t e) s = (stopR a t e, []) := by unfold fdG; rw [if_pos (show (stopR a t e).e ≠ 0 from h)]
theorem stops_fd {b more : List UInt8} (hb : b.length ≤ 500) : fdG (fresh true ⟨#[]⟩ []) ((wmT ⟨poS, [], b⟩ false).data.toList ++ nrL ++ more) = (stopR true ⟨#[]⟩ 30, [⟨poS, wmL ⟨poS, [], b⟩ false, b⟩]) := by
  obtain ⟨h1, h2⟩ := small_ok po_right hb false
  have hb1 := back_go (m := ⟨poS, [], b⟩) (c := false) (t := ⟨#[]⟩) h1 h2 (Or.inl rfl) (fun h => absurd h (by decide)) (by kernel_rfl)
  change fdG (fresh true ⟨#[]⟩ []) _ = (fresh true ⟨#[]⟩ [], _) at hb1
  rw [List.append_assoc, fd_cut (rg_fresh _ _), hb1]
  simp only
  rw [fd_cut (rg_fresh _ _), nr_fd]
  simp only
  rw [stop_fd (by decide)]; rfl
theorem stops_cl : clE (stopR true ⟨#[]⟩ 30) = 30 ∧ clO (stopR true ⟨#[]⟩ 30) = [] := by
  have h : rgB (stopR true ⟨#[]⟩ 30) = true := rg_stop (by decide)
  constructor
  · unfold clE; rw [if_neg (by rw [h]; decide), if_pos (show (stopR true ⟨#[]⟩ 30).e ≠ 0 from by decide)]; rfl
  · unfold clO; rw [if_neg (by rintro ⟨-, g, -⟩; exact absurd g (by decide))]
theorem wmT_le {m : Ms} (hl : (hdW m.s (wmL m false)).length ≤ 4000) (hb : m.b.length ≤ 500) : (wmT m false).size ≤ 4500 := by
  have := congrArg List.length (wmT_list m false)
  rw [size_list', List.length_append, wmB_list, if_neg (by decide)] at this
  omega

/-- A load under a guard that holds. -/
theorem wpList_load_want {P : Program} {ops : Array Oper} {rest : List Oper} {op : Oper} {a : Act} {w : World} {Q : Exit → Act → World → Prop} (hw : Region.wanted op (yielded ops a.tmps) = true) (ty : TypeId) (x : Operand) (ho : op.op = .load ty x)
    (b o : Nat) (hx : a.eval x = .pointer (some ⟨b, o, none⟩)) (cs : List Value) (d : TypeDesc) (hc : w.rangeAt b o cs) (hu : P.underlying ty = some d) (hd : d.isRow = true) (hi : (P.info? ty).map (·.size) = some cs.length)
    (h : wpList P ops Q rest (a.put op.dst (.agg cs.toArray)) w) : wpList P ops Q (op :: rest) a w := by
  unfold wpList
  rw [if_pos hw]
  exact Or.inl (wp_load_mid ty x ho b o hx cs d hc hu hd hi h)

set_option maxHeartbeats 16000000 in
theorem stops_walk (body more : ByteArray) (w : World) (hs : body.size ≤ maxLen) (hs2 : more.size ≤ maxLen) (ht : TT w) :
    Calls Tryz.prog 6 #[.string body, .string more] w fun en w' => en = .returned (.bool true) ∧ Below w.heap.size w w' := by
  unfold maxLen at hs hs2
  obtain ⟨m, hm, hm2, hm3⟩ : ∃ m : Nat, min (body.size : Int) 300 = (m : Int) ∧ m ≤ 300 ∧ m ≤ body.size := ⟨(min (body.size : Int) 300).toNat, by omega, by omega, by omega⟩
  obtain ⟨n, hn, hn2, hn3⟩ : ∃ n : Nat, min (more.size : Int) 300 = (n : Int) ∧ n ≤ 300 ∧ n ≤ more.size := ⟨(min (more.size : Int) 300).toNat, by omega, by omega, by omega⟩
  have hms : (body.extract 0 m).size = m := by rw [ByteArray.size_extract]; omega
  have hns : (more.extract 0 n).size = n := by rw [ByteArray.size_extract]; omega
  have hmi : (m : Int) ≤ (body.size : Int) := by omega
  have hni : (n : Int) ≤ (more.size : Int) := by omega
  go_enter Tryz.func6, Tryz.ntmps6
  go_wp2_with fail
  go_quiet (fail)
  generalize body.extract 0 m = B at hms ⊢
  generalize more.extract 0 n = M at hns ⊢
  have hS : B.size ≤ 300 := by omega
  have hS2 : M.size ≤ 300 := by omega
  clear hms hm hm2 hm3 hmi hs hns hn hn2 hn3 hni hs2
  have hBl : B.data.toList.length ≤ 500 := by rw [size_list']; omega
  obtain ⟨k1, k2⟩ := small_ok po_right hBl false
  have hw := fun W hT => wwrite_any ⟨poS, [], B.data.toList⟩ (.slice none 0 0) false W (Row.nil W) ⟨show 4 ≤ 10000 by decide, show 1 ≤ 10000 by decide, show 0 ≤ 10000 by decide⟩ (show 0 ≤ 50 by decide) (fun f hf => absurd hf (by simp)) (show B.data.toList.length ≤ 30000 by omega) hT
  unfold Ms.v poS at hw
  rw [bs_back] at hw
  change ∀ W, TT W → Calls Tryz.prog 8 #[.agg #[.string ⟨#[80, 79, 83, 84]⟩, .string ⟨#[47]⟩, .int .i64 0, .string ⟨#[]⟩, .int .i64 1, .slice none 0 0, .string B], .bool false] W fun en w' => en = .returned (.tuple #[.string (wmS ⟨poS, [], B.data.toList⟩ false), .int .i64 (wmE ⟨poS, [], B.data.toList⟩ false)]) ∧ Below W.heap.size W w' at hw
  rw [k1, (wm_okay k1).2.2.2.2.2] at hw
  have hfd := stops_fd (more := M.data.toList) hBl
  have hTl := wmT_le (m := ⟨poS, [], B.data.toList⟩) k2 hBl
  generalize wmT ⟨poS, [], B.data.toList⟩ false = S at hw hfd hTl
  have hf1 := fun W => feed_fresh true ⟨#[]⟩ (S.data.toList ++ nrL ++ M.data.toList) W (by rw [List.length_append, List.length_append, size_list', size_list']; show _ + 14 + _ ≤ _; omega)
  rw [hfd, bs_eq (B := S ++ ⟨#[110, 111, 32, 114, 101, 113, 117, 101, 115, 116, 13, 10, 13, 10]⟩ ++ M) (by rw [app_bytes, app_bytes]; rfl)] at hf1
  have hf2 := fun v W hW => feed_good (stopR true ⟨#[]⟩ 30) v S.data.toList W hW short_no (show 0 ≤ 50 by decide) sh_nil (show 0 ≤ 1000000 by decide) (show 0 ≤ 1000000 by decide) (by show 0 + _ ≤ _; rw [size_list']; omega) (rg_stop (by decide))
  rw [stop_fd (by decide), bs_back] at hf2
  have hc := fun v W hW => close_any (stopR true ⟨#[]⟩ 30) v W hW short_no (show 0 ≤ 50 by decide) sh_nil (show 0 ≤ 1000000 by decide) (show 0 ≤ 1000000 by decide) (show 0 ≤ 1000000 by decide)
  rw [stops_cl.1, stops_cl.2] at hc
  have HW := hide hw
  have HF1 := hide hf1
  have HF2 := hide hf2
  have HC := hide hc
  clear hw hf1 hf2 hc hfd k1 k2
  go_wp2_with fail
  refine (HW.out _ (ht.below (Ck.below_drewN _ _))).mono ?_
  rintro en w1 ⟨rfl, hb1⟩
  replace hb1 := (Ck.below_drewN w nq).trans (hb1.mono (Ck.below_drewN w nq).size)
  go_wp2_with fail
  refine (new_any true ⟨#[]⟩ _).mono ?_
  rintro en w2 ⟨rfl, hb2⟩
  go_wp2_with fail
  refine (HF1.out _).mono ?_
  rintro en w3 ⟨⟨va, vc, u, l, rfl, hFR, hM, hl⟩, hb3⟩
  obtain ⟨x3, rfl⟩ : ∃ x, l = [((⟨poS, wmL ⟨poS, [], B.data.toList⟩ false, B.data.toList⟩ : Ms), x)] := by
    match l, hl with
    | [(m, x)], hl => exact ⟨x, by simp at hl; rw [hl]⟩
  obtain ⟨a3, c3, rfl, -, hcell⟩ := hM.mrow
  obtain ⟨g, rfl, hg, hr, -⟩ := hcell 0 (show 0 < 1 by decide)
  have r6 : w3.cell? ⟨g, 6, none⟩ = some (.string B) := by
    refine (hr 6 _ rfl).trans ?_
    show some (Value.string (Ck.bs B.data.toList)) = _
    rw [bs_eq rfl]
  have hb23 := hb1.trans ((hb2.trans (hb3.mono hb2.size)).mono hb1.size)
  have HB := hide (And.intro hb23 (And.intro hFR.row (And.intro r6 hg)))
  clear hcell hM hl hr hb1 hb2 hb3 hb23 hFR r6 HF1 HW ht
  go_upto_region 4 with (refine boxed rfl rfl _ rfl rfl _ rfl rfl ((stopR true ⟨#[]⟩ 30).cs (.slice va 0 vc)) rfl (by kernel_rfl) rfl rfl ?_; intro W4 hX hBW)
  obtain ⟨hB, hR, r6, hg⟩ := HB.out
  replace hR := hR.below hBW
  have r6' := (hBW.cell (p := ⟨g, 6, none⟩) hg).trans r6
  replace hB := hB.trans (hBW.mono hB.size)
  have hg' := Nat.lt_of_lt_of_le hg hBW.size
  clear hBW HB r6
  generalize w3.heap.size = N at hX ⊢
  have HR := hide hR
  clear hR
  go_wp2_with (refine wpList_load_mid rfl 39 (.tmp 7) rfl N 0 rfl ((stopR true ⟨#[]⟩ 30).cs (.slice va 0 vc)) _ (hX.range 0 18) Tryz.underlying39 rfl (by kernel_rfl) ?_)
  refine (HF2.out _ _ HR.out).mono ?_
  rintro en w5 ⟨⟨vb, vd, u5, l5, rfl, hFR5, hM5, hl5⟩, hb5⟩
  obtain rfl : l5 = [] := by simpa using hl5
  obtain ⟨a5, c5, rfl, -, -⟩ := hM5.mrow
  replace hX := hX.below hb5
  have HR5 := hide (And.intro (HR.out.below hb5) hFR5.row)
  replace hB := hB.trans (hb5.mono hB.size)
  have r65 := (hb5.cell (p := ⟨g, 6, none⟩) hg').trans r6'
  have hg5 := Nat.lt_of_lt_of_le hg' hb5.size
  clear hM5 hl5 hFR5 hb5 HR r6' hg' hg HF2
  go_upto_region 5 with (refine boxed rfl rfl _ rfl rfl _ rfl rfl ((stopR true ⟨#[]⟩ 30).cs (.slice vb 0 vd)) rfl (by kernel_rfl) rfl rfl ?_; intro W6 hY hBW)
  replace hX := hX.below hBW
  have HR6 := hide (And.intro (HR5.out.1.below hBW) (HR5.out.2.below hBW))
  have r66 := (hBW.cell (p := ⟨g, 6, none⟩) hg5).trans r65
  replace hB := hB.trans (hBW.mono hB.size)
  have hg6 := Nat.lt_of_lt_of_le hg5 hBW.size
  clear hBW r65 hg5 HR5
  generalize w5.heap.size = N2 at hY ⊢
  go_wp2_with (refine wpList_load_mid rfl 39 (.tmp 7) rfl N 0 rfl ((stopR true ⟨#[]⟩ 30).cs (.slice va 0 vc)) _ (hX.range 0 18) Tryz.underlying39 rfl (by kernel_rfl) ?_)
  refine (HC.out _ _ HR6.out.1).mono ?_
  rintro en w7 ⟨⟨u7, l7, rfl, hM7, hl7⟩, hb7⟩
  obtain rfl : l7 = [] := by simpa using hl7
  obtain ⟨a7, c7, rfl, -, -⟩ := hM7.mrow
  replace hX := hX.below hb7
  replace hY := hY.below hb7
  have HR7 := hide (And.intro (HR6.out.1.below hb7) (HR6.out.2.below hb7))
  have r67 := (hb7.cell (p := ⟨g, 6, none⟩) hg6).trans r66
  replace hB := hB.trans (hb7.mono hB.size)
  have hg7 := Nat.lt_of_lt_of_le hg6 hb7.size
  clear hb7 hM7 hl7 r66 hg6 HR6 HC
  go_wp2_with fail
  refine (alive_any _).mono ?_
  rintro en w8 ⟨rfl, hb8⟩
  replace hX := hX.below hb8
  replace hY := hY.below hb8
  have HR8 := hide (And.intro (HR7.out.1.below hb8) (HR7.out.2.below hb8))
  have r68 := (hb8.cell (p := ⟨g, 6, none⟩) hg7).trans r67
  replace hB := hB.trans (hb8.mono hB.size)
  clear hb8 r67 hg7 HR7
  have c17 := hX.cell 17 _ rfl
  go_wp2_with (first | (refine wpList_load_want (by kernel_rfl) 39 (.tmp 10) rfl N2 0 rfl ((stopR true ⟨#[]⟩ 30).cs (.slice vb 0 vd)) _ (hY.range 0 18) Tryz.underlying39 rfl (by kernel_rfl) ?_) | (refine wpList_load_want (by kernel_rfl) 39 (.tmp 7) rfl N 0 rfl ((stopR true ⟨#[]⟩ 30).cs (.slice va 0 vc)) _ (hX.range 0 18) Tryz.underlying39 rfl (by kernel_rfl) ?_))
  refine (likeR_any (stopR true ⟨#[]⟩ 30) (.slice vb 0 vd) (.slice va 0 vc) _ HR8.out.2 HR8.out.1 (show 0 ≤ 1000000 by decide)).mono ?_
  rintro en w9 ⟨rfl, hb9⟩
  go_wp2_with fail
  go_ret
  exact ⟨rfl, hB.trans (hb9.mono hB.size)⟩

end Go.Proofs.YtmpijlaidnhpnaaGreatDoor
