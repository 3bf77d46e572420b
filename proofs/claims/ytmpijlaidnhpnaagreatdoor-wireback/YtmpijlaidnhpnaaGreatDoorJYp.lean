/- The walks of the document's own Encode, of fieldLines, and of Write: the program's, and the document's own. -/
import Derived.Test.YtmpijlaidnhpnaaGreatDoorJGg
import Derived.Test.YtmpijlaidnhpnaaGreatDoorJKh
import Derived.Test.YtmpijlaidnhpnaaGreatDoorJHb
import Derived.Test.YtmpijlaidnhpnaaGreatDoorJSc
import Derived.Test.YtmpijlaidnhpnaaGreatDoorJXa
namespace Go.Proofs.YtmpijlaidnhpnaaGreatDoor
set_option linter.unusedVariables false
set_option linter.unusedSimpArgs false
set_option maxRecDepth 100000
open Go.RowKit Go.Sort

set_option maxHeartbeats 1000000 in
theorem refDigits16 (u : Nat) (hu64 : u < 18446744073709551616) (w : World) :
    Calls Tryz.prog 48 #[.int .u64 (u : Int), .int .u64 16] w fun e w' => e = .returned (.string ⟨(dgs 16 (by omega) u).toArray⟩) ∧ ∃ n, w' = w.drewN n := by
  go_enter Tryz.func48, Tryz.ntmps48
  go_wp2
  go_loopw [0, 5] (fun n o wr => ∃ (v t : Nat) (s : ByteArray), n = .int .u64 v ∧ o = .string s ∧ v ≤ u ∧ s.size ≤ 20 ∧ Hid (more 16 (by omega) v s.data.toList = dgs 16 (by omega) u) ∧ wr = w.drewN t) (fun n o _ => (intOf n).toNat * 2 + emptyOf o)
  case atStart => exact ⟨u, 0, ⟨#[]⟩, rfl, rfl, Nat.le_refl _, by decide, by simp [Hid, more], by simp [World.drewN]⟩
  case round =>
    obtain ⟨v, t, s, rfl, rfl, hv, hs, HM, rfl⟩ := hrel
    by_cases hend : v = 0 ∧ s.data.toList ≠ []
    · obtain ⟨rfl, hne⟩ := hend
      have he := empty_not hne
      have HN : Hid (s.data.toList ≠ []) := hne
      clear hne
      go_wp2
      go_ret
      refine ⟨?_, t, rfl⟩
      have := HM.out
      rw [more, if_pos ⟨rfl, HN.out⟩] at this
      have hS : (⟨(dgs 16 (by omega) u).toArray⟩ : ByteArray) = s := by rw [← this]
      rw [hS]
      rfl
    · have hmod : v % 16 < 16 := Nat.mod_lt _ (by omega)
      have HE : Hid (¬ (v = 0 ∧ s.data.toList ≠ [])) := hend
      by_cases h0 : v = 0
      · have he := empty_of (s := s) (by
          by_cases e : s.data.toList = []
          · exact e
          · exact absurd ⟨h0, e⟩ hend)
        have HZ : Hid (s.data.toList = []) := by
          by_cases e : s.data.toList = []
          · exact e
          · exact absurd ⟨h0, e⟩ hend
        subst h0
        have HS : Hid (more 16 (by omega) 0 ((⟨#[hx 0]⟩ : ByteArray) ++ s).data.toList = dgs 16 (by omega) u) := by
          unfold Hid
          rw [ahead_list, ← HM.out, ← more_step 16 (by omega) 0 s.data.toList HE.out]
        clear hend hmod
        go_wp2
        go_quiet (fail)
        rw [d16_at 0 (by omega)]
        go_wp2
        refine ⟨⟨0, t + nq, ⟨#[hx 0]⟩ ++ s, rfl, rfl, by omega, ?_, ?_, rfl⟩, ?_⟩
        · have hlen := more_len 16 (by omega) 0 ((⟨#[hx 0]⟩ : ByteArray) ++ s).data.toList
          rw [HS.out] at hlen
          have h20 := dgs_length_lt (b := 16) (by omega) 19 u (by omega)
          simp only [Array.length_toList, ByteArray.size_data] at hlen
          omega
        · exact HS.out
        · rw [emptyOf_ahead]; simp [intOf, emptyOf, HZ.out]
      · have h1 : 0 < v := by omega
        have HS : Hid (more 16 (by omega) (v / 16) ((⟨#[hx (v % 16)]⟩ : ByteArray) ++ s).data.toList = dgs 16 (by omega) u) := by
          unfold Hid
          rw [ahead_list, ← HM.out, ← more_step 16 (by omega) v s.data.toList HE.out]
        clear hend h0
        go_wp2
        go_quiet (fail)
        rw [d16_at (v % 16) (by omega)]
        go_wp2
        refine ⟨⟨v / 16, t + nq, ⟨#[hx (v % 16)]⟩ ++ s, ?_, rfl, ?_, ?_, ?_, rfl⟩, ?_⟩
        · exact congrArg (Value.int .u64) (by omega)
        · omega
        · have hlen := more_len 16 (by omega) (v / 16) ((⟨#[hx (v % 16)]⟩ : ByteArray) ++ s).data.toList
          rw [HS.out] at hlen
          have h20 := dgs_length_lt (b := 16) (by omega) 19 u (by omega)
          simp only [Array.length_toList, ByteArray.size_data] at hlen
          omega
        · exact HS.out
        · rw [emptyOf_ahead]; simp only [intOf]; omega


set_option maxHeartbeats 1000000 in
theorem refencode_any (s : ByteArray) (w : World) (hs : s.size ≤ 1000000) :
    Calls Tryz.prog 26 #[.string s] w fun e w' => e = .returned (.string (Ck.encS s)) ∧ Below w.heap.size w w' := by
  by_cases h : s.data.toList = []
  · have he := empty_of h
    have HE := hide (Ck.encS_empty h)
    clear h
    go_enter Tryz.func26, Tryz.ntmps26
    go_wp2_with fail
    go_ret
    exact ⟨ret_str HE.out.symm, Below.refl _ _⟩
  · have he := empty_not h
    have HE := hide (Ck.encS_some h)
    have hx := Ck.hexS_le s.size (by omega)
    clear h
    go_enter Tryz.func26, Tryz.ntmps26
    go_wp2_with fail
    refine (refDigits16 s.size (by omega) _).mono ?_
    rintro e w1 ⟨rfl, n, rfl⟩
    rw [show (⟨(dgs 16 (by omega) s.size).toArray⟩ : ByteArray) = Ck.hexS s.size from rfl]
    go_wp2_with fail
    go_ret
    exact ⟨ret_str HE.out.symm, Ck.below_drewN _ _⟩

/-- The library's two tables that are read. -/
structure TT (w : World) : Prop where
  a : Tabs w
  b : Ck.Tabs w
theorem TT.below {w w' : World} (h : TT w) (hb : Below w.heap.size w w') : TT w' := ⟨h.a.below hb, h.b.below hb⟩

/- What Write answers. -/
def wmK (c : Bool) : Int := if c then 2 else 1
def wmZ (m : Ms) (c : Bool) : Int := if c then 0 else m.b.length
def wmL (m : Ms) (c : Bool) : List Fd := wiL m.L (wmK c) (wmZ m c)
def wmD (m : Ms) (c : Bool) : Nat := wiE m.L (wmK c) (wmZ m c)
def wmB (m : Ms) (c : Bool) : ByteArray := if c then Ck.encS (Ck.bs m.b) ++ ⟨#[48, 13, 10, 13, 10]⟩ else Ck.bs m.b
def wmF (m : Ms) (c : Bool) : Int := if wmD m c ≠ 0 then wmD m c else if 4000 < (Hd.wrL (wmL m c)).length then 2 else 0
def wmE (m : Ms) (c : Bool) : Int := if rtB m.s && rightF m.L && decide (m.b.length ≤ 20000) then wmF m c else 1
def wmT (m : Ms) (c : Bool) : ByteArray := Sr.wrS m.s ++ ⟨#[13, 10]⟩ ++ Hd.bs (Hd.wrL (wmL m c)) ++ ⟨#[13, 10]⟩ ++ wmB m c
def wmS (m : Ms) (c : Bool) : ByteArray := if wmE m c = 0 then wmT m c else ⟨#[]⟩

theorem wi_len {L : List Fd} {K Z : Int} : (wiL L K Z).length ≤ 40 := by
  by_cases h : wiE L K Z = 0
  · exact small_le (wi_okay h).2.2.2.2.2.1
  · rw [wi_bad h]; exact Nat.zero_le _

/-- What fieldLines answers. -/
theorem lines_any (L : List Fd) (v : Value) (K Z : Int) (w : World) (hr : Row w v L) (hl : L.length ≤ 50) (hS : Sh L) (ht : Tabs w) :
    Calls Tryz.prog 23 #[v, .agg #[.int .i64 K, .int .i64 Z]] w fun en w' => en = .returned (.tuple #[.string (if wiE L K Z = 0 then Hd.prS (wiL L K Z) else ⟨#[]⟩), .int .i64 (if wiE L K Z = 0 then Hd.prE (wiL L K Z) else (wiE L K Z : Nat))]) ∧ Below w.heap.size w w' := by
  have hB : Below w.heap.size w (w.alloc (.cells #[.int .i64 K, .int .i64 Z] 35)) := (Below.refl _ _).alloc (Nat.le_refl _) _
  have hT := Blk.new w 35 [.int .i64 K, .int .i64 Z]
  change Blk (w.alloc (.cells #[.int .i64 K, .int .i64 Z] 35)) _ _ _ at hT
  have hw := with_any L v K Z (w.alloc (.cells #[.int .i64 K, .int .i64 Z] 35)) (hr.below hB) hl hS (ht.below hB)
  have hp := fun r W hW => Hd.print_any (wiL L K Z) r W hW (Nat.le_trans wi_len (by decide)) (wi_short K hS)
  have c0 := hT.cell 0 _ rfl
  have c1 := hT.cell 1 _ rfl
  clear hr hT
  cases he : wiE L K Z with
  | zero =>
    rw [he] at hw
    rw [if_pos rfl, if_pos rfl]
    go_enter Tryz.func23, Tryz.ntmps23
    go_wp2_with fail
    refine hw.mono ?_
    rintro en w1 ⟨r, rfl, hO, hb1⟩
    go_wp2_with fail
    refine (hp r _ hO.row).mono ?_
    rintro en w2 ⟨rfl, hb2⟩
    go_wp2_with fail
    go_ret2
    exact ⟨rfl, (hB.trans (hb1.mono hB.size)).trans (hb2.mono (hB.trans (hb1.mono hB.size)).size)⟩
  | succ k =>
    rw [he] at hw
    rw [if_neg (by omega), if_neg (by omega)]
    generalize hk : ((k + 1 : Nat) : Int) = e at hw ⊢
    have he0 : (e == 0) = false := by have : e ≠ 0 := by omega
                                      simpa using this
    have he1 : (e != 0) = true := by simp [bne, he0]
    clear hk
    go_enter Tryz.func23, Tryz.ntmps23
    go_wp2_with fail
    refine hw.mono ?_
    rintro en w1 ⟨r, rfl, hO, hb1⟩
    go_wp2_with fail
    go_ret2
    exact ⟨rfl, hB.trans (hb1.mono hB.size)⟩

end Go.Proofs.YtmpijlaidnhpnaaGreatDoor
