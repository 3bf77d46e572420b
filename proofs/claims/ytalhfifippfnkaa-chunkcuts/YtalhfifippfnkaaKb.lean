/- The reader in memory; the walks of what a line does. -/
import Derived.Test.YtalhfifippfnkaaKa
import Derived.Laws.EntriesVeiled
namespace Go.Proofs.Ytalhfifippfnkaa
set_option linter.unusedVariables false
set_option linter.unusedSimpArgs false
open Go.RowKit

theorem Try.info5 : (Try.prog.info? 5).map (fun i => (i.zero, i.size, i.bytes)) = some (some (.int .u8 0), 1, 1) := by kernel_rfl

/-- What a call owns stays owned behind what turns nothing of old. -/
theorem owns_below {w w' : World} {base : Nat} {e : TypeId} {size : Nat} {v : Value} {n : Nat} {xs : List Value} (h : w.ownsRow base e size v n xs) (hb : Below w.heap.size w w') : w'.ownsRow base e size v n xs := by
  refine ⟨h.1, ?_⟩
  rcases h.2 with h | ⟨g, cap, cur, h1, h2, h3, h4⟩
  · exact Or.inl h
  · exact Or.inr ⟨g, cap, cur, h1, h2, (hb.block g (Array.getElem?_eq_some_iff.1 h3).1).trans h3, h4⟩
/-- Bytes as cells. -/
def u8s (l : List UInt8) : List Value := l.map fun c => .int .u8 (c.toNat : Int)
theorem u8s_length (l : List UInt8) : (u8s l).length = l.length := by simp [u8s]
theorem u8s_append (l m : List UInt8) : u8s (l ++ m) = u8s l ++ u8s m := by simp [u8s]
/-- Owned bytes. -/
def Own (b : Nat) (w : World) (v : Value) (l : List UInt8) : Prop := w.ownsRow b 5 1 v l.length (u8s l)
theorem Own.nil (b : Nat) (w : World) : Own b w (.slice none 0 0) [] := World.ownsRow_nil _ _ _ _
theorem Own.below {b : Nat} {w w' : World} {v : Value} {l : List UInt8} (h : Own b w v l) (hb : Below w.heap.size w w') : Own b w' v l := owns_below h hb
theorem Own.other {N : Nat} {w : World} {v : Value} {l : List UInt8} (h : Own (N + 1) w v l) (j : Nat) (x : Value) : Own (N + 1) (w.setCell ⟨N, j, none⟩ x) v l := by
  refine ⟨h.1, ?_⟩
  rcases h.2 with h | ⟨g, cap, cur, h1, h2, h3, h4⟩
  · exact Or.inl h
  · exact Or.inr ⟨g, cap, cur, h1, h2, (Below.heap_setCell w ⟨N, j, none⟩ x g (by show g ≠ N; omega)).trans h3, h4⟩
/-- Owned bytes as a text. -/
theorem conv_own {w : World} {base : Nat} {v : Value} {l : List UInt8} (h : Own base w v l) : Sem.run Try.prog (convert 32 9 v) w = .ok (.string (bs l)) w := by
  rcases h.2 with ⟨rfl, h0⟩ | ⟨g, cap, cur, rfl, h2, h3, h4, h5, h6, h7⟩
  · obtain rfl : l = [] := List.length_eq_zero_iff.1 h0
    exact run_convert_bytes_nil (P := Try.prog) w 32 5 Try.underlying32 Try.underlying5 0 0 9 Try.underlying9
  · have hcell : ∀ j (hj : j < l.length), w.cell? ((⟨g, 0, none⟩ : Addr).add j) = some (.int .u8 (l[j].toNat : Int)) := by
      intro j hj
      rw [add_none, Nat.zero_add, cell_of_row w g j cur 5 (0, 0) h3]
      have : (u8s l)[j]? = some (.int .u8 (l[j].toNat : Int)) := by simp [u8s, hj]
      rw [← h7, List.getElem?_take, if_pos (by omega)] at this
      simpa using this
    exact run_convert_bytes_back (P := Try.prog) w 32 9 5 ⟨g, 0, none⟩ cap l Try.underlying32 Try.underlying5 Try.underlying9 hcell

/-- The reader lies in block N: what was read so far, what is still to be read, the data. -/
structure Rd (w : World) (N : Nat) (k : K) (r : ByteArray) (v : Value) (d : List UInt8) : Prop where
  c0 : w.cell? ⟨N, 0, none⟩ = some (.int .i64 k.st)
  c1 : w.cell? ⟨N, 1, none⟩ = some (.string k.line)
  c2 : w.cell? ⟨N, 2, none⟩ = some (.int .i64 k.left)
  c3 : w.cell? ⟨N, 3, none⟩ = some (.int .i64 k.size)
  c4 : w.cell? ⟨N, 4, none⟩ = some (.string r)
  c5 : w.cell? ⟨N, 5, none⟩ = some v
  lt : N < w.heap.size
  fz : ∀ o, w.frozen? ⟨N, o, none⟩ = false
  ow : Own (N + 1) w v d
theorem Rd.below {w w' : World} {N : Nat} {k : K} {r : ByteArray} {v : Value} {d : List UInt8} (h : Rd w N k r v d) (hb : Below w.heap.size w w') : Rd w' N k r v d := by
  have hc : ∀ j, w'.cell? ⟨N, j, none⟩ = w.cell? ⟨N, j, none⟩ := fun j => hb.cell (p := ⟨N, j, none⟩) h.lt
  exact ⟨(hc 0).trans h.c0, (hc 1).trans h.c1, (hc 2).trans h.c2, (hc 3).trans h.c3, (hc 4).trans h.c4, (hc 5).trans h.c5, Nat.lt_of_lt_of_le h.lt hb.size, fun o => (hb.frozen (p := ⟨N, o, none⟩) h.lt).trans (h.fz o), h.ow.below hb⟩
theorem Rd.s0 {w : World} {N : Nat} {k : K} {r : ByteArray} {v : Value} {d : List UInt8} (h : Rd w N k r v d) (x : Int) : Rd (w.setCell ⟨N, 0, none⟩ (.int .i64 x)) N ⟨x, k.line, k.left, k.size⟩ r v d :=
  ⟨World.cell?_setCell_same _ _ _ h.c0, (World.cell?_setCell_other _ _ _ _ (by simp)).trans h.c1, (World.cell?_setCell_other _ _ _ _ (by simp)).trans h.c2, (World.cell?_setCell_other _ _ _ _ (by simp)).trans h.c3, (World.cell?_setCell_other _ _ _ _ (by simp)).trans h.c4, (World.cell?_setCell_other _ _ _ _ (by simp)).trans h.c5, by simpa using h.lt, fun o => by rw [World.frozen?_setCell]; exact h.fz o, h.ow.other _ _⟩
theorem Rd.s1 {w : World} {N : Nat} {k : K} {r : ByteArray} {v : Value} {d : List UInt8} (h : Rd w N k r v d) (x : ByteArray) : Rd (w.setCell ⟨N, 1, none⟩ (.string x)) N (kl k x) r v d :=
  ⟨(World.cell?_setCell_other _ _ _ _ (by simp)).trans h.c0, World.cell?_setCell_same _ _ _ h.c1, (World.cell?_setCell_other _ _ _ _ (by simp)).trans h.c2, (World.cell?_setCell_other _ _ _ _ (by simp)).trans h.c3, (World.cell?_setCell_other _ _ _ _ (by simp)).trans h.c4, (World.cell?_setCell_other _ _ _ _ (by simp)).trans h.c5, by simpa using h.lt, fun o => by rw [World.frozen?_setCell]; exact h.fz o, h.ow.other _ _⟩
theorem Rd.s2 {w : World} {N : Nat} {k : K} {r : ByteArray} {v : Value} {d : List UInt8} (h : Rd w N k r v d) (x : Int) : Rd (w.setCell ⟨N, 2, none⟩ (.int .i64 x)) N ⟨k.st, k.line, x, k.size⟩ r v d :=
  ⟨(World.cell?_setCell_other _ _ _ _ (by simp)).trans h.c0, (World.cell?_setCell_other _ _ _ _ (by simp)).trans h.c1, World.cell?_setCell_same _ _ _ h.c2, (World.cell?_setCell_other _ _ _ _ (by simp)).trans h.c3, (World.cell?_setCell_other _ _ _ _ (by simp)).trans h.c4, (World.cell?_setCell_other _ _ _ _ (by simp)).trans h.c5, by simpa using h.lt, fun o => by rw [World.frozen?_setCell]; exact h.fz o, h.ow.other _ _⟩
theorem Rd.s3 {w : World} {N : Nat} {k : K} {r : ByteArray} {v : Value} {d : List UInt8} (h : Rd w N k r v d) (x : Int) : Rd (w.setCell ⟨N, 3, none⟩ (.int .i64 x)) N ⟨k.st, k.line, k.left, x⟩ r v d :=
  ⟨(World.cell?_setCell_other _ _ _ _ (by simp)).trans h.c0, (World.cell?_setCell_other _ _ _ _ (by simp)).trans h.c1, (World.cell?_setCell_other _ _ _ _ (by simp)).trans h.c2, World.cell?_setCell_same _ _ _ h.c3, (World.cell?_setCell_other _ _ _ _ (by simp)).trans h.c4, (World.cell?_setCell_other _ _ _ _ (by simp)).trans h.c5, by simpa using h.lt, fun o => by rw [World.frozen?_setCell]; exact h.fz o, h.ow.other _ _⟩
theorem Rd.s4 {w : World} {N : Nat} {k : K} {r : ByteArray} {v : Value} {d : List UInt8} (h : Rd w N k r v d) (x : ByteArray) : Rd (w.setCell ⟨N, 4, none⟩ (.string x)) N k x v d :=
  ⟨(World.cell?_setCell_other _ _ _ _ (by simp)).trans h.c0, (World.cell?_setCell_other _ _ _ _ (by simp)).trans h.c1, (World.cell?_setCell_other _ _ _ _ (by simp)).trans h.c2, (World.cell?_setCell_other _ _ _ _ (by simp)).trans h.c3, World.cell?_setCell_same _ _ _ h.c4, (World.cell?_setCell_other _ _ _ _ (by simp)).trans h.c5, by simpa using h.lt, fun o => by rw [World.frozen?_setCell]; exact h.fz o, h.ow.other _ _⟩

theorem hexE_is (ln : ByteArray) : rdE 16 (trimS (befS 59 ln)).data.toList = hexE ln.data.toList := by rw [trimS_list, befS_list]; rfl
theorem hexN_is (ln : ByteArray) : rdN 16 (trimS (befS 59 ln)).data.toList = hexN ln.data.toList := by rw [trimS_list, befS_list]; rfl
theorem hexE_cases (l : List UInt8) : hexE l = 10 ∨ hexE l = 2 ∨ hexE l = 0 := by
  unfold hexE rdE; split
  · exact Or.inl rfl
  · split
    · exact Or.inr (Or.inl rfl)
    · exact Or.inr (Or.inr rfl)

set_option maxRecDepth 100000 in
set_option maxHeartbeats 2000000 in
theorem begin_any {w : World} {N : Nat} {k : K} {r : ByteArray} {v : Value} {d : List UInt8} (h : Rd w N k r v d) (ln : ByteArray) (hl : ln.size ≤ 1000) (hst : k.st = 0) (hz0 : 0 ≤ k.size) (hz1 : k.size ≤ 20000) :
    Calls Try.prog 17 #[.pointer (some ⟨N, 0, none⟩), .string ln] w fun e w' => e = .returned (.int .i64 ((dd k ln.data.toList).1 : Nat)) ∧ Rd w' N (dd k ln.data.toList).2 r v d ∧ Below N w w' := by
  have b1 := befS_size 59 ln
  have b2 := trimS_size (befS 59 ln)
  have hM := rdN_le 16 (trimS (befS 59 ln)).data.toList
  rw [hexN_is] at hM
  have hE := hexE_cases ln.data.toList
  have HDD : Hid (dd k ln.data.toList = if hexE ln.data.toList = 10 then (33, k) else if hexE ln.data.toList ≠ 0 ∨ 20000 - k.size < (hexN ln.data.toList : Int) then (2, k)
    else if hexN ln.data.toList = 0 then (0, ⟨3, k.line, k.left, k.size⟩) else (0, ⟨1, k.line, (hexN ln.data.toList : Int), k.size⟩)) := by
    unfold Hid dd; rw [if_pos hst]
  have HX := hide (hexE_is ln)
  have HY := hide (hexN_is ln)
  generalize dd k ln.data.toList = D at HDD ⊢
  generalize hexE ln.data.toList = E at HDD HX hE
  generalize hexN ln.data.toList = M at HDD HY hM
  clear hst
  rcases hE with rfl | rfl | rfl
  · have HD : Hid (D = (33, k)) := by unfold Hid; rw [HDD.out, if_pos rfl]
    clear HDD
    go_enter Try.func17, Try.ntmps17
    go_wp2_with fail
    refine (cut_any ln 59 _ (by omega)).mono ?_
    rintro e w1 ⟨rfl, n1, rfl⟩
    go_wp2_with fail
    refine (trim_any _ _ (by omega)).mono ?_
    rintro e w2 ⟨rfl, hb2⟩
    go_wp2_with fail
    refine (readHex_any _ _ (maxLen_of (by omega))).mono ?_
    rintro e w3 ⟨rfl, hb3⟩
    rw [HX.out, HY.out]
    have B1 := below_drewN w n1
    have B2 := B1.trans (hb2.mono B1.size)
    have B3 := B2.trans (hb3.mono B2.size)
    have hR := h.below B3
    go_wp2_with fail
    go_ret
    exact ⟨by rw [HD.out]; rfl, by rw [HD.out]; exact hR, B3.mono (Nat.le_of_lt h.lt)⟩
  · have HD : Hid (D = (2, k)) := by unfold Hid; rw [HDD.out, if_neg (by decide), if_pos (Or.inl (by decide))]
    clear HDD
    go_enter Try.func17, Try.ntmps17
    go_wp2_with fail
    refine (cut_any ln 59 _ (by omega)).mono ?_
    rintro e w1 ⟨rfl, n1, rfl⟩
    go_wp2_with fail
    refine (trim_any _ _ (by omega)).mono ?_
    rintro e w2 ⟨rfl, hb2⟩
    go_wp2_with fail
    refine (readHex_any _ _ (maxLen_of (by omega))).mono ?_
    rintro e w3 ⟨rfl, hb3⟩
    rw [HX.out, HY.out]
    have B1 := below_drewN w n1
    have B2 := B1.trans (hb2.mono B1.size)
    have B3 := B2.trans (hb3.mono B2.size)
    have hR := h.below B3
    go_wp2_with fail
    go_ret
    exact ⟨by rw [HD.out]; rfl, by rw [HD.out]; exact hR, B3.mono (Nat.le_of_lt h.lt)⟩
  · rw [if_neg (by decide)] at HDD
    by_cases g1 : 20000 - k.size < (M : Int)
    · have HD : Hid (D = (2, k)) := by unfold Hid; rw [HDD.out, if_pos (Or.inr g1)]
      clear HDD
      go_enter Try.func17, Try.ntmps17
      go_wp2_with fail
      refine (cut_any ln 59 _ (by omega)).mono ?_
      rintro e w1 ⟨rfl, n1, rfl⟩
      go_wp2_with fail
      refine (trim_any _ _ (by omega)).mono ?_
      rintro e w2 ⟨rfl, hb2⟩
      go_wp2_with fail
      refine (readHex_any _ _ (maxLen_of (by omega))).mono ?_
      rintro e w3 ⟨rfl, hb3⟩
      rw [HX.out, HY.out]
      have B1 := below_drewN w n1
      have B2 := B1.trans (hb2.mono B1.size)
      have B3 := B2.trans (hb3.mono B2.size)
      have hR := h.below B3
      have c3 := hR.c3
      go_wp2_with fail
      go_ret
      exact ⟨by rw [HD.out]; rfl, by rw [HD.out]; exact hR, B3.mono (Nat.le_of_lt h.lt)⟩
    · rw [if_neg (by simp; omega)] at HDD
      have hg1 : decide (20000 - k.size < (M : Int)) = false := decide_eq_false g1
      by_cases g2 : M = 0
      · have HD : Hid (D = (0, ⟨3, k.line, k.left, k.size⟩)) := by unfold Hid; rw [HDD.out, if_pos g2]
        subst g2
        clear HDD
        go_enter Try.func17, Try.ntmps17
        go_wp2_with fail
        refine (cut_any ln 59 _ (by omega)).mono ?_
        rintro e w1 ⟨rfl, n1, rfl⟩
        go_wp2_with fail
        refine (trim_any _ _ (by omega)).mono ?_
        rintro e w2 ⟨rfl, hb2⟩
        go_wp2_with fail
        refine (readHex_any _ _ (maxLen_of (by omega))).mono ?_
        rintro e w3 ⟨rfl, hb3⟩
        rw [HX.out, HY.out]
        have B1 := below_drewN w n1
        have B2 := B1.trans (hb2.mono B1.size)
        have B3 := B2.trans (hb3.mono B2.size)
        have hR := h.below B3
        have c0 := hR.c0
        have c3 := hR.c3
        have fz := hR.fz
        go_wp2_with fail
        go_ret
        exact ⟨by rw [HD.out]; rfl, by rw [HD.out]; exact hR.s0 3, (B3.mono (Nat.le_of_lt h.lt)).setCell (Nat.le_refl N) _⟩
      · have HD : Hid (D = (0, ⟨1, k.line, (M : Int), k.size⟩)) := by unfold Hid; rw [HDD.out, if_neg g2]
        have hg2 : ((M : Int) == 0) = false := by rw [beq_eq_false_iff_ne]; omega
        clear HDD
        go_enter Try.func17, Try.ntmps17
        go_wp2_with fail
        refine (cut_any ln 59 _ (by omega)).mono ?_
        rintro e w1 ⟨rfl, n1, rfl⟩
        go_wp2_with fail
        refine (trim_any _ _ (by omega)).mono ?_
        rintro e w2 ⟨rfl, hb2⟩
        go_wp2_with fail
        refine (readHex_any _ _ (maxLen_of (by omega))).mono ?_
        rintro e w3 ⟨rfl, hb3⟩
        rw [HX.out, HY.out]
        have B1 := below_drewN w n1
        have B2 := B1.trans (hb2.mono B1.size)
        have B3 := B2.trans (hb3.mono B2.size)
        have hR := h.below B3
        have c0 := hR.c0
        have c2 := hR.c2
        have c3 := hR.c3
        have fz := hR.fz
        go_wp2_with fail
        go_ret
        exact ⟨by rw [HD.out]; rfl, by rw [HD.out]; exact (hR.s0 1).s2 (M : Int), ((B3.mono (Nat.le_of_lt h.lt)).setCell (Nat.le_refl N) _).setCell (Nat.le_refl N) _⟩

set_option maxRecDepth 100000 in
set_option maxHeartbeats 1000000 in
theorem end_any {w : World} {N : Nat} {k : K} {r : ByteArray} {v : Value} {d : List UInt8} (h : Rd w N k r v d) (ln : ByteArray) (hst : k.st = 2) :
    Calls Try.prog 18 #[.pointer (some ⟨N, 0, none⟩), .string ln] w fun e w' => e = .returned (.int .i64 ((dd k ln.data.toList).1 : Nat)) ∧ Rd w' N (dd k ln.data.toList).2 r v d ∧ Below N w w' := by
  have HDD : Hid (dd k ln.data.toList = if ln.data.toList = [] then (0, ⟨0, k.line, k.left, k.size⟩) else (33, k)) := by
    unfold Hid dd; rw [if_neg (by rw [hst]; decide), if_pos hst]
  generalize dd k ln.data.toList = D at HDD ⊢
  clear hst
  have c0 := h.c0
  have fz := h.fz
  by_cases h0 : ln.data.toList = []
  · have he := empty_of h0
    have HD : Hid (D = (0, ⟨0, k.line, k.left, k.size⟩)) := by unfold Hid; rw [HDD.out, if_pos h0]
    clear HDD h0
    go_enter Try.func18, Try.ntmps18
    go_wp2_with fail
    go_ret
    exact ⟨by rw [HD.out]; rfl, by rw [HD.out]; exact h.s0 0, (Below.refl _ _).setCell (Nat.le_refl N) _⟩
  · have he := empty_not h0
    have HD : Hid (D = (33, k)) := by unfold Hid; rw [HDD.out, if_neg h0]
    clear HDD h0
    go_enter Try.func18, Try.ntmps18
    go_wp2_with fail
    go_ret
    exact ⟨by rw [HD.out]; rfl, by rw [HD.out]; exact h, Below.refl _ _⟩

set_option maxRecDepth 100000 in
set_option maxHeartbeats 1000000 in
theorem tail_any {w : World} {N : Nat} {k : K} {r : ByteArray} {v : Value} {d : List UInt8} (h : Rd w N k r v d) (ln : ByteArray) (hst : k.st = 3) :
    Calls Try.prog 19 #[.pointer (some ⟨N, 0, none⟩), .string ln] w fun e w' => e = .returned (.int .i64 ((dd k ln.data.toList).1 : Nat)) ∧ Rd w' N (dd k ln.data.toList).2 r v d ∧ Below N w w' := by
  have HDD : Hid (dd k ln.data.toList = if ln.data.toList = [] then (0, ⟨4, k.line, k.left, k.size⟩) else (0, k)) := by
    unfold Hid dd; rw [if_neg (by rw [hst]; decide), if_neg (by rw [hst]; decide)]
  generalize dd k ln.data.toList = D at HDD ⊢
  clear hst
  have c0 := h.c0
  have fz := h.fz
  by_cases h0 : ln.data.toList = []
  · have he := empty_of h0
    have HD : Hid (D = (0, ⟨4, k.line, k.left, k.size⟩)) := by unfold Hid; rw [HDD.out, if_pos h0]
    clear HDD h0
    go_enter Try.func19, Try.ntmps19
    go_wp2_with fail
    go_ret
    exact ⟨by rw [HD.out]; rfl, by rw [HD.out]; exact h.s0 4, (Below.refl _ _).setCell (Nat.le_refl N) _⟩
  · have he := empty_not h0
    have HD : Hid (D = (0, k)) := by unfold Hid; rw [HDD.out, if_neg h0]
    clear HDD h0
    go_enter Try.func19, Try.ntmps19
    go_wp2_with fail
    go_ret
    exact ⟨by rw [HD.out]; rfl, by rw [HD.out]; exact h, Below.refl _ _⟩

set_option maxRecDepth 100000 in
set_option maxHeartbeats 1000000 in
theorem deed_0 {w : World} {N : Nat} {k : K} {r : ByteArray} {v : Value} {d : List UInt8} (h : Rd w N k r v d) (hst : k.st = 0) :
    Calls Try.prog 13 #[.pointer (some ⟨N, 0, none⟩)] w fun e w' => e = .returned (.func (.func 17) #[.pointer (some ⟨N, 0, none⟩)] #[]) ∧ w' = w := by
  have c0 := h.c0
  rw [hst] at c0
  clear hst h
  go_enter Try.func13, Try.ntmps13
  go_wp2_with fail
  go_ret
  exact ⟨rfl, rfl⟩

set_option maxRecDepth 100000 in
set_option maxHeartbeats 1000000 in
theorem deed_2 {w : World} {N : Nat} {k : K} {r : ByteArray} {v : Value} {d : List UInt8} (h : Rd w N k r v d) (hst : k.st = 2) :
    Calls Try.prog 13 #[.pointer (some ⟨N, 0, none⟩)] w fun e w' => e = .returned (.func (.func 18) #[.pointer (some ⟨N, 0, none⟩)] #[]) ∧ w' = w := by
  have c0 := h.c0
  rw [hst] at c0
  clear hst h
  go_enter Try.func13, Try.ntmps13
  go_wp2_with fail
  go_ret
  exact ⟨rfl, rfl⟩

set_option maxRecDepth 100000 in
set_option maxHeartbeats 1000000 in
theorem deed_3 {w : World} {N : Nat} {k : K} {r : ByteArray} {v : Value} {d : List UInt8} (h : Rd w N k r v d) (hst : k.st = 3) :
    Calls Try.prog 13 #[.pointer (some ⟨N, 0, none⟩)] w fun e w' => e = .returned (.func (.func 19) #[.pointer (some ⟨N, 0, none⟩)] #[]) ∧ w' = w := by
  have c0 := h.c0
  rw [hst] at c0
  clear hst h
  go_enter Try.func13, Try.ntmps13
  go_wp2_with fail
  go_ret
  exact ⟨rfl, rfl⟩

end Go.Proofs.Ytalhfifippfnkaa
