/- The reader in memory; the walks of what a line does. The walk of the taking of a line. A load may be taken first where all that could come ahead of it is done before the region's first store: the library's law on what is held (Derived.OrdersHeld), for a region that stores into the very cells that it loads. -/
import Derived.Test.YtmpijlaidnhpnaaGreatJKw
import Derived.Laws.EntriesVeiled
import Derived.OrdersHeld
import Derived.Deep.RegionHeld
namespace Go.Proofs.YtmpijlaidnhpnaaGreat.Ck
set_option linter.unusedVariables false
set_option linter.unusedSimpArgs false
set_option maxRecDepth 100000
open Go.RowKit

theorem Tryz.info5 : (Tryz.prog.info? 5).map (fun i => (i.zero, i.size, i.bytes)) = some (some (.int .u8 0), 1, 1) := by kernel_rfl

/-- What a call owns stays owned behind what turns nothing of old. -/
theorem owns_below {w w' : World} {base : Nat} {e : TypeId} {size : Nat} {v : Value} {n : Nat} {xs : List Value} (h : w.ownsRow base e size v n xs) (hb : Below w.heap.size w w') : w'.ownsRow base e size v n xs := by
  refine ⟨h.1, ?_⟩
  rcases h.2 with h | ⟨g, cap, cur, h1, h2, h3, h4⟩
  · exact Or.inl h
  · exact Or.inr ⟨g, cap, cur, h1, h2, (hb.block g (Array.getElem?_eq_some_iff.1 h3).1).trans h3, h4⟩
/-- Bytes as cells. -/
def u8s (l : List UInt8) : List Value := l.map fun c => .int .u8 (c.toNat : Int)
theorem u8s_append (l m : List UInt8) : u8s (l ++ m) = u8s l ++ u8s m := by simp [u8s]
/-- Owned bytes. -/
def Own (b : Nat) (w : World) (v : Value) (l : List UInt8) : Prop := w.ownsRow b 5 1 v l.length (u8s l)
theorem Own.nil (b : Nat) (w : World) : Own b w (.slice none 0 0) [] := World.ownsRow_nil _ _ _ _
theorem Own.below {b : Nat} {w w' : World} {v : Value} {l : List UInt8} (h : Own b w v l) (hb : Below w.heap.size w w') : Own b w' v l := owns_below h hb
theorem Own.other {N : Nat} {w : World} {v : Value} {l : List UInt8} (h : Own (N + 1) w v l) (j : Nat) (x : Value) : Own (N + 1) (w.setCell ⟨N, j, none⟩ x) v l := by
  refine ⟨h.1, ?_⟩
  rcases h.2 with h | ⟨g, cap, cur, h1, h2, h3, h4⟩
  · exact Or.inl h
  · exact Or.inr ⟨g, cap, cur, h1, h2, (Below.heap_setCell w ⟨N, j, none⟩ x g (by show g ≠ N; omega)).trans h3, h4⟩
/-- Owned bytes as a text. -/
theorem conv_own {w : World} {base : Nat} {v : Value} {l : List UInt8} (h : Own base w v l) : Sem.run Tryz.prog (convert 55 9 v) w = .ok (.string (bs l)) w := by
  rcases h.2 with ⟨rfl, h0⟩ | ⟨g, cap, cur, rfl, h2, h3, h4, h5, h6, h7⟩
  · obtain rfl : l = [] := List.length_eq_zero_iff.1 h0
    exact run_convert_bytes_nil (P := Tryz.prog) w 55 5 Tryz.underlying55 Tryz.underlying5 0 0 9 Tryz.underlying9
  · have hcell : ∀ j (hj : j < l.length), w.cell? ((⟨g, 0, none⟩ : Addr).add j) = some (.int .u8 (l[j].toNat : Int)) := by
      intro j hj
      rw [add_none, Nat.zero_add, cell_of_row w g j cur 5 (0, 0) h3]
      have : (u8s l)[j]? = some (.int .u8 (l[j].toNat : Int)) := by simp [u8s, hj]
      rw [← h7, List.getElem?_take, if_pos (by omega)] at this
      simpa using this
    exact run_convert_bytes_back (P := Tryz.prog) w 55 9 5 ⟨g, 0, none⟩ cap l Tryz.underlying55 Tryz.underlying5 Tryz.underlying9 hcell

/-- The reader lies in block N: what was read so far, what is still to be read, the data. -/
structure Rd (w : World) (N : Nat) (k : K) (r : ByteArray) (v : Value) (d : List UInt8) : Prop where
  c0 : w.cell? ⟨N, 0, none⟩ = some (.int .i64 k.st)
  c1 : w.cell? ⟨N, 1, none⟩ = some (.string k.line)
  c2 : w.cell? ⟨N, 2, none⟩ = some (.int .i64 k.left)
  c3 : w.cell? ⟨N, 3, none⟩ = some (.int .i64 k.size)
  c4 : w.cell? ⟨N, 4, none⟩ = some (.string r)
  c5 : w.cell? ⟨N, 5, none⟩ = some v
  lt : N < w.heap.size
  fz : ∀ o, w.frozen? ⟨N, o, none⟩ = false
  ow : Own (N + 1) w v d
theorem Rd.below {w w' : World} {N : Nat} {k : K} {r : ByteArray} {v : Value} {d : List UInt8} (h : Rd w N k r v d) (hb : Below w.heap.size w w') : Rd w' N k r v d := by
  have hc : ∀ j, w'.cell? ⟨N, j, none⟩ = w.cell? ⟨N, j, none⟩ := fun j => hb.cell (p := ⟨N, j, none⟩) h.lt
  exact ⟨(hc 0).trans h.c0, (hc 1).trans h.c1, (hc 2).trans h.c2, (hc 3).trans h.c3, (hc 4).trans h.c4, (hc 5).trans h.c5, Nat.lt_of_lt_of_le h.lt hb.size, fun o => (hb.frozen (p := ⟨N, o, none⟩) h.lt).trans (h.fz o), h.ow.below hb⟩
theorem Rd.s0 {w : World} {N : Nat} {k : K} {r : ByteArray} {v : Value} {d : List UInt8} (h : Rd w N k r v d) (x : Int) : Rd (w.setCell ⟨N, 0, none⟩ (.int .i64 x)) N ⟨x, k.line, k.left, k.size⟩ r v d :=
  ⟨World.cell?_setCell_same _ _ _ h.c0, (World.cell?_setCell_other _ _ _ _ (by simp)).trans h.c1, (World.cell?_setCell_other _ _ _ _ (by simp)).trans h.c2, (World.cell?_setCell_other _ _ _ _ (by simp)).trans h.c3, (World.cell?_setCell_other _ _ _ _ (by simp)).trans h.c4, (World.cell?_setCell_other _ _ _ _ (by simp)).trans h.c5, by simpa using h.lt, fun o => by rw [World.frozen?_setCell]; exact h.fz o, h.ow.other _ _⟩
theorem Rd.s1 {w : World} {N : Nat} {k : K} {r : ByteArray} {v : Value} {d : List UInt8} (h : Rd w N k r v d) (x : ByteArray) : Rd (w.setCell ⟨N, 1, none⟩ (.string x)) N (kl k x) r v d :=
  ⟨(World.cell?_setCell_other _ _ _ _ (by simp)).trans h.c0, World.cell?_setCell_same _ _ _ h.c1, (World.cell?_setCell_other _ _ _ _ (by simp)).trans h.c2, (World.cell?_setCell_other _ _ _ _ (by simp)).trans h.c3, (World.cell?_setCell_other _ _ _ _ (by simp)).trans h.c4, (World.cell?_setCell_other _ _ _ _ (by simp)).trans h.c5, by simpa using h.lt, fun o => by rw [World.frozen?_setCell]; exact h.fz o, h.ow.other _ _⟩
theorem Rd.s2 {w : World} {N : Nat} {k : K} {r : ByteArray} {v : Value} {d : List UInt8} (h : Rd w N k r v d) (x : Int) : Rd (w.setCell ⟨N, 2, none⟩ (.int .i64 x)) N ⟨k.st, k.line, x, k.size⟩ r v d :=
  ⟨(World.cell?_setCell_other _ _ _ _ (by simp)).trans h.c0, (World.cell?_setCell_other _ _ _ _ (by simp)).trans h.c1, World.cell?_setCell_same _ _ _ h.c2, (World.cell?_setCell_other _ _ _ _ (by simp)).trans h.c3, (World.cell?_setCell_other _ _ _ _ (by simp)).trans h.c4, (World.cell?_setCell_other _ _ _ _ (by simp)).trans h.c5, by simpa using h.lt, fun o => by rw [World.frozen?_setCell]; exact h.fz o, h.ow.other _ _⟩
theorem Rd.s3 {w : World} {N : Nat} {k : K} {r : ByteArray} {v : Value} {d : List UInt8} (h : Rd w N k r v d) (x : Int) : Rd (w.setCell ⟨N, 3, none⟩ (.int .i64 x)) N ⟨k.st, k.line, k.left, x⟩ r v d :=
  ⟨(World.cell?_setCell_other _ _ _ _ (by simp)).trans h.c0, (World.cell?_setCell_other _ _ _ _ (by simp)).trans h.c1, (World.cell?_setCell_other _ _ _ _ (by simp)).trans h.c2, World.cell?_setCell_same _ _ _ h.c3, (World.cell?_setCell_other _ _ _ _ (by simp)).trans h.c4, (World.cell?_setCell_other _ _ _ _ (by simp)).trans h.c5, by simpa using h.lt, fun o => by rw [World.frozen?_setCell]; exact h.fz o, h.ow.other _ _⟩
theorem Rd.s4 {w : World} {N : Nat} {k : K} {r : ByteArray} {v : Value} {d : List UInt8} (h : Rd w N k r v d) (x : ByteArray) : Rd (w.setCell ⟨N, 4, none⟩ (.string x)) N k x v d :=
  ⟨(World.cell?_setCell_other _ _ _ _ (by simp)).trans h.c0, (World.cell?_setCell_other _ _ _ _ (by simp)).trans h.c1, (World.cell?_setCell_other _ _ _ _ (by simp)).trans h.c2, (World.cell?_setCell_other _ _ _ _ (by simp)).trans h.c3, World.cell?_setCell_same _ _ _ h.c4, (World.cell?_setCell_other _ _ _ _ (by simp)).trans h.c5, by simpa using h.lt, fun o => by rw [World.frozen?_setCell]; exact h.fz o, h.ow.other _ _⟩

theorem hexE_is (ln : ByteArray) : rdE 16 (trimS (befS 59 ln)).data.toList = hexE ln.data.toList := by rw [trimS_list, befS_list]; rfl
theorem hexN_is (ln : ByteArray) : rdN 16 (trimS (befS 59 ln)).data.toList = hexN ln.data.toList := by rw [trimS_list, befS_list]; rfl
theorem hexE_cases (l : List UInt8) : hexE l = 10 ∨ hexE l = 2 ∨ hexE l = 0 := by
  unfold hexE rdE; split
  · exact Or.inl rfl
  · split
    · exact Or.inr (Or.inl rfl)
    · exact Or.inr (Or.inr rfl)

set_option maxRecDepth 100000 in
set_option maxHeartbeats 2000000 in
theorem begin_any {w : World} {N : Nat} {k : K} {r : ByteArray} {v : Value} {d : List UInt8} (h : Rd w N k r v d) (ln : ByteArray) (hl : ln.size ≤ 1000) (hst : k.st = 0) (hz0 : 0 ≤ k.size) (hz1 : k.size ≤ 20000) :
    Calls Tryz.prog 156 #[.pointer (some ⟨N, 0, none⟩), .string ln] w fun e w' => e = .returned (.int .i64 ((dd k ln.data.toList).1 : Nat)) ∧ Rd w' N (dd k ln.data.toList).2 r v d ∧ Below N w w' := by
  have b1 := befS_size 59 ln
  have b2 := trimS_size (befS 59 ln)
  have hM := rdN_le 16 (trimS (befS 59 ln)).data.toList
  rw [hexN_is] at hM
  have hE := hexE_cases ln.data.toList
  have HDD : Hid (dd k ln.data.toList = if hexE ln.data.toList = 10 then (33, k) else if hexE ln.data.toList ≠ 0 ∨ 20000 - k.size < (hexN ln.data.toList : Int) then (2, k)
    else if hexN ln.data.toList = 0 then (0, ⟨3, k.line, k.left, k.size⟩) else (0, ⟨1, k.line, (hexN ln.data.toList : Int), k.size⟩)) := by
    unfold Hid dd; rw [if_pos hst]
  have HX := hide (hexE_is ln)
  have HY := hide (hexN_is ln)
  generalize dd k ln.data.toList = D at HDD ⊢
  generalize hexE ln.data.toList = E at HDD HX hE
  generalize hexN ln.data.toList = M at HDD HY hM
  clear hst
  rcases hE with rfl | rfl | rfl
  · have HD : Hid (D = (33, k)) := by unfold Hid; rw [HDD.out, if_pos rfl]
    clear HDD
    go_enter Tryz.func156, Tryz.ntmps156
    go_wp2_with fail
    refine (cut_any ln 59 _ (by omega)).mono ?_
    rintro e w1 ⟨rfl, n1, rfl⟩
    go_wp2_with fail
    refine (trim_any _ _ (by omega)).mono ?_
    rintro e w2 ⟨rfl, hb2⟩
    go_wp2_with fail
    refine (readHex_any _ _ (maxLen_of (by omega))).mono ?_
    rintro e w3 ⟨rfl, hb3⟩
    rw [HX.out, HY.out]
    have B1 := below_drewN w n1
    have B2 := B1.trans (hb2.mono B1.size)
    have B3 := B2.trans (hb3.mono B2.size)
    have hR := h.below B3
    go_wp2_with fail
    go_ret
    exact ⟨by rw [HD.out]; rfl, by rw [HD.out]; exact hR, B3.mono (Nat.le_of_lt h.lt)⟩
  · have HD : Hid (D = (2, k)) := by unfold Hid; rw [HDD.out, if_neg (by decide), if_pos (Or.inl (by decide))]
    clear HDD
    go_enter Tryz.func156, Tryz.ntmps156
    go_wp2_with fail
    refine (cut_any ln 59 _ (by omega)).mono ?_
    rintro e w1 ⟨rfl, n1, rfl⟩
    go_wp2_with fail
    refine (trim_any _ _ (by omega)).mono ?_
    rintro e w2 ⟨rfl, hb2⟩
    go_wp2_with fail
    refine (readHex_any _ _ (maxLen_of (by omega))).mono ?_
    rintro e w3 ⟨rfl, hb3⟩
    rw [HX.out, HY.out]
    have B1 := below_drewN w n1
    have B2 := B1.trans (hb2.mono B1.size)
    have B3 := B2.trans (hb3.mono B2.size)
    have hR := h.below B3
    go_wp2_with fail
    go_ret
    exact ⟨by rw [HD.out]; rfl, by rw [HD.out]; exact hR, B3.mono (Nat.le_of_lt h.lt)⟩
  · rw [if_neg (by decide)] at HDD
    by_cases g1 : 20000 - k.size < (M : Int)
    · have HD : Hid (D = (2, k)) := by unfold Hid; rw [HDD.out, if_pos (Or.inr g1)]
      clear HDD
      go_enter Tryz.func156, Tryz.ntmps156
      go_wp2_with fail
      refine (cut_any ln 59 _ (by omega)).mono ?_
      rintro e w1 ⟨rfl, n1, rfl⟩
      go_wp2_with fail
      refine (trim_any _ _ (by omega)).mono ?_
      rintro e w2 ⟨rfl, hb2⟩
      go_wp2_with fail
      refine (readHex_any _ _ (maxLen_of (by omega))).mono ?_
      rintro e w3 ⟨rfl, hb3⟩
      rw [HX.out, HY.out]
      have B1 := below_drewN w n1
      have B2 := B1.trans (hb2.mono B1.size)
      have B3 := B2.trans (hb3.mono B2.size)
      have hR := h.below B3
      have c3 := hR.c3
      go_wp2_with fail
      go_ret
      exact ⟨by rw [HD.out]; rfl, by rw [HD.out]; exact hR, B3.mono (Nat.le_of_lt h.lt)⟩
    · rw [if_neg (by simp; omega)] at HDD
      have hg1 : decide (20000 - k.size < (M : Int)) = false := decide_eq_false g1
      by_cases g2 : M = 0
      · have HD : Hid (D = (0, ⟨3, k.line, k.left, k.size⟩)) := by unfold Hid; rw [HDD.out, if_pos g2]
        subst g2
        clear HDD
        go_enter Tryz.func156, Tryz.ntmps156
        go_wp2_with fail
        refine (cut_any ln 59 _ (by omega)).mono ?_
        rintro e w1 ⟨rfl, n1, rfl⟩
        go_wp2_with fail
        refine (trim_any _ _ (by omega)).mono ?_
        rintro e w2 ⟨rfl, hb2⟩
        go_wp2_with fail
        refine (readHex_any _ _ (maxLen_of (by omega))).mono ?_
        rintro e w3 ⟨rfl, hb3⟩
        rw [HX.out, HY.out]
        have B1 := below_drewN w n1
        have B2 := B1.trans (hb2.mono B1.size)
        have B3 := B2.trans (hb3.mono B2.size)
        have hR := h.below B3
        have c0 := hR.c0
        have c3 := hR.c3
        have fz := hR.fz
        go_wp2_with fail
        go_ret
        exact ⟨by rw [HD.out]; rfl, by rw [HD.out]; exact hR.s0 3, (B3.mono (Nat.le_of_lt h.lt)).setCell (Nat.le_refl N) _⟩
      · have HD : Hid (D = (0, ⟨1, k.line, (M : Int), k.size⟩)) := by unfold Hid; rw [HDD.out, if_neg g2]
        have hg2 : ((M : Int) == 0) = false := by rw [beq_eq_false_iff_ne]; omega
        clear HDD
        go_enter Tryz.func156, Tryz.ntmps156
        go_wp2_with fail
        refine (cut_any ln 59 _ (by omega)).mono ?_
        rintro e w1 ⟨rfl, n1, rfl⟩
        go_wp2_with fail
        refine (trim_any _ _ (by omega)).mono ?_
        rintro e w2 ⟨rfl, hb2⟩
        go_wp2_with fail
        refine (readHex_any _ _ (maxLen_of (by omega))).mono ?_
        rintro e w3 ⟨rfl, hb3⟩
        rw [HX.out, HY.out]
        have B1 := below_drewN w n1
        have B2 := B1.trans (hb2.mono B1.size)
        have B3 := B2.trans (hb3.mono B2.size)
        have hR := h.below B3
        have c0 := hR.c0
        have c2 := hR.c2
        have c3 := hR.c3
        have fz := hR.fz
        go_wp2_with fail
        go_ret
        exact ⟨by rw [HD.out]; rfl, by rw [HD.out]; exact (hR.s0 1).s2 (M : Int), ((B3.mono (Nat.le_of_lt h.lt)).setCell (Nat.le_refl N) _).setCell (Nat.le_refl N) _⟩

set_option maxRecDepth 100000 in
set_option maxHeartbeats 1000000 in
theorem end_any {w : World} {N : Nat} {k : K} {r : ByteArray} {v : Value} {d : List UInt8} (h : Rd w N k r v d) (ln : ByteArray) (hst : k.st = 2) :
    Calls Tryz.prog 157 #[.pointer (some ⟨N, 0, none⟩), .string ln] w fun e w' => e = .returned (.int .i64 ((dd k ln.data.toList).1 : Nat)) ∧ Rd w' N (dd k ln.data.toList).2 r v d ∧ Below N w w' := by
  have HDD : Hid (dd k ln.data.toList = if ln.data.toList = [] then (0, ⟨0, k.line, k.left, k.size⟩) else (33, k)) := by
    unfold Hid dd; rw [if_neg (by rw [hst]; decide), if_pos hst]
  generalize dd k ln.data.toList = D at HDD ⊢
  clear hst
  have c0 := h.c0
  have fz := h.fz
  by_cases h0 : ln.data.toList = []
  · have he := empty_of h0
    have HD : Hid (D = (0, ⟨0, k.line, k.left, k.size⟩)) := by unfold Hid; rw [HDD.out, if_pos h0]
    clear HDD h0
    go_enter Tryz.func157, Tryz.ntmps157
    go_wp2_with fail
    go_ret
    exact ⟨by rw [HD.out]; rfl, by rw [HD.out]; exact h.s0 0, (Below.refl _ _).setCell (Nat.le_refl N) _⟩
  · have he := empty_not h0
    have HD : Hid (D = (33, k)) := by unfold Hid; rw [HDD.out, if_neg h0]
    clear HDD h0
    go_enter Tryz.func157, Tryz.ntmps157
    go_wp2_with fail
    go_ret
    exact ⟨by rw [HD.out]; rfl, by rw [HD.out]; exact h, Below.refl _ _⟩

set_option maxRecDepth 100000 in
set_option maxHeartbeats 1000000 in
theorem tail_any {w : World} {N : Nat} {k : K} {r : ByteArray} {v : Value} {d : List UInt8} (h : Rd w N k r v d) (ln : ByteArray) (hst : k.st = 3) :
    Calls Tryz.prog 158 #[.pointer (some ⟨N, 0, none⟩), .string ln] w fun e w' => e = .returned (.int .i64 ((dd k ln.data.toList).1 : Nat)) ∧ Rd w' N (dd k ln.data.toList).2 r v d ∧ Below N w w' := by
  have HDD : Hid (dd k ln.data.toList = if ln.data.toList = [] then (0, ⟨4, k.line, k.left, k.size⟩) else (0, k)) := by
    unfold Hid dd; rw [if_neg (by rw [hst]; decide), if_neg (by rw [hst]; decide)]
  generalize dd k ln.data.toList = D at HDD ⊢
  clear hst
  have c0 := h.c0
  have fz := h.fz
  by_cases h0 : ln.data.toList = []
  · have he := empty_of h0
    have HD : Hid (D = (0, ⟨4, k.line, k.left, k.size⟩)) := by unfold Hid; rw [HDD.out, if_pos h0]
    clear HDD h0
    go_enter Tryz.func158, Tryz.ntmps158
    go_wp2_with fail
    go_ret
    exact ⟨by rw [HD.out]; rfl, by rw [HD.out]; exact h.s0 4, (Below.refl _ _).setCell (Nat.le_refl N) _⟩
  · have he := empty_not h0
    have HD : Hid (D = (0, k)) := by unfold Hid; rw [HDD.out, if_neg h0]
    clear HDD h0
    go_enter Tryz.func158, Tryz.ntmps158
    go_wp2_with fail
    go_ret
    exact ⟨by rw [HD.out]; rfl, by rw [HD.out]; exact h, Below.refl _ _⟩

set_option maxRecDepth 100000 in
set_option maxHeartbeats 1000000 in
theorem deed_0 {w : World} {N : Nat} {k : K} {r : ByteArray} {v : Value} {d : List UInt8} (h : Rd w N k r v d) (hst : k.st = 0) :
    Calls Tryz.prog 141 #[.pointer (some ⟨N, 0, none⟩)] w fun e w' => e = .returned (.func (.func 156) #[.pointer (some ⟨N, 0, none⟩)] #[]) ∧ w' = w := by
  have c0 := h.c0
  rw [hst] at c0
  clear hst h
  go_enter Tryz.func141, Tryz.ntmps141
  go_wp2_with fail
  go_ret
  exact ⟨rfl, rfl⟩

set_option maxRecDepth 100000 in
set_option maxHeartbeats 1000000 in
theorem deed_2 {w : World} {N : Nat} {k : K} {r : ByteArray} {v : Value} {d : List UInt8} (h : Rd w N k r v d) (hst : k.st = 2) :
    Calls Tryz.prog 141 #[.pointer (some ⟨N, 0, none⟩)] w fun e w' => e = .returned (.func (.func 157) #[.pointer (some ⟨N, 0, none⟩)] #[]) ∧ w' = w := by
  have c0 := h.c0
  rw [hst] at c0
  clear hst h
  go_enter Tryz.func141, Tryz.ntmps141
  go_wp2_with fail
  go_ret
  exact ⟨rfl, rfl⟩

set_option maxRecDepth 100000 in
set_option maxHeartbeats 1000000 in
theorem deed_3 {w : World} {N : Nat} {k : K} {r : ByteArray} {v : Value} {d : List UInt8} (h : Rd w N k r v d) (hst : k.st = 3) :
    Calls Tryz.prog 141 #[.pointer (some ⟨N, 0, none⟩)] w fun e w' => e = .returned (.func (.func 158) #[.pointer (some ⟨N, 0, none⟩)] #[]) ∧ w' = w := by
  have c0 := h.c0
  rw [hst] at c0
  clear hst h
  go_enter Tryz.func141, Tryz.ntmps141
  go_wp2_with fail
  go_ret
  exact ⟨rfl, rfl⟩

end Go.Proofs.YtmpijlaidnhpnaaGreat.Ck

namespace Go.Proofs.YtmpijlaidnhpnaaGreat.Ck
set_option linter.unusedVariables false
set_option linter.unusedSimpArgs false
set_option maxRecDepth 100000
open Go.RowKit

/-- What the taking of a line comes to: an error, what was read then, what is left. -/
def sl (k : K) (r : ByteArray) : Nat × K × ByteArray :=
  if 200 < k.line.size + (befS 10 r).size then (33, k, r)
  else if hasB 10 r = false then (0, kl k (k.line ++ befS 10 r), aftS 10 r)
  else ((dd (kl k ⟨#[]⟩) (bareL (k.line ++ befS 10 r).data.toList)).1, (dd (kl k ⟨#[]⟩) (bareL (k.line ++ befS 10 r).data.toList)).2, aftS 10 r)

theorem bef_no (c : UInt8) (s : ByteArray) : ∀ x ∈ (befS c s).data.toList, neB c x = true := by
  rw [befS_list]; intro x hx; exact tw_mem hx
theorem cut_has {c : UInt8} {s : ByteArray} (h : hasB c s = true) : s.data.toList = (befS c s).data.toList ++ c :: (aftS c s).data.toList := by
  have h' : atN c s.data.toList < s.data.toList.length := by simpa [hasB] using h
  have := parted h'
  rw [take_atN] at this
  rw [befS_list, aftS_list]
  have e : s.data.toList.drop (atN c s.data.toList + 1) = (s.data.toList.dropWhile (neB c)).drop 1 := by
    rw [← drop_takeWhile, List.drop_drop]; rfl
  rw [← e]; exact this
theorem cut_not {c : UInt8} {s : ByteArray} (h : hasB c s = false) : befS c s = s ∧ aftS c s = ⟨#[]⟩ := by
  have h' : ¬ atN c s.data.toList < s.data.toList.length := by simpa [hasB] using h
  exact ⟨bef_none h', aft_none h'⟩

/-- The taking of a line is the reading of its bytes. -/
theorem sl_run {k : K} {r : ByteArray} (hg : Good k) (h1 : k.st ≠ 1) (h4 : k.st ≠ 4) (hr : 0 < r.size) :
    ((sl k r).1 ≠ 0 → run k r.data.toList = bad (sl k r).1) ∧
    ((sl k r).1 = 0 → Good (sl k r).2.1 ∧ (sl k r).2.2.size < r.size ∧ run k r.data.toList = run (sl k r).2.1 (sl k r).2.2.data.toList) := by
  have hno := bef_no 10 r
  have hz : (befS 10 r).data.toList.length = (befS 10 r).size := size_list _
  have gk : Good (kl k ⟨#[]⟩) := good_kl hg h1 h4 (by decide) (fun c hc => by simp at hc)
  by_cases hb : hasB 10 r = true
  · have e := cut_has hb
    have hs : r.size = (befS 10 r).size + (aftS 10 r).size + 1 := by
      rw [← size_list r, e, List.length_append, List.length_cons, size_list, size_list]; omega
    unfold sl
    by_cases g : 200 < k.line.size + (befS 10 r).size
    · rw [if_pos g]
      refine ⟨fun _ => ?_, fun h => by simp at h⟩
      rw [e]; exact run_over _ h1 h4 hno hg.ln (by omega)
    · rw [if_neg g, if_neg (by rw [hb]; decide)]
      have hrl := run_line (k := k) (aftS 10 r).data.toList h1 h4 hno (by omega)
      rw [← app_list, ← e] at hrl
      refine ⟨fun hd => ?_, fun hd => ⟨good_dd gk h1 h4 rfl _ hd, by show (aftS 10 r).size < r.size; omega, ?_⟩⟩
      · rw [hrl, if_neg (by exact hd)]
      · rw [hrl, if_pos (by exact hd)]
  · have hb' : hasB 10 r = false := by simpa using hb
    obtain ⟨e1, e2⟩ := cut_not hb'
    unfold sl
    by_cases g : 200 < k.line.size + (befS 10 r).size
    · rw [if_pos g]
      refine ⟨fun _ => ?_, fun h => by simp at h⟩
      have := run_over (k := k) [] h1 h4 hno hg.ln (by omega)
      rw [List.append_nil, e1] at this
      exact this
    · rw [if_neg g, if_pos hb']
      refine ⟨fun h => by simp at h, fun _ => ⟨?_, by show (aftS 10 r).size < r.size; rw [e2]; exact hr, ?_⟩⟩
      · refine good_kl hg h1 h4 (by rw [app_size]; omega) (fun c hc => ?_)
        rw [app_list] at hc
        rcases List.mem_append.1 hc with hc | hc
        · exact hg.no c hc
        · exact hno c hc
      · have := run_word (befS 10 r).data.toList k [] h1 h4 hno (by omega)
        rw [List.append_nil] at this
        show run k r.data.toList = run (kl k (k.line ++ befS 10 r)) (aftS 10 r).data.toList
        rw [e2]
        show run k r.data.toList = run (kl k (k.line ++ befS 10 r)) []
        have eb : bs (befS 10 r).data.toList = befS 10 r := (bs_of rfl).symm
        rw [eb, e1] at this
        rw [e1]; exact this

/-- What a line's deed must do. -/
def Deed (F N : Nat) (st : Int) : Prop := ∀ {w : World} {k : K} {r : ByteArray} {v : Value} {d : List UInt8}, Rd w N k r v d → ∀ ln : ByteArray, ln.size ≤ 1000 → k.st = st → 0 ≤ k.size → k.size ≤ 20000 →
  Calls Tryz.prog F #[.pointer (some ⟨N, 0, none⟩), .string ln] w fun e w' => e = .returned (.int .i64 ((dd k ln.data.toList).1 : Nat)) ∧ Rd w' N (dd k ln.data.toList).2 r v d ∧ Below N w w'
theorem deed0 (N : Nat) : Deed 156 N 0 := fun h ln hl hs h0 h1 => begin_any h ln hl hs h0 h1
theorem deed2 (N : Nat) : Deed 157 N 2 := fun h ln hl hs h0 h1 => end_any h ln hs
theorem deed3 (N : Nat) : Deed 158 N 3 := fun h ln hl hs h0 h1 => tail_any h ln hs
theorem cf23c (a : Array Value) (w1 : World) : Sem.run Tryz.prog (callFunc 156 a) w1 = .ok (.enter 156 a) w1 := by kernel_rfl
theorem cf24c (a : Array Value) (w1 : World) : Sem.run Tryz.prog (callFunc 157 a) w1 = .ok (.enter 157 a) w1 := by kernel_rfl
theorem cf25c (a : Array Value) (w1 : World) : Sem.run Tryz.prog (callFunc 158 a) w1 = .ok (.enter 158 a) w1 := by kernel_rfl

set_option maxRecDepth 100000 in
set_option maxHeartbeats 2000000 in
theorem takeLine_any {w : World} {N : Nat} {k : K} {r : ByteArray} {v : Value} {d : List UInt8} (h : Rd w N k r v d) (F : Nat) (hcf : ∀ (a : Array Value) (w1 : World), Sem.run Tryz.prog (callFunc F a) w1 = .ok (.enter F a) w1)
    (hD : Deed F N k.st) (hg : Good k) (hr : r.size ≤ 1000000) :
    Calls Tryz.prog 140 #[.pointer (some ⟨N, 0, none⟩), .func (.func F) #[.pointer (some ⟨N, 0, none⟩)] #[]] w fun e w' => e = .returned (.int .i64 ((sl k r).1 : Nat)) ∧ ((sl k r).1 = 0 → Rd w' N (sl k r).2.1 (sl k r).2.2 v d) ∧ Below N w w' := by
  have hl := hg.ln
  have hz0 := hg.z0
  have hz1 := hg.z1
  have b1 := befS_size 10 r
  have hN := h.lt
  have HS : Hid (sl k r = if 200 < k.line.size + (befS 10 r).size then (33, k, r) else if hasB 10 r = false then (0, kl k (k.line ++ befS 10 r), aftS 10 r) else ((dd (kl k ⟨#[]⟩) (bareL (k.line ++ befS 10 r).data.toList)).1, (dd (kl k ⟨#[]⟩) (bareL (k.line ++ befS 10 r).data.toList)).2, aftS 10 r)) := rfl
  generalize sl k r = S at HS ⊢
  have c4 := h.c4
  by_cases g : 200 < k.line.size + (befS 10 r).size
  · have HR : Hid (S = (33, k, r)) := by unfold Hid; rw [HS.out, if_pos g]
    clear HS
    go_enter Tryz.func140, Tryz.ntmps140
    go_wp2_with fail
    refine (cut_any r 10 _ (by omega)).mono ?_
    rintro e w1 ⟨rfl, n1, rfl⟩
    have hR := h.below (below_drewN w n1)
    have c1 := hR.c1
    have B1 := (below_drewN w n1).mono (Nat.le_of_lt hN)
    generalize w.drewN n1 = W1 at hR c1 B1 ⊢
    go_wp2_with fail
    go_ret
    exact ⟨by rw [HR.out]; rfl, fun e => by rw [HR.out] at e; simp at e, B1⟩
  rw [if_neg g] at HS
  cases hb : hasB 10 r
  · have HR : Hid (S = (0, kl k (k.line ++ befS 10 r), aftS 10 r)) := by unfold Hid; rw [HS.out, if_pos hb]
    have HB := hide hb
    clear HS hb
    go_enter Tryz.func140, Tryz.ntmps140
    go_wp2_with fail
    refine (cut_any r 10 _ (by omega)).mono ?_
    rintro e w1 ⟨rfl, n1, rfl⟩
    rw [HB.out]
    have hR := h.below (below_drewN w n1)
    have c1 := hR.c1
    have c4 := hR.c4
    have fz := hR.fz
    have B1 := (below_drewN w n1).mono (Nat.le_of_lt hN)
    generalize w.drewN n1 = W1 at hR c1 c4 fz B1 ⊢
    go_wp2_with fail
    go_ret
    refine ⟨by rw [HR.out]; rfl, fun _ => ?_, (B1.setCell (Nat.le_refl N) _).setCell (Nat.le_refl N) _⟩
    rw [HR.out]; exact (hR.s4 _).s1 _
  · have HR : Hid (S = ((dd (kl k ⟨#[]⟩) (bareL (k.line ++ befS 10 r).data.toList)).1, (dd (kl k ⟨#[]⟩) (bareL (k.line ++ befS 10 r).data.toList)).2, aftS 10 r)) := by unfold Hid; rw [HS.out, if_neg (by rw [hb]; decide)]
    have HB := hide hb
    clear HS hb
    go_enter Tryz.func140, Tryz.ntmps140
    go_wp2_with fail
    refine (cut_any r 10 _ (by omega)).mono ?_
    rintro e w1 ⟨rfl, n1, rfl⟩
    rw [HB.out]
    have hR := h.below (below_drewN w n1)
    have c1 := hR.c1
    have c4 := hR.c4
    have fz := hR.fz
    have B1 := (below_drewN w n1).mono (Nat.le_of_lt hN)
    generalize w.drewN n1 = W1 at hR c1 c4 fz B1 ⊢
    have hR2 := (hR.s4 (aftS 10 r)).s1 ⟨#[]⟩
    have B2 := (B1.setCell (p := ⟨N, 4, none⟩) (Nat.le_refl N) (.string (aftS 10 r))).setCell (p := ⟨N, 1, none⟩) (Nat.le_refl N) (.string ⟨#[]⟩)
    go_wp2_with fail
    refine (trimSuffix_any _ _ (by rw [app_size]; omega)).mono ?_
    rintro e w2 ⟨rfl, rfl⟩
    generalize World.setCell _ _ _ = W2 at hR2 B2 ⊢
    go_wp2_with fail
    refine (hD hR2 _ ?_ rfl hz0 hz1).mono ?_
    · rw [bs_size]
      have := bareL_le (k.line.data.toList ++ (befS 10 r).data.toList)
      rw [List.length_append, size_list, size_list] at this
      omega
    rw [bs_list]
    rintro e w3 ⟨rfl, hR3, hb3⟩
    go_wp2_with fail
    go_ret
    exact ⟨by rw [HR.out]; rfl, fun _ => by rw [HR.out]; exact hR3, B2.trans hb3⟩

end Go.Proofs.YtmpijlaidnhpnaaGreat.Ck

namespace Go.Proofs.YtmpijlaidnhpnaaGreat.Ck
set_option linter.unusedVariables false
set_option linter.unusedSimpArgs false
set_option maxRecDepth 100000
open Go.RowKit

/-- As long as each of three operations has not come up, what belongs to it holds. -/
structure Held (k1 k2 k3 : Nat) (S1 S2 S3 : World → Prop) (listed : Array Bool) (w : World) : Prop where
  h1 : listed.getD k1 true = false → S1 w
  h2 : listed.getD k2 true = false → S2 w
  h3 : listed.getD k3 true = false → S3 w

/-- Whatever order is picked, and that holds behind every operation. -/
def upTo (P : Program) (md : Region.Mode) (ops : Array Oper) (Q : Exit → Act → World → Prop) (k1 k2 k3 : Nat) (S1 S2 S3 : World → Prop) : Nat → Array Bool → Act → World → Prop
  | 0, listed, a, w => Region.ready md ops listed = [] ∧ Q .normal a w
  | fuel + 1, listed, a, w =>
    (Region.ready md ops listed = [] → Q .normal a w) ∧
    ∀ i ∈ Region.ready md ops listed, wpOp P ops Q i (fun a' w' => Held k1 k2 k3 S1 S2 S3 (listed.setIfInBounds i true) w' ∧ upTo P md ops Q k1 k2 k3 S1 S2 S3 fuel (listed.setIfInBounds i true) a' w') a w

theorem any_of_upTo {P : Program} {md : Region.Mode} {ops : Array Oper} {Q : Exit → Act → World → Prop} {k1 k2 k3 : Nat} {S1 S2 S3 : World → Prop} : ∀ (fuel : Nat) (listed : Array Bool) (a : Act) (w : World), upTo P md ops Q k1 k2 k3 S1 S2 S3 fuel listed a w → wpAny P md ops Q fuel listed a w
  | 0, _, _, _, h => h
  | fuel + 1, listed, a, w, h => ⟨h.1, fun i hi => wpOp_mono (fun a' w' h' => any_of_upTo fuel _ a' w' h'.2) (h.2 i hi)⟩

/-- Number k waits for number i. -/
def waits (md : Region.Mode) (ops : Array Oper) (k i : Nat) : Bool :=
  match ops[k]? with
  | some o => o.after.toList.any fun e => Region.binds md e && e.on == i
  | none => false

theorem waits_not {md : Region.Mode} {ops : Array Oper} {k i : Nat} (h : waits md ops k i = true) {listed : Array Bool} (hi : listed.getD i true = false) : k ∉ Region.ready md ops listed := by
  intro hk
  obtain ⟨_, o, ho, hall⟩ := mem_ready.1 hk
  unfold waits at h
  rw [ho] at h
  obtain ⟨e, he, hb⟩ := List.any_eq_true.1 h
  simp only [Bool.and_eq_true, beq_iff_eq] at hb
  have h1 := hall e (by simpa using he) hb.1
  rw [hb.2] at h1
  rcases Nat.lt_or_ge i listed.size with h' | h'
  · simp [h'] at hi h1; rw [hi] at h1; cases h1
  · simp [Array.getElem?_eq_none h'] at h1

section
variable {P : Program} {md : Region.Mode} {ops : Array Oper} {Q : Exit → Act → World → Prop} {k1 k2 k3 : Nat} {S1 S2 S3 : World → Prop}

theorem Held.back {i j : Nat} {listed : Array Bool} {w : World} (h : Held k1 k2 k3 S1 S2 S3 ((listed.setIfInBounds i true).setIfInBounds j true) w) (n1 : i ≠ k1) (n2 : i ≠ k2) (n3 : i ≠ k3) (hji : j ≠ i) : Held k1 k2 k3 S1 S2 S3 (listed.setIfInBounds j true) w := by
  have e : ∀ k, i ≠ k → ((listed.setIfInBounds i true).setIfInBounds j true).getD k true = (listed.setIfInBounds j true).getD k true := by
    intro k hk
    rw [Array.setIfInBounds_comm _ _ (Ne.symm hji), getD_set_ne true hk]
  exact ⟨fun g => h.h1 ((e k1 n1).trans g), fun g => h.h2 ((e k2 n2).trans g), fun g => h.h3 ((e k3 n3).trans g)⟩
theorem Held.on {i : Nat} {listed : Array Bool} {w : World} (h : Held k1 k2 k3 S1 S2 S3 listed w) (n1 : i ≠ k1) (n2 : i ≠ k2) (n3 : i ≠ k3) : Held k1 k2 k3 S1 S2 S3 (listed.setIfInBounds i true) w :=
  ⟨fun g => h.h1 (by rwa [getD_set_ne true n1] at g), fun g => h.h2 (by rwa [getD_set_ne true n2] at g), fun g => h.h3 (by rwa [getD_set_ne true n3] at g)⟩

theorem upTo_first {i k : Nat} {oi : Oper} {v : Value} {S : World → Prop} (hi : ops[i]? = some oi) (hsel : ∀ (j : Nat) (o : Oper) cs b, ops[j]? = some o → o.op ≠ .select cs b)
    (hQ : ∀ c a w, Q (.panic c) (a.put oi.dst v) w → Q (.panic c) a w) (hik : i ≠ k) (n1 : i ≠ k1) (n2 : i ≠ k2) (n3 : i ≠ k3) (hw : waits md ops k i = true)
    (hS : ∀ listed w, Held k1 k2 k3 S1 S2 S3 listed w → listed.getD k true = false → S w) :
    ∀ (fuel : Nat) (listed : Array Bool) (a : Act) (w : World),
      (∀ j oj, ops[j]? = some oj → j ≠ i → listed.getD j true = false → (∀ e ∈ oj.after, Region.binds md e = true → e.on ≠ i) → oi.apart ops oj = true) →
      i ∈ Region.ready md ops listed → listed.getD k true = false → Held k1 k2 k3 S1 S2 S3 listed w → YieldsIf P ops S oi v a →
      upTo P md ops Q k1 k2 k3 S1 S2 S3 fuel (listed.setIfInBounds i true) (a.put oi.dst v) w → upTo P md ops Q k1 k2 k3 S1 S2 S3 (fuel + 1) listed a w := by
  intro fuel
  induction fuel with
  | zero =>
    intro listed a w _ hr hk hC hy H
    refine ⟨fun h => (by rw [h] at hr; cases hr), fun j hj => ?_⟩
    by_cases hji : j = i
    · subst hji; exact hy.wpOp hi (hS _ _ hC hk) ⟨hC.on n1 n2 n3, H⟩
    · have := ready_mono hj hji
      rw [H.1] at this
      cases this
  | succ fuel ih =>
    intro listed a w hfree hr hk hC hy H
    have hiun := (mem_ready.1 hr).1
    refine ⟨fun h => (by rw [h] at hr; cases hr), fun j hj => ?_⟩
    by_cases hji : j = i
    · subst hji; exact hy.wpOp hi (hS _ _ hC hk) ⟨hC.on n1 n2 n3, H⟩
    · have hjk : j ≠ k := fun e => by subst e; exact waits_not hw hiun hj
      obtain ⟨hjun, oj, hoj, hall⟩ := mem_ready.1 hj
      have hnot : ∀ e ∈ oj.after, Region.binds md e = true → e.on ≠ i := fun e he hb heq => by
        have h1 := hall e he hb
        rw [heq] at h1
        rcases Nat.lt_or_ge i listed.size with h' | h'
        · simp [h'] at hiun h1; rw [hiun] at h1; cases h1
        · simp [Array.getElem?_eq_none h'] at h1
      have h2 := wpOp_putIf hoj (hfree j oj hoj hji hjun hnot) (fun cs b => hsel i oi cs b hi) (fun cs b => hsel j oj cs b hoj) hQ hy (H.2 j (ready_mono hj hji))
      have hkj : (listed.setIfInBounds j true).getD k true = false := by rw [getD_set_ne true hjk]; exact hk
      refine wpOp_mono (fun a' w' h3 => ?_) h2
      have hC' := h3.2.1.back n1 n2 n3 hji
      refine ⟨hC', ih (listed.setIfInBounds j true) a' w' (fun m om hm hmi hun hno => hfree m om hm hmi ?_ hno) (ready_mono hr (Ne.symm hji)) hkj hC' h3.1 ?_⟩
      · by_cases hjm : j = m
        · subst hjm; exact hjun
        · rw [getD_set_ne true hjm] at hun; exact hun
      · rw [Array.setIfInBounds_comm _ _ hji]
        exact h3.2.2

/-- Number i, which yields v while number k has not come up, is taken first. -/
theorem upTo_take (k : Nat) {S : World → Prop} {i : Nat} {oi : Oper} {v : Value} {fuel : Nat} {listed : Array Bool} {a : Act} {w : World} (hi : ops[i]? = some oi)
    (hs : Region.noSelect ops = true) (hf : Region.free md ops listed i = true) (hr : (Region.ready md ops listed).contains i = true)
    (hQ : ∀ c a w, Q (.panic c) (a.put oi.dst v) w → Q (.panic c) a w) (hn : i ≠ k ∧ i ≠ k1 ∧ i ≠ k2 ∧ i ≠ k3) (hw : waits md ops k i = true) (hk : listed.getD k true = false)
    (hS : ∀ listed w, Held k1 k2 k3 S1 S2 S3 listed w → listed.getD k true = false → S w) (hC : Held k1 k2 k3 S1 S2 S3 listed w)
    (hy : YieldsIf P ops S oi v a)
    (h : Held k1 k2 k3 S1 S2 S3 (listed.setIfInBounds i true) w → upTo P md ops Q k1 k2 k3 S1 S2 S3 fuel (listed.setIfInBounds i true) (a.put oi.dst v) w) : upTo P md ops Q k1 k2 k3 S1 S2 S3 (fuel + 1) listed a w :=
  upTo_first hi (Region.noSelect_spec hs) hQ hn.1 hn.2.1 hn.2.2.1 hn.2.2.2 hw hS fuel listed a w (Region.free_spec hi hf) (by simpa using hr) hk hC hy (h (hC.on hn.2.1 hn.2.2.1 hn.2.2.2))

/-- Number i alone may come up: it is carried out. -/
theorem upTo_run {i : Nat} {o : Oper} {fuel : Nat} {listed : Array Bool} {a : Act} {w : World} (hr : Region.ready md ops listed = [i]) (ho : ops[i]? = some o)
    (h : ∀ K' : Act → World → Prop, Shut (∀ a w, Held k1 k2 k3 S1 S2 S3 (listed.setIfInBounds i true) w → (Held k1 k2 k3 S1 S2 S3 (listed.setIfInBounds i true) w → upTo P md ops Q k1 k2 k3 S1 S2 S3 fuel (listed.setIfInBounds i true) a w) → K' a w) → if Region.wanted o (yielded ops a.tmps) = true then Oper.wp P o a w K' Q else K' (a.put o.dst undef) w) :
    upTo P md ops Q k1 k2 k3 S1 S2 S3 (fuel + 1) listed a w := by
  refine ⟨fun h0 => (by rw [hr] at h0; cases h0), fun j hj => ?_⟩
  rw [hr] at hj
  obtain rfl : j = i := by simpa using hj
  exact wpOp_step ho (fun K' hK => h K' (fun a w h1 h2 => hK a w ⟨h1, h2 h1⟩))

theorem upTo_done {listed : Array Bool} {a : Act} {w : World} (hr : Region.ready md ops listed = []) (h : Q .normal a w) : ∀ fuel, upTo P md ops Q k1 k2 k3 S1 S2 S3 fuel listed a w
  | 0 => ⟨hr, h⟩
  | _ + 1 => ⟨fun _ => h, by rw [hr]; simp⟩

theorem region_upTo {id : Nat} {a : Act} {w : World} (k1 k2 k3 : Nat) (S1 S2 S3 : World → Prop) (hm : P.follows .mixedOrders = true) (hC : S1 w.drew ∧ S2 w.drew ∧ S3 w.drew)
    (h : Held k1 k2 k3 S1 S2 S3 (Array.replicate ops.size false) w.drew → upTo P .any ops Q k1 k2 k3 S1 S2 S3 ops.size (Array.replicate ops.size false) a w.drew) : (Code.region id ops true).wp P Q a w :=
  wp_region_any hm (any_of_upTo _ _ _ _ (h ⟨fun _ => hC.1, fun _ => hC.2.1, fun _ => hC.2.2⟩))
end

end Go.Proofs.YtmpijlaidnhpnaaGreat.Ck
