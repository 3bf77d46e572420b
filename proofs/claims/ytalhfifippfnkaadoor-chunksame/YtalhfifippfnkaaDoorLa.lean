/- The walk of ChunkLong. -/
import Derived.Test.YtalhfifippfnkaaDoorKh
import Derived.Laws.MakeOwn
namespace Go.Proofs.YtalhfifippfnkaaDoor
set_option linter.unusedVariables false
set_option linter.unusedSimpArgs false
open Go.RowKit

/-- So many bytes 0, as a text; the world with them in a new row. -/
def zs (a : Nat) : ByteArray := bs (List.replicate a 0)
theorem zs_list (a : Nat) : (zs a).data.toList = List.replicate a 0 := bs_list _
theorem zs_size (a : Nat) : (zs a).size = a := by unfold zs; rw [bs_size, List.length_replicate]
def mkW (a : Nat) (w : World) : World := w.alloc (.cells (madeCells #[.int .u8 0] a) 5)
theorem mk_run (a : Nat) (h : a ≤ 1000000) (w : World) : (Instr.makeSlice 32 (.int .i64 (a : Int)) (.int .i64 (a : Int))).run Tryd.prog w = .ok (.slice (some ⟨w.heap.size, 0, none⟩) a a) (mkW a w) := by
  obtain ⟨i0, hi0, hz0, hz1, hz2⟩ := info_parts Tryd.info5
  have := run_make (P := Tryd.prog) w 32 5 i0 (.int .u8 0) Tryd.underlying32 hi0 hz0 .i64 .i64 (a : Int) (a : Int) (by omega) (Int.le_refl _) (by rw [hz2]; omega) (by omega)
  rw [this, hz1, Int.toNat_natCast, Nat.mul_one]
  rfl
theorem made_zero (a : Nat) : (madeCells #[.int .u8 0] a).toList = u8s (List.replicate a 0) := by
  unfold madeCells u8s
  rw [List.map_replicate]
  refine List.ext_getElem (by simp) (fun i h1 h2 => ?_)
  simp [Nat.mod_one]
theorem mk_conv (a : Nat) (h : a ≤ 1000000) (w : World) : (convert 32 9 (.slice (some ⟨w.heap.size, 0, none⟩) a a)).run Tryd.prog (mkW a w) = .ok (.string (zs a)) (mkW a w) := by
  have ho : Own 0 (mkW a w) (.slice (some ⟨w.heap.size, 0, none⟩) a a) (List.replicate a 0) := by
    refine ⟨by rw [u8s_length, List.length_replicate, Nat.mul_one], Or.inr ⟨w.heap.size, a, madeCells #[.int .u8 0] a, by rw [List.length_replicate], Nat.zero_le _, heap_alloc_new w _, by rw [List.length_replicate]; exact Nat.le_refl _, maxLen_of (by omega), by rw [size_madeCells, Nat.mul_one], ?_⟩⟩
    rw [made_zero, List.length_replicate, Nat.mul_one, List.take_of_length_le (by rw [u8s_length, List.length_replicate]; exact Nat.le_refl _)]
  exact conv_own ho
theorem mk_below (a : Nat) {B : Nat} {w w' : World} (h : Below B w w') (hB : B ≤ w'.heap.size) : Below B w (mkW a w') := h.alloc hB _

theorem encs_one (x : List UInt8) : encs [x] = encL x := by unfold encs; simp
theorem encs_two (x y : List UInt8) : encs [x, y] = encL x ++ encL y := by unfold encs; simp

theorem long_one (a : Nat) (h : a ≤ 20000) : fdV k0 (encS (zs a)).data.toList = .tuple #[.agg #[.int .i64 0, .string ⟨#[]⟩, .int .i64 0, .int .i64 (a : Int)], .string (bs (List.replicate a 0)), .int .i64 ((encS (zs a)).size : Int), .int .i64 0] := by
  have := run_some [List.replicate a 0] (by simp; exact h)
  rw [encs_one] at this
  rw [encS_list, zs_list, fdV_good ((fd_zero _).trans this), List.length_nil, ← zs_list, ← encS_list, size_list]
  simp [zk, zs_size]
theorem long_fine (a b : Nat) (h : a + b ≤ 20000) : ∃ v n d, fdV k0 (encS (zs a) ++ encS (zs b)).data.toList = .tuple #[.agg #[.int .i64 0, .string ⟨#[]⟩, .int .i64 0, .int .i64 v], .string d, .int .i64 n, .int .i64 0] := by
  have := run_some [List.replicate a 0, List.replicate b 0] (by simp; exact h)
  rw [encs_two] at this
  exact ⟨_, _, _, by rw [app_list, encS_list, encS_list, zs_list, zs_list, fdV_good ((fd_zero _).trans this)]; rfl⟩
theorem long_much (a b : Nat) (ha : a ≤ 20000) (hb : 1 ≤ b) (hl : b ≤ 1000000) (h : ¬ a + b ≤ 20000) : fdV k0 (encS (zs a) ++ encS (zs b)).data.toList = .tuple #[.agg #[.int .i64 0, .string ⟨#[]⟩, .int .i64 0, .int .i64 0], .string ⟨#[]⟩, .int .i64 0, .int .i64 2] := by
  have := run_much (List.replicate a 0) (List.replicate b 0) (by simp; exact ha) (by simp; omega) (by simp; exact hl) (by simp; omega)
  rw [app_list, encS_list, encS_list, zs_list, zs_list, fdV_bad (by decide) ((fd_zero _).trans this)]
  rfl

set_option maxRecDepth 100000 in
set_option maxHeartbeats 2000000 in
theorem long_walk (x y : Int) (w : World) (ht : Tabs w) :
    Calls Tryd.prog 4 #[.int .i64 x, .int .i64 y] w fun e w' => e = .returned (.bool true) ∧ Below w.heap.size w w' := by
  obtain ⟨a, ha, ha2⟩ : ∃ a : Nat, min (max x 0) 20000 = (a : Int) ∧ a ≤ 20000 := ⟨(min (max x 0) 20000).toNat, by omega, by omega⟩
  obtain ⟨b, hb, hb1, hb2⟩ : ∃ b : Nat, min (max y 1) 20001 = (b : Int) ∧ 1 ≤ b ∧ b ≤ 20001 := ⟨(min (max y 1) 20001).toNat, by omega, by omega, by omega⟩
  have sa := encS_size (zs a) (by rw [zs_size]; omega)
  have sb := encS_size (zs b) (by rw [zs_size]; omega)
  rw [zs_size] at sa sb
  have hmA := mk_run a (by omega)
  have hmB := mk_run b (by omega)
  have hcA := mk_conv a (by omega)
  have hcB := mk_conv b (by omega)
  have HV := hide (long_one a ha2)
  by_cases hc : a + b ≤ 20000
  · obtain ⟨v, n, d, hV2⟩ := long_fine a b hc
    have HV2 := hide hV2
    have hd1 : decide ((20000 : Int) < (a : Int) + (b : Int)) = false := decide_eq_false (by omega)
    have hd2 : decide ((a : Int) + (b : Int) ≤ 20000) = true := decide_eq_true (by omega)
    clear hV2 hc
    go_enter Tryd.func4, Tryd.ntmps4
    go_wp2_with fail
    have B1 : Below w.heap.size w (mkW a w) := mk_below a (Below.refl _ _) (Nat.le_refl _)
    have t1 := ht.below B1
    generalize mkW a w = W1 at B1 t1 ⊢
    refine (encode_any (zs a) _ (by rw [zs_size]; omega) t1).mono ?_
    rintro e w2 ⟨rfl, hb2⟩
    have B2 := B1.trans (hb2.mono B1.size)
    go_wp2_with fail
    refine (feed_zero _ _ (by omega)).mono ?_
    rintro e w3 ⟨rfl, hb3⟩
    rw [HV.out]
    have B3 := B2.trans (hb3.mono B2.size)
    have t3 := ht.below B3
    have hcB2 := hcB (w3.alloc (.cells #[.int .i64 0, .string ⟨#[]⟩, .int .i64 0, .int .i64 (a : Int)] 25))
    rw [show (w3.alloc (.cells #[.int .i64 0, .string ⟨#[]⟩, .int .i64 0, .int .i64 (a : Int)] 25)).heap.size = w3.heap.size + 1 by simp] at hcB2
    go_wp2_with fail
    have B4 := mk_below b (B3.alloc B3.size (.cells #[.int .i64 0, .string ⟨#[]⟩, .int .i64 0, .int .i64 (a : Int)] 25)) (by simp; have := B3.size; omega)
    have t4 := ht.below B4
    generalize mkW b _ = W4 at B4 t4 ⊢
    refine (encode_any (zs b) _ (by rw [zs_size]; omega) t4).mono ?_
    rintro e w5 ⟨rfl, hb5⟩
    have B5 := B4.trans (hb5.mono B4.size)
    go_wp2_with fail
    refine (feed_zero _ _ (by rw [app_size]; omega)).mono ?_
    rintro e w6 ⟨rfl, hb6⟩
    rw [HV2.out]
    have B6 := B5.trans (hb6.mono B5.size)
    go_wp2_with fail
    refine (alive_any _).mono ?_
    rintro e w7 ⟨rfl, hb7⟩
    have B7 := B6.alloc B6.size (.cells #[.int .i64 0, .string ⟨#[]⟩, .int .i64 0, .int .i64 v] 25)
    have B8 := B7.trans (hb7.mono B7.size)
    go_wp2_with fail
    go_ret
    exact ⟨rfl, B8⟩
  · have HV2 := hide (long_much a b ha2 hb1 (by omega) hc)
    have hd1 : decide ((20000 : Int) < (a : Int) + (b : Int)) = true := decide_eq_true (by omega)
    have hd2 : decide ((a : Int) + (b : Int) ≤ 20000) = false := decide_eq_false (by omega)
    clear hc
    go_enter Tryd.func4, Tryd.ntmps4
    go_wp2_with fail
    have B1 : Below w.heap.size w (mkW a w) := mk_below a (Below.refl _ _) (Nat.le_refl _)
    have t1 := ht.below B1
    generalize mkW a w = W1 at B1 t1 ⊢
    refine (encode_any (zs a) _ (by rw [zs_size]; omega) t1).mono ?_
    rintro e w2 ⟨rfl, hb2⟩
    have B2 := B1.trans (hb2.mono B1.size)
    go_wp2_with fail
    refine (feed_zero _ _ (by omega)).mono ?_
    rintro e w3 ⟨rfl, hb3⟩
    rw [HV.out]
    have B3 := B2.trans (hb3.mono B2.size)
    have t3 := ht.below B3
    have hcB2 := hcB (w3.alloc (.cells #[.int .i64 0, .string ⟨#[]⟩, .int .i64 0, .int .i64 (a : Int)] 25))
    rw [show (w3.alloc (.cells #[.int .i64 0, .string ⟨#[]⟩, .int .i64 0, .int .i64 (a : Int)] 25)).heap.size = w3.heap.size + 1 by simp] at hcB2
    go_wp2_with fail
    have B4 := mk_below b (B3.alloc B3.size (.cells #[.int .i64 0, .string ⟨#[]⟩, .int .i64 0, .int .i64 (a : Int)] 25)) (by simp; have := B3.size; omega)
    have t4 := ht.below B4
    generalize mkW b _ = W4 at B4 t4 ⊢
    refine (encode_any (zs b) _ (by rw [zs_size]; omega) t4).mono ?_
    rintro e w5 ⟨rfl, hb5⟩
    have B5 := B4.trans (hb5.mono B4.size)
    go_wp2_with fail
    refine (feed_zero _ _ (by rw [app_size]; omega)).mono ?_
    rintro e w6 ⟨rfl, hb6⟩
    rw [HV2.out]
    have B6 := B5.trans (hb6.mono B5.size)
    go_wp2_with fail
    refine (alive_any _).mono ?_
    rintro e w7 ⟨rfl, hb7⟩
    have B7 := B6.alloc B6.size (.cells #[.int .i64 0, .string ⟨#[]⟩, .int .i64 0, .int .i64 0] 25)
    have B8 := B7.trans (hb7.mono B7.size)
    go_wp2_with fail
    go_ret
    exact ⟨rfl, B8⟩

end Go.Proofs.YtalhfifippfnkaaDoor
