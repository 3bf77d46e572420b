/- The walk of ChunkBack. -/
import Derived.Test.YtalhfifippfnkaaDoorKh
namespace Go.Proofs.YtalhfifippfnkaaDoor
set_option linter.unusedVariables false
set_option linter.unusedSimpArgs false
open Go.RowKit

/-- The first texts, each cut. -/
def Cl (S : Nat → ByteArray) (k : Nat) : List (List UInt8) := (List.range k).map fun i => (S i).data.toList.take 400
theorem Cl_succ (S : Nat → ByteArray) (k : Nat) : Cl S (k + 1) = Cl S k ++ [(S k).data.toList.take 400] := by
  unfold Cl; rw [List.range_succ, List.map_append]; rfl
theorem encs_snoc (l : List (List UInt8)) (x : List UInt8) : encs (l ++ [x]) = encs l ++ encL x := by unfold encs; simp
theorem flat_snoc (l : List (List UInt8)) (x : List UInt8) : (l ++ [x]).flatten = l.flatten ++ x := by simp
theorem Cl_flat (S : Nat → ByteArray) : ∀ k, (Cl S k).flatten.length ≤ 400 * k
  | 0 => by simp [Cl]
  | k + 1 => by
    have := Cl_flat S k
    rw [Cl_succ, flat_snoc, List.length_append, List.length_take]; omega
theorem Cl_encs (S : Nat → ByteArray) : ∀ k, (encs (Cl S k)).length ≤ 420 * k
  | 0 => by simp [Cl, encs]
  | k + 1 => by
    have := Cl_encs S k
    have h2 := encL_len ((S k).data.toList.take 400) (by rw [List.length_take]; omega)
    rw [List.length_take] at h2
    rw [Cl_succ, encs_snoc, List.length_append]; omega

/-- What ChunkBack reads. -/
theorem back_v (L : List (List UInt8)) (T : ByteArray) (h : L.flatten.length ≤ 20000) : fdV k0 (bs (encs L) ++ ⟨#[48, 13, 10, 13, 10]⟩ ++ T).data.toList = .tuple #[.agg #[.int .i64 4, .string ⟨#[]⟩, .int .i64 0, .int .i64 ((bs L.flatten).size : Int)], .string (bs L.flatten), .int .i64 (((bs (encs L)).size : Int) + 5), .int .i64 0] := by
  have := run_back L T.data.toList h
  have e := fdV_good ((fd_zero _).trans this)
  rw [show encs L ++ (endL ++ T.data.toList) = (bs (encs L) ++ ⟨#[48, 13, 10, 13, 10]⟩ ++ T).data.toList by rw [app_list, app_list, bs_list, List.append_assoc]; rfl] at e
  rw [e, bs_size, bs_size]
  have e2 : ((bs (encs L) ++ ⟨#[48, 13, 10, 13, 10]⟩ ++ T).data.toList.length : Int) - (T.data.toList.length : Int) = ((encs L).length : Int) + 5 := by
    rw [app_list, app_list, bs_list, List.length_append, List.length_append]
    simp only [List.length_cons, List.length_nil]
    omega
  rw [e2]

set_option maxRecDepth 100000 in
set_option maxHeartbeats 4000000 in
theorem back_walk (ad : Option Addr) (B off len cap : Nat) (S : Nat → ByteArray) (t : ByteArray) (w : World) (hlc : len ≤ cap) (hcap : cap ≤ maxLen)
    (hS : ∀ i, i < len → ad = some ⟨B, off, none⟩ ∧ B < w.heap.size ∧ w.cell? ⟨B, off + i, none⟩ = some (.string (S i)) ∧ (S i).size ≤ maxLen) (hts : t.size ≤ maxLen) (ht : Tabs w) :
    Calls Tryd.prog 3 #[.slice ad len cap, .string t] w fun e w' => e = .returned (.bool true) ∧ Below w.heap.size w w' := by
  unfold maxLen at hcap hts
  have HS := hide hS
  clear hS
  obtain ⟨p, hp, hp2, hp3⟩ : ∃ p : Nat, min (len : Int) 20 = (p : Int) ∧ p ≤ 20 ∧ p ≤ len := ⟨(min (len : Int) 20).toNat, by omega, by omega, by omega⟩
  obtain ⟨q, hq, hq2, hq3⟩ : ∃ q : Nat, min (t.size : Int) 300 = (q : Int) ∧ q ≤ 300 ∧ q ≤ t.size := ⟨(min (t.size : Int) 300).toNat, by omega, by omega, by omega⟩
  have hqi : (q : Int) ≤ (t.size : Int) := by omega
  have hpi : (p : Int) ≤ (cap : Int) := by omega
  have hpz : (0 : Int) ≤ (p : Int) := by omega
  go_enter Tryd.func3, Tryd.ntmps3
  go_wp2_with fail
  go_quiet (fail)
  go_wp2_with fail
  go_loopw [5, 6, 8, 26] (fun o v x i wr => ∃ k : Nat, k ≤ p ∧ i = .int .i64 k ∧ o = .string (bs (encs (Cl S k))) ∧ v = .string (bs (Cl S k).flatten) ∧ Below w.heap.size w wr) (fun _ _ _ i _ => p - (intOf i).toNat)
  case atStart => exact ⟨0, Nat.zero_le _, rfl, rfl, rfl, ⟨rfl, rfl, rfl, Nat.le_refl _, fun _ _ => rfl⟩⟩
  case round =>
    obtain ⟨k, hk, rfl, rfl, rfl, hbr⟩ := hrel
    have HL1 := hide (Cl_flat S k)
    have HL2 := hide (Cl_encs S k)
    have z1 : (bs (Cl S k).flatten).size ≤ 8000 := by rw [bs_size]; have := HL1.out; omega
    have z2 : (bs (encs (Cl S k))).size ≤ 8400 := by rw [bs_size]; have := HL2.out; omega
    by_cases hlt : k < p
    · obtain ⟨rfl, hBw, hcell, hSz⟩ := HS.out k (by omega)
      have hkz : (k : Int) < (p : Int) := by omega
      have hce1 : wr.cell? ⟨B, off + k, none⟩ = some (.string (S k)) := (hbr.cell (p := ⟨B, off + k, none⟩) hBw).trans hcell
      obtain ⟨x, hx⟩ : ∃ x, S k = x := ⟨_, rfl⟩
      rw [hx] at hce1 hSz
      have HCS : Hid (Cl S (k + 1) = Cl S k ++ [x.data.toList.take 400]) := by unfold Hid; rw [Cl_succ, hx]
      unfold maxLen at hSz
      obtain ⟨m, hm, hm2, hm3⟩ : ∃ m : Nat, min (x.size : Int) 400 = (m : Int) ∧ m ≤ 400 ∧ m ≤ x.size := ⟨(min (x.size : Int) 400).toNat, by omega, by omega, by omega⟩
      have hmi : (m : Int) ≤ (x.size : Int) := by omega
      have hxm : (x.extract 0 m).size ≤ 400 := by rw [ByteArray.size_extract]; omega
      have HX : Hid ((x.extract 0 m).data.toList = x.data.toList.take 400) := by
        unfold Hid
        rw [ext_take]
        by_cases g : x.size ≤ 400
        · rw [show m = x.size by omega, List.take_of_length_le (by rw [size_list]; exact Nat.le_refl _), List.take_of_length_le (by rw [size_list]; exact g)]
        · rw [show m = 400 by omega]
      have s1 := encS_size (x.extract 0 m) (by omega)
      have HE1 : Hid (bs (encs (Cl S k)) ++ encS (x.extract 0 m) = bs (encs (Cl S (k + 1)))) := by
        unfold Hid
        rw [HCS.out, encs_snoc]
        apply bytes_ext
        rw [app_list, bs_list, bs_list, encS_list, HX.out]
      have HE2 : Hid (bs (Cl S k).flatten ++ x.extract 0 m = bs (Cl S (k + 1)).flatten) := by
        unfold Hid
        rw [HCS.out, flat_snoc]
        apply bytes_ext
        rw [app_list, bs_list, bs_list, HX.out]
      clear hx hcell
      generalize bs (encs (Cl S k)) = O at HE1 z2 ⊢
      generalize bs (Cl S k).flatten = V at HE2 z1 ⊢
      go_wp2_with fail
      refine (encode_any (x.extract 0 m) _ (by omega) (ht.below hbr)).mono ?_
      rintro e w1 ⟨rfl, hb1⟩
      have B1 := hbr.trans (hb1.mono hbr.size)
      generalize encS (x.extract 0 m) = A at HE1 s1 ⊢
      generalize x.extract 0 m = X at HE2 hxm s1 ⊢
      go_wp2_with fail
      refine ⟨⟨k + 1, by omega, by go_num, by rw [HE1.out], by rw [HE2.out], B1⟩, by simp [intOf]; omega⟩
    · obtain rfl : k = p := by omega
      have hkz : decide ((k : Int) < (k : Int)) = false := decide_eq_false (by omega)
      have hqs : (t.extract 0 q).size ≤ 300 := by rw [ByteArray.size_extract]; omega
      have HV := hide (back_v (Cl S k) (t.extract 0 q) (by have := HL1.out; omega))
      generalize bs (encs (Cl S k)) = O at HV z2 ⊢
      generalize bs (Cl S k).flatten = V at HV z1 ⊢
      generalize t.extract 0 q = T at HV hqs ⊢
      go_wp2_with fail
      refine (endc_any _).mono ?_
      rintro e w2 ⟨rfl, rfl⟩
      go_wp2_with fail
      refine (feed_zero _ _ (by rw [app_size, app_size, show (⟨#[48, 13, 10, 13, 10]⟩ : ByteArray).size = 5 from rfl]; omega)).mono ?_
      rintro e w3 ⟨rfl, hb3⟩
      rw [HV.out]
      have B3 := hbr.trans (hb3.mono hbr.size)
      have hX : Four (w3.alloc (.cells #[.int .i64 4, .string ⟨#[]⟩, .int .i64 0, .int .i64 (V.size : Int)] 25)) w3.heap.size ⟨4, ⟨#[]⟩, 0, (V.size : Int)⟩ := Four.new w3 ⟨4, ⟨#[]⟩, 0, (V.size : Int)⟩
      have B4 := B3.alloc B3.size (.cells #[.int .i64 4, .string ⟨#[]⟩, .int .i64 0, .int .i64 (V.size : Int)] 25)
      go_wp2_with fail
      generalize World.alloc _ _ = W4 at hX B4 ⊢
      refine (alive_any _).mono ?_
      rintro e w5 ⟨rfl, hb5⟩
      have hX5 := hX.below hb5
      have o0 := hX5.c0
      have o1 := hX5.c1
      have o2 := hX5.c2
      have o3 := hX5.c3
      go_wp2_with fail
      go_ret
      exact ⟨rfl, B4.trans (hb5.mono B4.size)⟩

end Go.Proofs.YtalhfifippfnkaaDoor
