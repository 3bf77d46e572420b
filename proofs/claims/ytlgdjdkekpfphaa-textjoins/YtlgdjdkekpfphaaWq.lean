/- The walk of TextJoins. -/
import Derived.Test.YtlgdjdkekpfphaaWo
namespace Go.Proofs.Ytlgdjdkekpfphaa
set_option linter.unusedVariables false
set_option linter.unusedSimpArgs false
open Go.RowKit

/-- A text without the byte and without quotes. -/
def cleanL (b : UInt8) (l : List UInt8) : List UInt8 := l.filter fun c => decide (c ≠ b) && decide (c ≠ 34)
theorem cleanL_yes {b c : UInt8} (l : List UInt8) (h1 : c ≠ b) (h2 : c ≠ 34) : cleanL b (l ++ [c]) = cleanL b l ++ [c] := by
  unfold cleanL; rw [List.filter_append, List.filter_cons, if_pos (by simp [h1, h2])]; rfl
theorem cleanL_no {b c : UInt8} (l : List UInt8) (h : c = b ∨ c = 34) : cleanL b (l ++ [c]) = cleanL b l := by
  unfold cleanL
  rw [List.filter_append, List.filter_cons, if_neg (by rcases h with h | h <;> simp [h])]
  simp
theorem cleanL_le (b : UInt8) (l : List UInt8) : (cleanL b l).length ≤ l.length := List.length_filter_le _ _
theorem cleanL_mem {b c : UInt8} {l : List UInt8} (h : c ∈ cleanL b l) : c ≠ b ∧ c ≠ 34 := by
  unfold cleanL at h
  have := (List.mem_filter.1 h).2
  simpa using this

/-- Texts put together by a byte. -/
def jn (b : UInt8) : List (List UInt8) → List UInt8
  | [] => []
  | p :: ps => p ++ ps.flatMap fun q => b :: q
theorem jn_one (b : UInt8) (p : List UInt8) : jn b [p] = p := by simp [jn]
theorem jn_snoc {b : UInt8} {P : List (List UInt8)} (h : P ≠ []) (q : List UInt8) : jn b (P ++ [q]) = jn b P ++ [b] ++ q := by
  cases P with
  | nil => exact absurd rfl h
  | cons p ps => simp [jn]
theorem sp_rest {b : UInt8} : ∀ (ps : List (List UInt8)) (acc : List UInt8), (∀ p ∈ ps, ∀ c ∈ p, c ≠ b ∧ c ≠ 34) → sp b 0 acc (ps.flatMap fun q => b :: q) = some (trimL acc :: ps.map trimL)
  | [], acc, _ => by simp [sp_nil]
  | q :: qs, acc, h => by
    rw [List.flatMap_cons, List.cons_append, sp_by, sp_plain q [] _ (h q (by simp)), List.nil_append, sp_rest qs q (fun p hp => h p (by simp [hp]))]
    rfl
theorem sp_jn {b : UInt8} {P : List (List UInt8)} (hP : P ≠ []) (h : ∀ p ∈ P, ∀ c ∈ p, c ≠ b ∧ c ≠ 34) : sp b 0 [] (jn b P) = some (P.map trimL) := by
  cases P with
  | nil => exact absurd rfl hP
  | cons p ps =>
    rw [jn, sp_plain p [] _ (h p (by simp)), List.nil_append, sp_rest ps p (fun q hq => h q (by simp [hq]))]
    rfl
theorem jn_split {b : UInt8} (h1 : b ≠ 34) (h2 : b ≠ 92) {P : List (List UInt8)} (hP : P ≠ []) (h : ∀ p ∈ P, ∀ c ∈ p, c ≠ b ∧ c ≠ 34) : spP b ⟨(jn b P).toArray⟩ = P.map trimL ∧ spE b ⟨(jn b P).toArray⟩ = 0 := by
  apply sp_okay
  rw [split_of h1 h2]
  exact sp_jn hP h

/-- The first k texts, made clean. -/
def Cl (b : UInt8) (S : Nat → ByteArray) (k : Nat) : List (List UInt8) := (List.range k).map fun i => cleanL b ((S i).data.toList.take 40)
theorem Cl_succ (b : UInt8) (S : Nat → ByteArray) (k : Nat) : Cl b S (k + 1) = Cl b S k ++ [cleanL b ((S k).data.toList.take 40)] := by
  unfold Cl; rw [List.range_succ, List.map_append]; rfl
theorem Cl_length (b : UInt8) (S : Nat → ByteArray) (k : Nat) : (Cl b S k).length = k := by simp [Cl]
theorem Cl_ne {b : UInt8} {S : Nat → ByteArray} {k : Nat} (h : 0 < k) : Cl b S k ≠ [] := by
  intro e
  have := Cl_length b S k
  rw [e] at this
  simp at this
  omega
theorem Cl_clean {b : UInt8} {S : Nat → ByteArray} {k : Nat} : ∀ p ∈ Cl b S k, ∀ c ∈ p, c ≠ b ∧ c ≠ 34 := by
  intro p hp c hc
  obtain ⟨i, _, rfl⟩ := List.mem_map.1 hp
  exact cleanL_mem hc
theorem Cl_jn_le (b : UInt8) (S : Nat → ByteArray) (k : Nat) : (jn b (Cl b S k)).length ≤ 41 * k := by
  induction k with
  | zero => simp [Cl, jn]
  | succ k ih =>
    rw [Cl_succ]
    have hc := cleanL_le b ((S k).data.toList.take 40)
    rw [List.length_take] at hc
    cases k with
    | zero =>
      rw [show Cl b S 0 = [] from rfl, List.nil_append, jn_one]
      omega
    | succ k =>
      rw [jn_snoc (Cl_ne (by omega)), List.length_append, List.length_append]
      simp only [List.length_cons, List.length_nil]
      omega

theorem take_min (l : List UInt8) (m : Nat) (h : m = min l.length 40) : l.take m = l.take 40 := by
  subst h
  by_cases hl : l.length ≤ 40
  · rw [Nat.min_eq_left hl, List.take_of_length_le (Nat.le_refl _), List.take_of_length_le hl]
  · rw [Nat.min_eq_right (by omega)]

theorem bz {b d : UInt8} (h : b = d) : ((b.toNat : Int) == (d.toNat : Int)) = true := by rw [u8_beq, decide_eq_true h]
theorem bn {b d : UInt8} (h : b ≠ d) : ((b.toNat : Int) == (d.toNat : Int)) = false := by rw [u8_beq, decide_eq_false h]

set_option maxHeartbeats 4000000 in
theorem joins_few (ad : Option Addr) (B off len cap : Nat) (S : Nat → ByteArray) (b : UInt8) (w : World) (hlc : len ≤ cap) (hcap : cap ≤ maxLen)
    (hS : ∀ i, i < len → ad = some ⟨B, off, none⟩ ∧ B < w.heap.size ∧ w.cell? ⟨B, off + i, none⟩ = some (.string (S i)) ∧ (S i).size ≤ maxLen) (hfew : len ≤ 12) :
    Calls Try.prog 7 #[.slice ad len cap, .int .u8 (b.toNat : Int)] w fun e w' => e = .returned (.bool true) ∧ Below w.heap.size w w' := by
  unfold maxLen at hcap
  have HS := hide hS
  clear hS
  by_cases h34 : b = 34
  · have hb34 : ((b.toNat : Int) == 34) = true := bz h34
    clear h34
    go_enter Try.func7, Try.ntmps7
    go_wp2_with fail
    refine (alive_any _).mono ?_
    rintro e w1 ⟨rfl, hb1⟩
    go_wp2_with fail
    go_ret
    exact ⟨rfl, hb1⟩
  have hb34 : ((b.toNat : Int) == 34) = false := bn h34
  have H34 := hide h34
  clear h34
  by_cases h92 : b = 92
  · have hb92 : ((b.toNat : Int) == 92) = true := bz h92
    clear h92
    go_enter Try.func7, Try.ntmps7
    go_wp2_with fail
    refine (alive_any _).mono ?_
    rintro e w1 ⟨rfl, hb1⟩
    go_wp2_with fail
    go_ret
    exact ⟨rfl, hb1⟩
  have hb92 : ((b.toNat : Int) == 92) = false := bn h92
  have H92 := hide h92
  clear h92
  by_cases h32 : b = 32
  · have hb32 : ((b.toNat : Int) == 32) = true := bz h32
    clear h32
    go_enter Try.func7, Try.ntmps7
    go_wp2_with fail
    refine (alive_any _).mono ?_
    rintro e w1 ⟨rfl, hb1⟩
    go_wp2_with fail
    go_ret
    exact ⟨rfl, hb1⟩
  have hb32 : ((b.toNat : Int) == 32) = false := bn h32
  have H32 := hide h32
  clear h32
  by_cases h9 : b = 9
  · have hb9 : ((b.toNat : Int) == 9) = true := bz h9
    clear h9
    go_enter Try.func7, Try.ntmps7
    go_wp2_with fail
    refine (alive_any _).mono ?_
    rintro e w1 ⟨rfl, hb1⟩
    go_wp2_with fail
    go_ret
    exact ⟨rfl, hb1⟩
  have hb9 : ((b.toNat : Int) == 9) = false := bn h9
  have H9 := hide h9
  clear h9
  by_cases h0 : len = 0
  · have h0z : ((len : Int) == 0) = true := by rw [beq_iff_eq]; omega
    clear h0
    go_enter Try.func7, Try.ntmps7
    go_wp2_with fail
    refine (alive_any _).mono ?_
    rintro e w1 ⟨rfl, hb1⟩
    go_wp2_with fail
    go_ret
    exact ⟨rfl, hb1⟩
  have h0z : ((len : Int) == 0) = false := by rw [beq_eq_false_iff_ne]; omega
  obtain ⟨rfl, -, -, -⟩ := HS.out 0 (by omega)
  obtain ⟨i0, hi0, hz0, hz1, hz2⟩ := info_parts Try.info9
  go_enter Try.func7, Try.ntmps7
  go_wp2_with fail
  go_loopw [5, 6, 40] (fun o v i wr => ∃ k : Nat, k ≤ len ∧ i = .int .i64 k ∧ o = .string ⟨(jn b (Cl b S k)).toArray⟩ ∧ wr.ownsRow w.heap.size 9 1 v k (strs ((Cl b S k).map trimL)) ∧ Below w.heap.size w wr) (fun _ _ i _ => len - (intOf i).toNat)
  case atStart => exact ⟨0, Nat.zero_le _, rfl, rfl, World.ownsRow_nil _ _ _ _, Below.refl _ _⟩
  case round =>
    obtain ⟨k, hk, rfl, rfl, hown, hbr⟩ := hrel
    have hsz := hbr.size
    by_cases hlt : k < len
    · obtain ⟨-, hBw, hcell, hSz⟩ := HS.out k (by omega)
      have hkz : (k : Int) < len := by omega
      have hce1 : wr.cell? ⟨B, off + k, none⟩ = some (.string (S k)) := (hbr.cell (p := ⟨B, off + k, none⟩) hBw).trans hcell
      obtain ⟨x, hx⟩ : ∃ x, S k = x := ⟨_, rfl⟩
      rw [hx] at hce1 hSz
      have HCS : Hid (Cl b S (k + 1) = Cl b S k ++ [cleanL b (x.data.toList.take 40)]) := by unfold Hid; rw [Cl_succ, hx]
      clear hx hcell
      unfold maxLen at hSz
      have HLE : Hid ((jn b (Cl b S k)).length ≤ 41 * k) := Cl_jn_le b S k
      have HCN : Hid (0 < k → Cl b S k ≠ []) := Cl_ne
      have HC0 : Hid (k = 0 → Cl b S k = []) := by unfold Hid; intro h; rw [h]; rfl
      obtain ⟨P, hP⟩ : ∃ P, Cl b S k = P := ⟨_, rfl⟩
      rw [hP] at hown HCS HLE HCN HC0 ⊢
      clear hP
      have hjl : (jn b P).length ≤ 1000 := by have := HLE.out; omega
      have hjs : (⟨(jn b P).toArray⟩ : ByteArray).size ≤ 1000 := by rw [← size_list]; have := HLE.out; simp only [List.toList_toArray]; omega
      by_cases hx40 : x.size ≤ 40
      · go_wp2_with fail
        go_loop [9, 48] (fun o j => ∃ q : Nat, q ≤ x.size ∧ j = .int .i64 q ∧ o = .string ⟨(cleanL b (x.data.toList.take q)).toArray⟩) (fun _ j => x.size - (intOf j).toNat)
        case atStart => exact ⟨0, Nat.zero_le _, rfl, rfl⟩
        case round =>
          obtain ⟨q, hq, rfl, rfl⟩ := hrel
          by_cases hql : q < x.size
          · have hqx : q < x.size := by omega
            have hqz : (q : Int) < x.size := by omega
            have hqxz : (q : Int) < x.size := by omega
            have HTK : Hid (x.data.toList.take (q + 1) = x.data.toList.take q ++ [x[q]'hqx]) := by
              unfold Hid; rw [take_snoc _ q (by rw [size_list]; exact hqx), get_at x q hqx]
            have hex : (x.extract q (q + 1)).size = 1 := by rw [ByteArray.size_extract]; omega
            have HEX := hide (ext_one hqx)
            have hcs : (⟨(cleanL b (x.data.toList.take q)).toArray⟩ : ByteArray).size ≤ 40 := by
              rw [← size_list]
              have := cleanL_le b (x.data.toList.take q)
              rw [List.length_take] at this
              simp only [List.toList_toArray]; omega
            by_cases h1 : x[q]'hqx = b
            · have hd1 : (((x[q]'hqx).toNat : Int) != (b.toNat : Int)) = false := by rw [u8_bne, decide_eq_true h1]; rfl
              have HCL := hide (cleanL_no (b := b) (x.data.toList.take q) (Or.inl h1))
              clear h1
              go_wp2_with fail
              refine ⟨⟨q + 1, by omega, by go_num, by rw [HTK.out, HCL.out]⟩, by simp [intOf]; omega⟩
            · have hd1 : (((x[q]'hqx).toNat : Int) != (b.toNat : Int)) = true := by rw [u8_bne, decide_eq_false h1]; rfl
              by_cases h2 : x[q]'hqx = 34
              · have hd2 : (((x[q]'hqx).toNat : Int) != 34) = false := by have := u8_bne (x[q]'hqx) 34; rw [decide_eq_true h2] at this; exact this
                have HCL := hide (cleanL_no (b := b) (x.data.toList.take q) (Or.inr h2))
                clear h1 h2
                go_wp2_with fail
                refine ⟨⟨q + 1, by omega, by go_num, by rw [HTK.out, HCL.out]⟩, by simp [intOf]; omega⟩
              · have hd2 : (((x[q]'hqx).toNat : Int) != 34) = true := by have := u8_bne (x[q]'hqx) 34; rw [decide_eq_false h2] at this; exact this
                have HCL := hide (cleanL_yes (b := b) (x.data.toList.take q) h1 h2)
                clear h1 h2
                go_wp2_with fail
                refine ⟨⟨q + 1, by omega, by go_num, by rw [HTK.out, HCL.out, byte_snoc HEX.out]⟩, by simp [intOf]; omega⟩
          · have hqd : decide ((q : Int) < x.size) = false := decide_eq_false (by omega)
            obtain rfl : q = x.size := by omega
            have HCL : Hid (cleanL b (x.data.toList.take x.size) = cleanL b (x.data.toList.take 40)) := by unfold Hid; rw [take_min _ x.size (by rw [size_list]; omega)]
            rw [HCL.out]
            have hTs : (⟨(cleanL b (x.data.toList.take 40)).toArray⟩ : ByteArray).size ≤ 40 := by
              rw [← size_list]
              have := cleanL_le b (x.data.toList.take 40)
              rw [List.length_take] at this
              simp only [List.toList_toArray]; omega
            obtain ⟨T, hT⟩ : ∃ T, cleanL b (x.data.toList.take 40) = T := ⟨_, rfl⟩
            rw [hT] at HCS hTs ⊢
            clear hT HCL
            have HTS := hide hTs
            have hTl : T.length ≤ 40 := by rw [← size_list] at hTs; simpa using hTs
            by_cases hk0 : 0 < k
            · have hk0z : (0 : Int) < k := by omega
              have hcv := one_byte wr b (b.toNat : Int) rfl
              have HJ : Hid ((⟨(jn b P).toArray⟩ : ByteArray) ++ ⟨#[b]⟩ ++ ⟨T.toArray⟩ = ⟨(jn b (P ++ [T])).toArray⟩) := by
                unfold Hid
                apply bytes_ext
                rw [app_list, app_list, jn_snoc (HCN.out hk0)]
              have hbx := hbr.alloc hsz (.cells #[.int .u8 (b.toNat : Int)] 5)
              have hox := hown.alloc (.cells #[.int .u8 (b.toNat : Int)] 5)
              clear hown hbr
              go_wp2_with fail
              refine (reftrim_any ⟨T.toArray⟩ _ (by have := HTS.out; omega)).mono ?_
              rintro e w1 ⟨rfl, hw1⟩
              rw [← hw1] at hbx hox
              clear hw1 hcv
              rw [trim_acc]
              obtain ⟨U, hU⟩ : ∃ U, trimL T = U := ⟨_, rfl⟩
              have HU := hide hU
              rw [hU]
              clear hU
              have hs1 := hbx.size
              have hla := hbx.alloc hs1 (.cells #[.string ⟨U.toArray⟩] 9)
              have hoa := hox.alloc (.cells #[.string ⟨U.toArray⟩] 9)
              have h63 : k + 1 ≤ maxLen := maxLen_of (by omega)
              have hby : (k + 1) * 16 ≤ 140737488355328 := by omega
              have hba : w.heap.size ≤ (w1.alloc (.cells #[.string ⟨U.toArray⟩] 9)).heap.size := by simp; omega
              have hce : ∀ j u, [Value.string ⟨U.toArray⟩][j]? = some u → (w1.alloc (.cells #[.string ⟨U.toArray⟩] 9)).cell? ((⟨w1.heap.size, 0, none⟩ : Addr).add j) = some u := by
                intro j u hj
                rw [add_none, Nat.zero_add, World.cell?_alloc_new]
                simpa using hj
              have HX := hide (And.intro h63 (And.intro hby (And.intro hba (And.intro hce (And.intro hla hoa)))))
              clear h63 hby hba hce hla hoa hox hbx
              go_wp2_with (at_builtin; refine wpList_append_own _ rfl (.tmp 80) (.tmp 83) 26 rfl w.heap.size 9 i0 (.string ⟨#[]⟩) 1 16 Try.underlying26 hi0 hz0 hz1 hz2 rfl (by decide) _ _ _ rfl HX.out.2.2.2.2.2 ⟨w1.heap.size, 0, none⟩ 1 1 [.string ⟨U.toArray⟩] rfl rfl HX.out.2.2.2.1 (by intro u hu; simp at hu; subst hu; rfl) HX.out.1 HX.out.2.1 HX.out.2.2.1 ?_; intro v' w2 ho2 hg2 _)
              have hl2 := HX.out.2.2.2.2.1.grown hg2 HX.out.2.2.1 (fun j hj => (HX.out.2.2.2.2.2.lt j hj).1)
              refine ⟨⟨k + 1, by omega, by go_num, by rw [HCS.out, ← HJ.out], ?_, hl2⟩, by simp [intOf]; omega⟩
              rw [HCS.out, List.map_append, strs_append]
              simp only [List.map_cons, List.map_nil]
              rw [HU.out]
              exact ho2
            · have hk0d : decide ((0 : Int) < k) = false := decide_eq_false (by omega)
              have HJ : Hid ((⟨(jn b P).toArray⟩ : ByteArray) ++ ⟨T.toArray⟩ = ⟨(jn b (P ++ [T])).toArray⟩) := by
                unfold Hid
                apply bytes_ext
                rw [app_list, HC0.out (by omega)]
                simp [jn]
              have hbx := hbr
              have hox := hown
              clear hown hbr
              go_wp2_with fail
              refine (reftrim_any ⟨T.toArray⟩ _ (by have := HTS.out; omega)).mono ?_
              rintro e w1 ⟨rfl, hw1⟩
              rw [← hw1] at hbx hox
              clear hw1
              rw [trim_acc]
              obtain ⟨U, hU⟩ : ∃ U, trimL T = U := ⟨_, rfl⟩
              have HU := hide hU
              rw [hU]
              clear hU
              have hs1 := hbx.size
              have hla := hbx.alloc hs1 (.cells #[.string ⟨U.toArray⟩] 9)
              have hoa := hox.alloc (.cells #[.string ⟨U.toArray⟩] 9)
              have h63 : k + 1 ≤ maxLen := maxLen_of (by omega)
              have hby : (k + 1) * 16 ≤ 140737488355328 := by omega
              have hba : w.heap.size ≤ (w1.alloc (.cells #[.string ⟨U.toArray⟩] 9)).heap.size := by simp; omega
              have hce : ∀ j u, [Value.string ⟨U.toArray⟩][j]? = some u → (w1.alloc (.cells #[.string ⟨U.toArray⟩] 9)).cell? ((⟨w1.heap.size, 0, none⟩ : Addr).add j) = some u := by
                intro j u hj
                rw [add_none, Nat.zero_add, World.cell?_alloc_new]
                simpa using hj
              have HX := hide (And.intro h63 (And.intro hby (And.intro hba (And.intro hce (And.intro hla hoa)))))
              clear h63 hby hba hce hla hoa hox hbx
              go_wp2_with (at_builtin; refine wpList_append_own _ rfl (.tmp 80) (.tmp 83) 26 rfl w.heap.size 9 i0 (.string ⟨#[]⟩) 1 16 Try.underlying26 hi0 hz0 hz1 hz2 rfl (by decide) _ _ _ rfl HX.out.2.2.2.2.2 ⟨w1.heap.size, 0, none⟩ 1 1 [.string ⟨U.toArray⟩] rfl rfl HX.out.2.2.2.1 (by intro u hu; simp at hu; subst hu; rfl) HX.out.1 HX.out.2.1 HX.out.2.2.1 ?_; intro v' w2 ho2 hg2 _)
              have hl2 := HX.out.2.2.2.2.1.grown hg2 HX.out.2.2.1 (fun j hj => (HX.out.2.2.2.2.2.lt j hj).1)
              refine ⟨⟨k + 1, by omega, by go_num, by rw [HCS.out, ← HJ.out], ?_, hl2⟩, by simp [intOf]; omega⟩
              rw [HCS.out, List.map_append, strs_append]
              simp only [List.map_cons, List.map_nil]
              rw [HU.out]
              exact ho2
      · have hx41 : 40 < x.size := by omega
        clear hx40
        go_wp2_with fail
        go_loop [9, 48] (fun o j => ∃ q : Nat, q ≤ 40 ∧ j = .int .i64 q ∧ o = .string ⟨(cleanL b (x.data.toList.take q)).toArray⟩) (fun _ j => 40 - (intOf j).toNat)
        case atStart => exact ⟨0, Nat.zero_le _, rfl, rfl⟩
        case round =>
          obtain ⟨q, hq, rfl, rfl⟩ := hrel
          by_cases hql : q < 40
          · have hqx : q < x.size := by omega
            have hqz : (q : Int) < 40 := by omega
            have hqxz : (q : Int) < x.size := by omega
            have HTK : Hid (x.data.toList.take (q + 1) = x.data.toList.take q ++ [x[q]'hqx]) := by
              unfold Hid; rw [take_snoc _ q (by rw [size_list]; exact hqx), get_at x q hqx]
            have hex : (x.extract q (q + 1)).size = 1 := by rw [ByteArray.size_extract]; omega
            have HEX := hide (ext_one hqx)
            have hcs : (⟨(cleanL b (x.data.toList.take q)).toArray⟩ : ByteArray).size ≤ 40 := by
              rw [← size_list]
              have := cleanL_le b (x.data.toList.take q)
              rw [List.length_take] at this
              simp only [List.toList_toArray]; omega
            by_cases h1 : x[q]'hqx = b
            · have hd1 : (((x[q]'hqx).toNat : Int) != (b.toNat : Int)) = false := by rw [u8_bne, decide_eq_true h1]; rfl
              have HCL := hide (cleanL_no (b := b) (x.data.toList.take q) (Or.inl h1))
              clear h1
              go_wp2_with fail
              refine ⟨⟨q + 1, by omega, by go_num, by rw [HTK.out, HCL.out]⟩, by simp [intOf]; omega⟩
            · have hd1 : (((x[q]'hqx).toNat : Int) != (b.toNat : Int)) = true := by rw [u8_bne, decide_eq_false h1]; rfl
              by_cases h2 : x[q]'hqx = 34
              · have hd2 : (((x[q]'hqx).toNat : Int) != 34) = false := by have := u8_bne (x[q]'hqx) 34; rw [decide_eq_true h2] at this; exact this
                have HCL := hide (cleanL_no (b := b) (x.data.toList.take q) (Or.inr h2))
                clear h1 h2
                go_wp2_with fail
                refine ⟨⟨q + 1, by omega, by go_num, by rw [HTK.out, HCL.out]⟩, by simp [intOf]; omega⟩
              · have hd2 : (((x[q]'hqx).toNat : Int) != 34) = true := by have := u8_bne (x[q]'hqx) 34; rw [decide_eq_false h2] at this; exact this
                have HCL := hide (cleanL_yes (b := b) (x.data.toList.take q) h1 h2)
                clear h1 h2
                go_wp2_with fail
                refine ⟨⟨q + 1, by omega, by go_num, by rw [HTK.out, HCL.out, byte_snoc HEX.out]⟩, by simp [intOf]; omega⟩
          · have hqd : decide ((q : Int) < 40) = false := decide_eq_false (by omega)
            obtain rfl : q = 40 := by omega
            have HCL : Hid (cleanL b (x.data.toList.take 40) = cleanL b (x.data.toList.take 40)) := by unfold Hid; rw [take_min _ 40 (by rw [size_list]; omega)]
            rw [HCL.out]
            have hTs : (⟨(cleanL b (x.data.toList.take 40)).toArray⟩ : ByteArray).size ≤ 40 := by
              rw [← size_list]
              have := cleanL_le b (x.data.toList.take 40)
              rw [List.length_take] at this
              simp only [List.toList_toArray]; omega
            obtain ⟨T, hT⟩ : ∃ T, cleanL b (x.data.toList.take 40) = T := ⟨_, rfl⟩
            rw [hT] at HCS hTs ⊢
            clear hT HCL
            have HTS := hide hTs
            have hTl : T.length ≤ 40 := by rw [← size_list] at hTs; simpa using hTs
            by_cases hk0 : 0 < k
            · have hk0z : (0 : Int) < k := by omega
              have hcv := one_byte wr b (b.toNat : Int) rfl
              have HJ : Hid ((⟨(jn b P).toArray⟩ : ByteArray) ++ ⟨#[b]⟩ ++ ⟨T.toArray⟩ = ⟨(jn b (P ++ [T])).toArray⟩) := by
                unfold Hid
                apply bytes_ext
                rw [app_list, app_list, jn_snoc (HCN.out hk0)]
              have hbx := hbr.alloc hsz (.cells #[.int .u8 (b.toNat : Int)] 5)
              have hox := hown.alloc (.cells #[.int .u8 (b.toNat : Int)] 5)
              clear hown hbr
              go_wp2_with fail
              refine (reftrim_any ⟨T.toArray⟩ _ (by have := HTS.out; omega)).mono ?_
              rintro e w1 ⟨rfl, hw1⟩
              rw [← hw1] at hbx hox
              clear hw1 hcv
              rw [trim_acc]
              obtain ⟨U, hU⟩ : ∃ U, trimL T = U := ⟨_, rfl⟩
              have HU := hide hU
              rw [hU]
              clear hU
              have hs1 := hbx.size
              have hla := hbx.alloc hs1 (.cells #[.string ⟨U.toArray⟩] 9)
              have hoa := hox.alloc (.cells #[.string ⟨U.toArray⟩] 9)
              have h63 : k + 1 ≤ maxLen := maxLen_of (by omega)
              have hby : (k + 1) * 16 ≤ 140737488355328 := by omega
              have hba : w.heap.size ≤ (w1.alloc (.cells #[.string ⟨U.toArray⟩] 9)).heap.size := by simp; omega
              have hce : ∀ j u, [Value.string ⟨U.toArray⟩][j]? = some u → (w1.alloc (.cells #[.string ⟨U.toArray⟩] 9)).cell? ((⟨w1.heap.size, 0, none⟩ : Addr).add j) = some u := by
                intro j u hj
                rw [add_none, Nat.zero_add, World.cell?_alloc_new]
                simpa using hj
              have HX := hide (And.intro h63 (And.intro hby (And.intro hba (And.intro hce (And.intro hla hoa)))))
              clear h63 hby hba hce hla hoa hox hbx
              go_wp2_with (at_builtin; refine wpList_append_own _ rfl (.tmp 80) (.tmp 83) 26 rfl w.heap.size 9 i0 (.string ⟨#[]⟩) 1 16 Try.underlying26 hi0 hz0 hz1 hz2 rfl (by decide) _ _ _ rfl HX.out.2.2.2.2.2 ⟨w1.heap.size, 0, none⟩ 1 1 [.string ⟨U.toArray⟩] rfl rfl HX.out.2.2.2.1 (by intro u hu; simp at hu; subst hu; rfl) HX.out.1 HX.out.2.1 HX.out.2.2.1 ?_; intro v' w2 ho2 hg2 _)
              have hl2 := HX.out.2.2.2.2.1.grown hg2 HX.out.2.2.1 (fun j hj => (HX.out.2.2.2.2.2.lt j hj).1)
              refine ⟨⟨k + 1, by omega, by go_num, by rw [HCS.out, ← HJ.out], ?_, hl2⟩, by simp [intOf]; omega⟩
              rw [HCS.out, List.map_append, strs_append]
              simp only [List.map_cons, List.map_nil]
              rw [HU.out]
              exact ho2
            · have hk0d : decide ((0 : Int) < k) = false := decide_eq_false (by omega)
              have HJ : Hid ((⟨(jn b P).toArray⟩ : ByteArray) ++ ⟨T.toArray⟩ = ⟨(jn b (P ++ [T])).toArray⟩) := by
                unfold Hid
                apply bytes_ext
                rw [app_list, HC0.out (by omega)]
                simp [jn]
              have hbx := hbr
              have hox := hown
              clear hown hbr
              go_wp2_with fail
              refine (reftrim_any ⟨T.toArray⟩ _ (by have := HTS.out; omega)).mono ?_
              rintro e w1 ⟨rfl, hw1⟩
              rw [← hw1] at hbx hox
              clear hw1
              rw [trim_acc]
              obtain ⟨U, hU⟩ : ∃ U, trimL T = U := ⟨_, rfl⟩
              have HU := hide hU
              rw [hU]
              clear hU
              have hs1 := hbx.size
              have hla := hbx.alloc hs1 (.cells #[.string ⟨U.toArray⟩] 9)
              have hoa := hox.alloc (.cells #[.string ⟨U.toArray⟩] 9)
              have h63 : k + 1 ≤ maxLen := maxLen_of (by omega)
              have hby : (k + 1) * 16 ≤ 140737488355328 := by omega
              have hba : w.heap.size ≤ (w1.alloc (.cells #[.string ⟨U.toArray⟩] 9)).heap.size := by simp; omega
              have hce : ∀ j u, [Value.string ⟨U.toArray⟩][j]? = some u → (w1.alloc (.cells #[.string ⟨U.toArray⟩] 9)).cell? ((⟨w1.heap.size, 0, none⟩ : Addr).add j) = some u := by
                intro j u hj
                rw [add_none, Nat.zero_add, World.cell?_alloc_new]
                simpa using hj
              have HX := hide (And.intro h63 (And.intro hby (And.intro hba (And.intro hce (And.intro hla hoa)))))
              clear h63 hby hba hce hla hoa hox hbx
              go_wp2_with (at_builtin; refine wpList_append_own _ rfl (.tmp 80) (.tmp 83) 26 rfl w.heap.size 9 i0 (.string ⟨#[]⟩) 1 16 Try.underlying26 hi0 hz0 hz1 hz2 rfl (by decide) _ _ _ rfl HX.out.2.2.2.2.2 ⟨w1.heap.size, 0, none⟩ 1 1 [.string ⟨U.toArray⟩] rfl rfl HX.out.2.2.2.1 (by intro u hu; simp at hu; subst hu; rfl) HX.out.1 HX.out.2.1 HX.out.2.2.1 ?_; intro v' w2 ho2 hg2 _)
              have hl2 := HX.out.2.2.2.2.1.grown hg2 HX.out.2.2.1 (fun j hj => (HX.out.2.2.2.2.2.lt j hj).1)
              refine ⟨⟨k + 1, by omega, by go_num, by rw [HCS.out, ← HJ.out], ?_, hl2⟩, by simp [intOf]; omega⟩
              rw [HCS.out, List.map_append, strs_append]
              simp only [List.map_cons, List.map_nil]
              rw [HU.out]
              exact ho2
    · have hd : decide ((k : Int) < len) = false := decide_eq_false (by omega)
      have hk1 : 0 < k := by omega
      have hk12 : k ≤ 12 := by omega
      have HSP := hide (jn_split H34.out H92.out (Cl_ne (b := b) (S := S) (k := k) (by omega)) Cl_clean)
      have HJS : Hid ((⟨(jn b (Cl b S k)).toArray⟩ : ByteArray).size ≤ 1000000) := by unfold Hid; rw [← size_list]; have := Cl_jn_le b S k; simp only [List.toList_toArray]; omega
      have HPL : Hid (((Cl b S k).map trimL).length = k) := by unfold Hid; rw [List.length_map, Cl_length]
      obtain ⟨P, hP⟩ : ∃ P, Cl b S k = P := ⟨_, rfl⟩
      rw [hP] at hown HSP HJS HPL ⊢
      clear hP
      go_wp2_with fail
      refine (split_any _ b _ HJS.out).mono ?_
      rintro e w1 ⟨va, rfl, ho1, hb1⟩
      rw [HSP.out.1] at ho1
      rw [HSP.out.2]
      have hoP : wr.ownsRow w.heap.size 9 1 u6 (P.map trimL).length (strs (P.map trimL)) := by rw [HPL.out]; exact hown
      have hbw := owns_below hoP hb1
      have c1 := hbr.trans (hb1.mono hsz)
      clear hown hoP hbr hb1
      have HO1 := hide ho1
      have HO2 := hide hbw
      clear ho1 hbw
      go_wp2_with fail
      refine (alive_any _).mono ?_
      rintro e w2 ⟨rfl, hb2⟩
      have c2 := c1.trans (hb2.mono c1.size)
      have HA := hide (owns_below HO1.out hb2)
      have HB := hide (owns_below HO2.out hb2)
      clear hb2 c1
      go_wp2_with fail
      refine (refsame_any (P.map trimL) va u6 _ _ _ HA.out HB.out (by rw [HPL.out]; omega)).mono ?_
      rintro e w3 ⟨rfl, n, rfl⟩
      go_wp2_with fail
      go_ret
      exact ⟨rfl, below_drewN c2 n⟩

end Go.Proofs.Ytlgdjdkekpfphaa
