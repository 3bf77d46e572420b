/- The walks of what puts other bytes in the place of some. -/
import Derived.Test.YtojoidhjlbcijaaDoorWf
import Derived.Laws.BytesArg
import Derived.OwnWalk
namespace Go.Proofs.YtojoidhjlbcijaaDoor
set_option linter.unusedVariables false
set_option linter.unusedSimpArgs false
set_option maxRecDepth 100000
open Go.RowKit

theorem Tryd.info5 : (Tryd.prog.info? 5).map (fun i => (i.zero, i.size, i.bytes)) = some (some (.int .u8 0), 1, 1) := by kernel_rfl
theorem Tryd.info9 : (Tryd.prog.info? 9).map (fun i => (i.zero, i.size, i.bytes)) = some (some (.string ⟨#[]⟩), 1, 16) := by kernel_rfl

/-- What a call owns stays owned behind what turns nothing of old. -/
theorem owns_below {w w' : World} {base : Nat} {e : TypeId} {size : Nat} {v : Value} {n : Nat} {xs : List Value} (h : w.ownsRow base e size v n xs) (hb : Below w.heap.size w w') : w'.ownsRow base e size v n xs := by
  refine ⟨h.1, ?_⟩
  rcases h.2 with h | ⟨g, cap, cur, h1, h2, h3, h4⟩
  · exact Or.inl h
  · exact Or.inr ⟨g, cap, cur, h1, h2, (hb.block g (Array.getElem?_eq_some_iff.1 h3).1).trans h3, h4⟩
theorem owns_drew {w : World} {base : Nat} {e : TypeId} {size : Nat} {v : Value} {n : Nat} {xs : List Value} (h : w.ownsRow base e size v n xs) : w.drew.ownsRow base e size v n xs := h

/-- Bytes as cells. -/
def u8s (l : List UInt8) : List Value := l.map fun c => .int .u8 (c.toNat : Int)
theorem u8s_length (l : List UInt8) : (u8s l).length = l.length := by simp [u8s]
theorem u8s_append (l m : List UInt8) : u8s (l ++ m) = u8s l ++ u8s m := by simp [u8s]
theorem u8s_one (l : List UInt8) : ∀ u ∈ u8s l, u.oneCell' = true := by
  intro u hu
  obtain ⟨c, _, rfl⟩ := List.mem_map.1 hu
  rfl

/-- Owned bytes as a text. -/
theorem conv_own {w : World} {base : Nat} {v : Value} {l : List UInt8} (h : w.ownsRow base 5 1 v l.length (u8s l)) : Sem.run Tryd.prog (convert 71 9 v) w = .ok (.string ⟨l.toArray⟩) w := by
  rcases h.2 with ⟨rfl, h0⟩ | ⟨g, cap, cur, rfl, h2, h3, h4, h5, h6, h7⟩
  · obtain rfl : l = [] := List.length_eq_zero_iff.1 h0
    exact run_convert_bytes_nil (P := Tryd.prog) w 71 5 Tryd.underlying71 Tryd.underlying5 0 0 9 Tryd.underlying9
  · have hcell : ∀ j (hj : j < l.length), w.cell? ((⟨g, 0, none⟩ : Addr).add j) = some (.int .u8 (l[j].toNat : Int)) := by
      intro j hj
      rw [add_none, Nat.zero_add, cell_of_row w g j cur 5 (0, 0) h3]
      have : (u8s l)[j]? = some (.int .u8 (l[j].toNat : Int)) := by simp [u8s, hj]
      rw [← h7, List.getElem?_take, if_pos (by omega)] at this
      simpa using this
    exact run_convert_bytes_back (P := Tryd.prog) w 71 9 5 ⟨g, 0, none⟩ cap l Tryd.underlying71 Tryd.underlying5 Tryd.underlying9 hcell

theorem Lies.alloc {w w' : World} {l : List UInt8} (h : Lies w l w') (o : Obj) : Lies w l (w'.alloc o) := h.below ((Below.refl _ _).alloc (Nat.le_refl _) o)
theorem Lies.grown {w w1 w2 : World} {l : List UInt8} {e : TypeId} {size : Nat} {v : Value} {n : Nat} {xs : List Value} (h : Lies w l w1) (ho : w1.ownsRow (w.heap.size + 1) e size v n xs) (hg : w1.grownBy w2 v.ownBlock) : Lies w l w2 := by
  have hk : ∀ k, v.ownBlock = some k → w.heap.size + 1 ≤ k := fun k hk => (ho.lt k hk).1
  refine ⟨(hg.block _ h.lt (fun e => ?_)).trans h.1, h.2.grown hg (Nat.le_of_lt h.lt) (fun k hk' => by have := hk k hk'; omega)⟩
  have := hk _ e.symm
  omega

set_option maxHeartbeats 1000000 in
theorem low1_any (c : UInt8) (hc : capB c = true) (w : World) :
    Calls Tryd.prog 61 #[.int .u8 (c.toNat : Int)] w fun e w' => e = .returned (.slice (some ⟨w.heap.size, 0, none⟩) 1 1) ∧ w' = w.alloc (.cells (u8s [lowB c]).toArray 5) := by
  rw [capB_iff] at hc
  simp only [Bool.and_eq_true, decide_eq_true_eq] at hc
  obtain ⟨h1, h2⟩ := hc
  have HL := hide (low_yes h1 h2)
  go_enter Tryd.func61, Tryd.ntmps61
  go_wp2
  go_ret
  refine ⟨rfl, ?_⟩
  simp only [u8s, List.map_cons, List.map_nil]
  rw [HL.out, show ((c.toNat : Int)) - 65 + 97 = c.toNat + 32 by omega]

theorem flat_le (l : List UInt8) (f : UInt8 → List UInt8) (h : ∀ c, (f c).length ≤ 2) : (l.flatMap f).length ≤ 2 * l.length := by
  induction l with
  | nil => simp
  | cons c l ih =>
    rw [List.flatMap_cons, List.length_append, List.length_cons]
    have := h c
    omega
def lows1 (c : UInt8) : List UInt8 := [lowB c]
theorem lows1_no {c : UInt8} (h : capB c = false) : lows1 c = [c] := by
  unfold lows1 lowB; rw [if_neg (by simp [h])]
theorem flat_low (l : List UInt8) : l.flatMap lows1 = lowL l := by
  induction l with
  | nil => rfl
  | cons c l ih => rw [List.flatMap_cons, ih]; rfl

set_option maxHeartbeats 2000000 in
theorem rewrite_low (s : ByteArray) (w : World) (hs : s.size ≤ 1000000) :
    Calls Tryd.prog 58 #[.string s, .agg (Lib.setCells capsL), .func (.func 60) #[] #[], .func (.func 61) #[] #[]] w fun e w' => e = .returned (.string ⟨(s.data.toList.flatMap lows1).toArray⟩) ∧ Below w.heap.size w w' := by
  have HZ : Hid (s.data.toList.length = s.size) := by unfold Hid; simp
  obtain ⟨i0, hi0, hz0, hz1, hz2⟩ := info_parts Tryd.info5
  go_enter Tryd.func58, Tryd.ntmps58
  go_wp2_with fail
  go_loopw [9, 13] (fun v i wr => ∃ k : Nat, k ≤ s.size ∧ i = .int .i64 k ∧ Lies w capsL wr ∧ wr.ownsRow (w.heap.size + 1) 5 1 v ((s.data.toList.take k).flatMap lows1).length (u8s ((s.data.toList.take k).flatMap lows1))) (fun _ i _ => s.size - (intOf i).toNat)
  case atStart => exact ⟨0, Nat.zero_le _, rfl, Lies.new _ _, World.ownsRow_nil _ _ _ _⟩
  case round =>
    obtain ⟨k, hk, rfl, hli, hown⟩ := hrel
    by_cases hlt : k < s.size
    · have hltz : (k : Int) < s.size := by omega
      obtain ⟨b, hb⟩ : ∃ b, capB s[k] = b := ⟨_, rfl⟩
      have HB := hide hb
      have HT : Hid (s.data.toList.take (k + 1) = s.data.toList.take k ++ [s[k]]) := by
        unfold Hid; rw [take_snoc _ k (by rw [HZ.out]; exact hlt), get_at s k hlt]
      have HF : Hid ((s.data.toList.take (k + 1)).flatMap lows1 = (s.data.toList.take k).flatMap lows1 ++ lows1 s[k]) := by
        unfold Hid; rw [HT.out, List.flatMap_append]; simp
      have HLE : Hid (((s.data.toList.take k).flatMap lows1).length ≤ 2 * k) := by
        unfold Hid
        refine Nat.le_trans (flat_le _ lows1 (by intro c; simp [lows1])) ?_
        rw [List.length_take]; omega
      obtain ⟨F, hF⟩ : ∃ F, (s.data.toList.take k).flatMap lows1 = F := ⟨_, rfl⟩
      rw [hF] at HF HLE hown
      clear hF
      have hu := Tryd.underlying74
      have hi := len39 capsL
      go_wp2_with fail
      go_region_held3 (fun w' => Lies w capsL w' ∧ w'.rangeAt w.heap.size 0 (Lib.setCells capsL).toList)
        (first | exact ⟨hli.drew, hli.drew.range⟩ | exact ⟨hli.drew.below (by assumption), (hli.drew.below (by assumption)).range⟩)
        (first | (go_at_call 60; refine (has_any capsL s[k] b hb _).mono ?_; rintro e w1 ⟨rfl, hw1⟩))
      rename_i hS
      obtain ⟨hl1, -⟩ := hS
      have ho1 := owns_below (owns_drew hown) hw1
      clear hi hu hw1 hli hown
      cases b
      · have hlw := hl1.lt
        have hla := hl1.alloc (.cells #[.int .u8 ((s[k]).toNat : Int)] 5)
        have hoa := ho1.alloc (.cells #[.int .u8 ((s[k]).toNat : Int)] 5)
        have h63 : F.length + 1 ≤ maxLen := maxLen_of (by have := HLE.out; omega)
        have hby : (F.length + 1) * 1 ≤ 140737488355328 := by have := HLE.out; omega
        have hba : w.heap.size + 1 ≤ (w1.alloc (.cells #[.int .u8 ((s[k]).toNat : Int)] 5)).heap.size := by simp; omega
        have hce : ∀ j u, [Value.int .u8 ((s[k]).toNat : Int)][j]? = some u → (w1.alloc (.cells #[.int .u8 ((s[k]).toNat : Int)] 5)).cell? ((⟨w1.heap.size, 0, none⟩ : Addr).add j) = some u := by
          intro j u hj
          rw [add_none, Nat.zero_add, World.cell?_alloc_new]
          simpa using hj
        have HX := hide (And.intro h63 (And.intro hby (And.intro hba (And.intro hce (And.intro hla hoa)))))
        clear h63 hby hba hce hla hoa ho1
        go_wp2_with (at_builtin; refine wpList_append_own _ rfl (.tmp 29) (.tmp 33) 71 rfl (w.heap.size + 1) 5 i0 (.int .u8 0) 1 1 Tryd.underlying71 hi0 hz0 hz1 hz2 rfl (by decide) _ _ _ rfl HX.out.2.2.2.2.2 ⟨w1.heap.size, 0, none⟩ 1 1 [.int .u8 ((s[k]).toNat : Int)] rfl rfl HX.out.2.2.2.1 (by intro u hu; simp at hu; subst hu; rfl) HX.out.1 HX.out.2.1 HX.out.2.2.1 ?_; intro v' w2 ho2 hg2 _)
        have hl2 := HX.out.2.2.2.2.1.grown HX.out.2.2.2.2.2 hg2
        refine ⟨⟨k + 1, by omega, by go_num, hl2, ?_⟩, by simp [intOf]; omega⟩
        rw [HF.out, lows1_no HB.out, List.length_append, u8s_append]
        exact ho2
      · have hlw := hl1.lt
        have hla := hl1.alloc (.cells (u8s [lowB s[k]]).toArray 5)
        have hoa := ho1.alloc (.cells (u8s [lowB s[k]]).toArray 5)
        have h63 : F.length + 1 ≤ maxLen := maxLen_of (by have := HLE.out; omega)
        have hby : (F.length + 1) * 1 ≤ 140737488355328 := by have := HLE.out; omega
        have hba : w.heap.size + 1 ≤ (w1.alloc (.cells (u8s [lowB s[k]]).toArray 5)).heap.size := by simp; omega
        have hce : ∀ j u, (u8s [lowB s[k]])[j]? = some u → (w1.alloc (.cells (u8s [lowB s[k]]).toArray 5)).cell? ((⟨w1.heap.size, 0, none⟩ : Addr).add j) = some u := by
          intro j u hj
          rw [add_none, Nat.zero_add, World.cell?_alloc_new]
          simpa using hj
        have HX := hide (And.intro h63 (And.intro hby (And.intro hba (And.intro hce (And.intro hla hoa)))))
        clear h63 hby hba hce hla hoa ho1
        go_wp2_with fail
        refine (low1_any s[k] HB.out _).mono ?_
        rintro e w2 ⟨rfl, hw2⟩
        rw [← hw2] at HX
        clear hw2
        go_wp2_with (at_builtin; refine wpList_append_own _ rfl (.tmp 22) (.tmp 27) 71 rfl (w.heap.size + 1) 5 i0 (.int .u8 0) 1 1 Tryd.underlying71 hi0 hz0 hz1 hz2 rfl (by decide) _ _ _ rfl HX.out.2.2.2.2.2 ⟨w1.heap.size, 0, none⟩ 1 1 (u8s [lowB s[k]]) rfl rfl HX.out.2.2.2.1 (u8s_one _) HX.out.1 HX.out.2.1 HX.out.2.2.1 ?_; intro v' w3 ho2 hg2 _)
        have hl2 := HX.out.2.2.2.2.1.grown HX.out.2.2.2.2.2 hg2
        refine ⟨⟨k + 1, by omega, by go_num, hl2, ?_⟩, by simp [intOf]; omega⟩
        rw [HF.out, show lows1 s[k] = [lowB s[k]] from rfl, List.length_append, u8s_append]
        exact ho2
    · have hd : decide ((k : Int) < s.size) = false := decide_eq_false (by omega)
      rw [List.take_of_length_le (by rw [HZ.out]; omega)] at hown
      have hcv := conv_own hown
      go_wp2_with fail
      go_ret
      exact ⟨rfl, hli.2⟩

end Go.Proofs.YtojoidhjlbcijaaDoor
