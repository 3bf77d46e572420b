/- The walk of the taking of a line. -/
import Derived.Test.YtalhfifippfnkaaKb
namespace Go.Proofs.Ytalhfifippfnkaa
set_option linter.unusedVariables false
set_option linter.unusedSimpArgs false
open Go.RowKit

/-- What the taking of a line comes to: an error, what was read then, what is left. -/
def sl (k : K) (r : ByteArray) : Nat × K × ByteArray :=
  if 200 < k.line.size + (befS 10 r).size then (33, k, r)
  else if hasB 10 r = false then (0, kl k (k.line ++ befS 10 r), aftS 10 r)
  else ((dd (kl k ⟨#[]⟩) (bareL (k.line ++ befS 10 r).data.toList)).1, (dd (kl k ⟨#[]⟩) (bareL (k.line ++ befS 10 r).data.toList)).2, aftS 10 r)

theorem bef_no (c : UInt8) (s : ByteArray) : ∀ x ∈ (befS c s).data.toList, neB c x = true := by
  rw [befS_list]; intro x hx; exact tw_mem hx
theorem cut_has {c : UInt8} {s : ByteArray} (h : hasB c s = true) : s.data.toList = (befS c s).data.toList ++ c :: (aftS c s).data.toList := by
  have h' : atN c s.data.toList < s.data.toList.length := by simpa [hasB] using h
  have := parted h'
  rw [take_atN] at this
  rw [befS_list, aftS_list]
  have e : s.data.toList.drop (atN c s.data.toList + 1) = (s.data.toList.dropWhile (neB c)).drop 1 := by
    rw [← drop_takeWhile, List.drop_drop]; rfl
  rw [← e]; exact this
theorem cut_not {c : UInt8} {s : ByteArray} (h : hasB c s = false) : befS c s = s ∧ aftS c s = ⟨#[]⟩ := by
  have h' : ¬ atN c s.data.toList < s.data.toList.length := by simpa [hasB] using h
  exact ⟨bef_none h', aft_none h'⟩

/-- The taking of a line is the reading of its bytes. -/
theorem sl_run {k : K} {r : ByteArray} (hg : Good k) (h1 : k.st ≠ 1) (h4 : k.st ≠ 4) (hr : 0 < r.size) :
    ((sl k r).1 ≠ 0 → run k r.data.toList = bad (sl k r).1) ∧
    ((sl k r).1 = 0 → Good (sl k r).2.1 ∧ (sl k r).2.2.size < r.size ∧ run k r.data.toList = run (sl k r).2.1 (sl k r).2.2.data.toList) := by
  have hno := bef_no 10 r
  have hz : (befS 10 r).data.toList.length = (befS 10 r).size := size_list _
  have gk : Good (kl k ⟨#[]⟩) := good_kl hg h1 h4 (by decide) (fun c hc => by simp at hc)
  by_cases hb : hasB 10 r = true
  · have e := cut_has hb
    have hs : r.size = (befS 10 r).size + (aftS 10 r).size + 1 := by
      rw [← size_list r, e, List.length_append, List.length_cons, size_list, size_list]; omega
    unfold sl
    by_cases g : 200 < k.line.size + (befS 10 r).size
    · rw [if_pos g]
      refine ⟨fun _ => ?_, fun h => by simp at h⟩
      rw [e]; exact run_over _ h1 h4 hno hg.ln (by omega)
    · rw [if_neg g, if_neg (by rw [hb]; decide)]
      have hrl := run_line (k := k) (aftS 10 r).data.toList h1 h4 hno (by omega)
      rw [← app_list, ← e] at hrl
      refine ⟨fun hd => ?_, fun hd => ⟨good_dd gk h1 h4 rfl _ hd, by show (aftS 10 r).size < r.size; omega, ?_⟩⟩
      · rw [hrl, if_neg (by exact hd)]
      · rw [hrl, if_pos (by exact hd)]
  · have hb' : hasB 10 r = false := by simpa using hb
    obtain ⟨e1, e2⟩ := cut_not hb'
    unfold sl
    by_cases g : 200 < k.line.size + (befS 10 r).size
    · rw [if_pos g]
      refine ⟨fun _ => ?_, fun h => by simp at h⟩
      have := run_over (k := k) [] h1 h4 hno hg.ln (by omega)
      rw [List.append_nil, e1] at this
      exact this
    · rw [if_neg g, if_pos hb']
      refine ⟨fun h => by simp at h, fun _ => ⟨?_, by show (aftS 10 r).size < r.size; rw [e2]; exact hr, ?_⟩⟩
      · refine good_kl hg h1 h4 (by rw [app_size]; omega) (fun c hc => ?_)
        rw [app_list] at hc
        rcases List.mem_append.1 hc with hc | hc
        · exact hg.no c hc
        · exact hno c hc
      · have := run_word (befS 10 r).data.toList k [] h1 h4 hno (by omega)
        rw [List.append_nil] at this
        show run k r.data.toList = run (kl k (k.line ++ befS 10 r)) (aftS 10 r).data.toList
        rw [e2]
        show run k r.data.toList = run (kl k (k.line ++ befS 10 r)) []
        have eb : bs (befS 10 r).data.toList = befS 10 r := (bs_of rfl).symm
        rw [eb, e1] at this
        rw [e1]; exact this

/-- What a line's deed must do. -/
def Deed (F N : Nat) (st : Int) : Prop := ∀ {w : World} {k : K} {r : ByteArray} {v : Value} {d : List UInt8}, Rd w N k r v d → ∀ ln : ByteArray, ln.size ≤ 1000 → k.st = st → 0 ≤ k.size → k.size ≤ 20000 →
  Calls Try.prog F #[.pointer (some ⟨N, 0, none⟩), .string ln] w fun e w' => e = .returned (.int .i64 ((dd k ln.data.toList).1 : Nat)) ∧ Rd w' N (dd k ln.data.toList).2 r v d ∧ Below N w w'
theorem deed0 (N : Nat) : Deed 17 N 0 := fun h ln hl hs h0 h1 => begin_any h ln hl hs h0 h1
theorem deed2 (N : Nat) : Deed 18 N 2 := fun h ln hl hs h0 h1 => end_any h ln hs
theorem deed3 (N : Nat) : Deed 19 N 3 := fun h ln hl hs h0 h1 => tail_any h ln hs
theorem cf23c (a : Array Value) (w1 : World) : Sem.run Try.prog (callFunc 17 a) w1 = .ok (.enter 17 a) w1 := by kernel_rfl
theorem cf24c (a : Array Value) (w1 : World) : Sem.run Try.prog (callFunc 18 a) w1 = .ok (.enter 18 a) w1 := by kernel_rfl
theorem cf25c (a : Array Value) (w1 : World) : Sem.run Try.prog (callFunc 19 a) w1 = .ok (.enter 19 a) w1 := by kernel_rfl

set_option maxRecDepth 100000 in
set_option maxHeartbeats 2000000 in
theorem takeLine_any {w : World} {N : Nat} {k : K} {r : ByteArray} {v : Value} {d : List UInt8} (h : Rd w N k r v d) (F : Nat) (hcf : ∀ (a : Array Value) (w1 : World), Sem.run Try.prog (callFunc F a) w1 = .ok (.enter F a) w1)
    (hD : Deed F N k.st) (hg : Good k) (hr : r.size ≤ 1000000) :
    Calls Try.prog 12 #[.pointer (some ⟨N, 0, none⟩), .func (.func F) #[.pointer (some ⟨N, 0, none⟩)] #[]] w fun e w' => e = .returned (.int .i64 ((sl k r).1 : Nat)) ∧ ((sl k r).1 = 0 → Rd w' N (sl k r).2.1 (sl k r).2.2 v d) ∧ Below N w w' := by
  have hl := hg.ln
  have hz0 := hg.z0
  have hz1 := hg.z1
  have b1 := befS_size 10 r
  have hN := h.lt
  have HS : Hid (sl k r = if 200 < k.line.size + (befS 10 r).size then (33, k, r) else if hasB 10 r = false then (0, kl k (k.line ++ befS 10 r), aftS 10 r) else ((dd (kl k ⟨#[]⟩) (bareL (k.line ++ befS 10 r).data.toList)).1, (dd (kl k ⟨#[]⟩) (bareL (k.line ++ befS 10 r).data.toList)).2, aftS 10 r)) := rfl
  generalize sl k r = S at HS ⊢
  have c4 := h.c4
  by_cases g : 200 < k.line.size + (befS 10 r).size
  · have HR : Hid (S = (33, k, r)) := by unfold Hid; rw [HS.out, if_pos g]
    clear HS
    go_enter Try.func12, Try.ntmps12
    go_wp2_with fail
    refine (cut_any r 10 _ (by omega)).mono ?_
    rintro e w1 ⟨rfl, n1, rfl⟩
    have hR := h.below (below_drewN w n1)
    have c1 := hR.c1
    have B1 := (below_drewN w n1).mono (Nat.le_of_lt hN)
    generalize w.drewN n1 = W1 at hR c1 B1 ⊢
    go_wp2_with fail
    go_ret
    exact ⟨by rw [HR.out]; rfl, fun e => by rw [HR.out] at e; simp at e, B1⟩
  rw [if_neg g] at HS
  cases hb : hasB 10 r
  · have HR : Hid (S = (0, kl k (k.line ++ befS 10 r), aftS 10 r)) := by unfold Hid; rw [HS.out, if_pos hb]
    have HB := hide hb
    clear HS hb
    go_enter Try.func12, Try.ntmps12
    go_wp2_with fail
    refine (cut_any r 10 _ (by omega)).mono ?_
    rintro e w1 ⟨rfl, n1, rfl⟩
    rw [HB.out]
    have hR := h.below (below_drewN w n1)
    have c1 := hR.c1
    have c4 := hR.c4
    have fz := hR.fz
    have B1 := (below_drewN w n1).mono (Nat.le_of_lt hN)
    generalize w.drewN n1 = W1 at hR c1 c4 fz B1 ⊢
    go_wp2_with fail
    go_ret
    refine ⟨by rw [HR.out]; rfl, fun _ => ?_, (B1.setCell (Nat.le_refl N) _).setCell (Nat.le_refl N) _⟩
    rw [HR.out]; exact (hR.s4 _).s1 _
  · have HR : Hid (S = ((dd (kl k ⟨#[]⟩) (bareL (k.line ++ befS 10 r).data.toList)).1, (dd (kl k ⟨#[]⟩) (bareL (k.line ++ befS 10 r).data.toList)).2, aftS 10 r)) := by unfold Hid; rw [HS.out, if_neg (by rw [hb]; decide)]
    have HB := hide hb
    clear HS hb
    go_enter Try.func12, Try.ntmps12
    go_wp2_with fail
    refine (cut_any r 10 _ (by omega)).mono ?_
    rintro e w1 ⟨rfl, n1, rfl⟩
    rw [HB.out]
    have hR := h.below (below_drewN w n1)
    have c1 := hR.c1
    have c4 := hR.c4
    have fz := hR.fz
    have B1 := (below_drewN w n1).mono (Nat.le_of_lt hN)
    generalize w.drewN n1 = W1 at hR c1 c4 fz B1 ⊢
    have hR2 := (hR.s4 (aftS 10 r)).s1 ⟨#[]⟩
    have B2 := (B1.setCell (p := ⟨N, 4, none⟩) (Nat.le_refl N) (.string (aftS 10 r))).setCell (p := ⟨N, 1, none⟩) (Nat.le_refl N) (.string ⟨#[]⟩)
    go_wp2_with fail
    refine (trimSuffix_any _ _ (by rw [app_size]; omega)).mono ?_
    rintro e w2 ⟨rfl, rfl⟩
    generalize World.setCell _ _ _ = W2 at hR2 B2 ⊢
    go_wp2_with fail
    refine (hD hR2 _ ?_ rfl hz0 hz1).mono ?_
    · rw [bs_size]
      have := bareL_le (k.line.data.toList ++ (befS 10 r).data.toList)
      rw [List.length_append, size_list, size_list] at this
      omega
    rw [bs_list]
    rintro e w3 ⟨rfl, hR3, hb3⟩
    go_wp2_with fail
    go_ret
    exact ⟨by rw [HR.out]; rfl, fun _ => by rw [HR.out]; exact hR3, B2.trans hb3⟩

end Go.Proofs.Ytalhfifippfnkaa
