/- The walk of what makes a field of a line. -/
import Derived.Test.YteeipaijdoneeaaCa
import Derived.Test.YteeipaijdoneeaaWl
namespace Go.Proofs.Yteeipaijdoneeaa
set_option linter.unusedVariables false
set_option linter.unusedSimpArgs false
open Go.RowKit

theorem right_one (f : Fd) : rightF [f] = mayF f := by simp [rightF]
theorem row_one {w : World} {B : Nat} {f : Fd} (h0 : w.cell? ⟨B, 0, none⟩ = some (.string f.1)) (h1 : w.cell? ⟨B, 1, none⟩ = some (.string f.2)) : Row w (.slice (some ⟨B, 0, none⟩) 1 1) [f] := by
  refine ⟨some ⟨B, 0, none⟩, 1, rfl, Nat.le_refl _, fun k hk => ⟨B, 0, rfl, block_lt_of_cell (a := ⟨B, 0, none⟩) h0, ?_, ?_⟩⟩
  · obtain rfl : k = 0 := by simp at hk; omega
    simpa using h0
  · obtain rfl : k = 0 := by simp at hk; omega
    simpa using h1

def okS (s : ByteArray) : Bool := hasB 58 s && mayF (befS 58 s, trimS (aftS 58 s))
theorem fd_eq (s : ByteArray) : (befS 58 s, trimS (aftS 58 s)) = fdL s.data.toList := by
  unfold fdL befS trimS
  rw [aftS_list]
theorem ok_eq (s : ByteArray) : okS s = okL s.data.toList := by
  unfold okS okL hasB
  rw [fd_eq]

theorem two_set {w : World} {R : Nat} {x y u v : Value} (h0 : w.cell? ⟨R, 0, none⟩ = some x) (h1 : w.cell? ⟨R, 1, none⟩ = some y) :
    ((w.setCell ⟨R, 0, none⟩ u).setCell ⟨R, 1, none⟩ v).cell? ⟨R, 0, none⟩ = some u ∧ ((w.setCell ⟨R, 0, none⟩ u).setCell ⟨R, 1, none⟩ v).cell? ⟨R, 1, none⟩ = some v := by
  refine ⟨?_, ?_⟩
  · rw [World.cell?_setCell_other _ _ _ _ (fun e => by cases e)]; exact World.cell?_setCell_same _ _ _ h0
  · exact World.cell?_setCell_same _ _ _ (by rw [World.cell?_setCell_other _ _ _ _ (fun e => by cases e)]; exact h1)
theorem keepK {B M : Nat} {W0 W w' : World} {x y : Value} (hM : B < M) (hMW : M < W0.heap.size) (hb : Below W.heap.size W w')
    (h : Below B W0 W ∧ W.cell? ⟨M, 0, none⟩ = some x ∧ W.cell? ⟨M, 1, none⟩ = some y) :
    Below B W0 w' ∧ w'.cell? ⟨M, 0, none⟩ = some x ∧ w'.cell? ⟨M, 1, none⟩ = some y := by
  obtain ⟨h1, h2, h3⟩ := h
  have hs := h1.size
  exact ⟨h1.trans (hb.mono (by omega)), ((stays hb).1 _ _ (by omega)).trans h2, ((stays hb).1 _ _ (by omega)).trans h3⟩
theorem keep3 {B M o : Nat} {W0 W : World} {x y u : Value} (hM : B < M)
    (h : Below B W0 W ∧ W.cell? ⟨M, 0, none⟩ = some x ∧ W.cell? ⟨M, 1, none⟩ = some y) :
    Below B W0 (W.setCell ⟨B, o, none⟩ u) ∧ (W.setCell ⟨B, o, none⟩ u).cell? ⟨M, 0, none⟩ = some x ∧ (W.setCell ⟨B, o, none⟩ u).cell? ⟨M, 1, none⟩ = some y := by
  obtain ⟨h1, h2, h3⟩ := h
  refine ⟨h1.setCell (Nat.le_refl _) _, ?_, ?_⟩
  · rw [World.cell?_setCell_other _ _ _ _ (fun e => by cases e; omega)]; exact h2
  · rw [World.cell?_setCell_other _ _ _ _ (fun e => by cases e; omega)]; exact h3

set_option maxRecDepth 100000 in
set_option maxHeartbeats 4000000 in
theorem fieldOf_any (s : ByteArray) (w : World) (hs : s.size ≤ 10000) :
    Calls Try.prog 20 #[.string s] w fun e w' => e = .returned (.tuple #[fv (fdL s.data.toList), .bool (okL s.data.toList)]) ∧ Below w.heap.size w w' := by
  have HE := hide (fd_eq s)
  have HO := hide (ok_eq s)
  have hbs := befS_size 58 s
  have has := aftS_size 58 s
  have hts : (trimS (aftS 58 s)).size ≤ 10000 := by
    rw [← size_list]; unfold trimS; simp only [List.toList_toArray]
    have := trimL_le (aftS 58 s).data.toList
    rw [size_list] at this; omega
  have HOK : Hid (okS s = (hasB 58 s && mayF (befS 58 s, trimS (aftS 58 s)))) := rfl
  have HT := hide (trim_any (aftS 58 s))
  rw [← HE.out, ← HO.out]
  clear HE HO
  unfold fv
  generalize okS s = ok at HOK
  generalize trimS (aftS 58 s) = v at hts HOK HT
  generalize hn : befS 58 s = nm at hbs HOK
  go_enter Try.func20, Try.ntmps20
  go_wp2_with fail
  refine (cut_any s 58 _ (by omega)).mono ?_
  rintro e w1 ⟨rfl, n1, rfl⟩
  rw [hn]
  go_wp2_with fail
  refine (HT.out _ (by omega)).mono ?_
  rintro e w2 ⟨rfl, hb2⟩
  have hbA : Below w.heap.size w w2 := (below_drewN (one_alloc w #[.string ⟨#[]⟩, .string ⟨#[]⟩] 38) n1).trans (hb2.mono (by simp))
  have hlt : w.heap.size < w2.heap.size := by have := hb2.size; simp at this; omega
  have hw : Below w.heap.size w (w2.alloc (.cells #[.string nm, .string v] 38)) := hbA.alloc (by omega) _
  have r0 : (w2.alloc (.cells #[.string nm, .string v] 38)).cell? ⟨w.heap.size, 0, none⟩ = some (.string ⟨#[]⟩) := by
    rw [(stays (one_alloc _ _ _)).1 _ _ hlt, (stays hb2).1 _ _ (by simp)]; show (w.alloc _).cell? _ = _; rw [World.cell?_alloc_new]; rfl
  have r1 : (w2.alloc (.cells #[.string nm, .string v] 38)).cell? ⟨w.heap.size, 1, none⟩ = some (.string ⟨#[]⟩) := by
    rw [(stays (one_alloc _ _ _)).1 _ _ hlt, (stays hb2).1 _ _ (by simp)]; show (w.alloc _).cell? _ = _; rw [World.cell?_alloc_new]; rfl
  have rf : ∀ o, (w2.alloc (.cells #[.string nm, .string v] 38)).frozen? ⟨w.heap.size, o, none⟩ = false := by
    intro o; rw [(stays (one_alloc _ _ _)).2 _ _ hlt, (stays hb2).2 _ _ (by simp)]; show (w.alloc _).frozen? _ = _; go_simp
  have m0 : (w2.alloc (.cells #[.string nm, .string v] 38)).cell? ⟨w2.heap.size, 0, none⟩ = some (.string nm) := by go_simp
  have m1 : (w2.alloc (.cells #[.string nm, .string v] 38)).cell? ⟨w2.heap.size, 1, none⟩ = some (.string v) := by go_simp
  have hsz : w2.heap.size + 1 = (w2.alloc (.cells #[.string nm, .string v] 38)).heap.size := by simp
  go_wp2_with fail
  generalize (w2.alloc (.cells #[.string nm, .string v] 38)) = w3 at hw r0 r1 rf m0 m1 hsz ⊢
  generalize w2.heap.size = M at hlt m0 m1 hsz ⊢
  have hM : M < w3.heap.size := by omega
  have hR : w.heap.size < w3.heap.size := by omega
  cases hh : hasB 58 s
  · rw [hh] at HOK
    go_region
    have z0 : ((w3.setCell ⟨w.heap.size, 0, none⟩ (.string nm)).setCell ⟨w.heap.size, 1, none⟩ (.string v)).drew.cell? ⟨w.heap.size, 0, none⟩ = some (.string nm) := (two_set r0 r1).1
    have z1 : ((w3.setCell ⟨w.heap.size, 0, none⟩ (.string nm)).setCell ⟨w.heap.size, 1, none⟩ (.string v)).drew.cell? ⟨w.heap.size, 1, none⟩ = some (.string v) := (two_set r0 r1).2
    have hBe : Below w.heap.size w ((w3.setCell ⟨w.heap.size, 0, none⟩ (.string nm)).setCell ⟨w.heap.size, 1, none⟩ (.string v)).drew := ((hw.setCell (Nat.le_refl _) _).setCell (Nat.le_refl _) _).drew
    generalize ((w3.setCell ⟨w.heap.size, 0, none⟩ (.string nm)).setCell ⟨w.heap.size, 1, none⟩ (.string v)).drew = w5 at z0 z1 hBe ⊢
    have hok : ok = false := HOK.out
    go_wp2_with fail
    refine bodyPost_ret (v := .tuple #[.agg #[.string nm, .string v], .bool ok]) (by simp [results, Try.results20, go_sem, z0, z1, hok]) rfl ⟨rfl, hBe⟩
  · rw [hh] at HOK
    have a0 : ((w3.alloc (.cells #[.string nm, .string v] 38)).drew).cell? ⟨M, 0, none⟩ = some (.string nm) := ((stays (one_alloc w3 #[.string nm, .string v] 38)).1 _ _ hM).trans m0
    have a1 : ((w3.alloc (.cells #[.string nm, .string v] 38)).drew).cell? ⟨M, 1, none⟩ = some (.string v) := ((stays (one_alloc w3 #[.string nm, .string v] 38)).1 _ _ hM).trans m1
    have hBa : Below w.heap.size w3 (w3.alloc (.cells #[.string nm, .string v] 38)).drew := ((Below.refl _ _).alloc (by omega) _).drew
    have hrow : Row ((w3.alloc (.cells #[.string nm, .string v] 38)).drew) (.slice (some ⟨w3.heap.size, 0, none⟩) 1 1) [(nm, v)] := row_one (show (w3.alloc _).cell? _ = _ by rw [World.cell?_alloc_new]; rfl) (show (w3.alloc _).cell? _ = _ by rw [World.cell?_alloc_new]; rfl)
    have e0 := ((stays (one_alloc w3 #[.string nm, .string v] 38)).1 w.heap.size 0 hR).trans r0
    have e1 := ((stays (one_alloc w3 #[.string nm, .string v] 38)).1 w.heap.size 1 hR).trans r1
    have ef := fun o => ((stays (one_alloc w3 #[.string nm, .string v] 38)).2 w.heap.size o hR).trans (rf o)
    have hsh : Sh [(nm, v)] := by
      intro f hf
      obtain rfl : f = (nm, v) := by simpa using hf
      exact ⟨by show nm.size ≤ 10000; omega, hts⟩
    have hRa : w.heap.size < (w3.alloc (.cells #[.string nm, .string v] 38)).drew.heap.size := by show _ < (w3.alloc _).heap.size; simp; omega
    have HRA := hide (right_any [(nm, v)] (.slice (some ⟨w3.heap.size, 0, none⟩) 1 1) ((w3.alloc (.cells #[.string nm, .string v] 38)).drew) hrow (by simp) hsh)
    rw [right_one] at HRA
    have hok : ok = mayF (nm, v) := by rw [HOK.out, Bool.true_and]
    rw [← hok] at HRA
    clear HOK hrow hok
    go_region_held3 (fun w' => Below w.heap.size w3 w' ∧ w'.cell? ⟨M, 0, none⟩ = some (.string nm) ∧ w'.cell? ⟨M, 1, none⟩ = some (.string v))
      (first | exact ⟨(Below.refl _ _).drew, m0, m1⟩ | assumption | exact ⟨hBa, a0, a1⟩ | exact keepK hlt hM (by assumption) (by assumption) | exact keep3 hlt (keep3 hlt (by assumption)))
      (first | (go_at_call 25; refine HRA.out.mono ?_; rintro e w4 ⟨rfl, hb4⟩; have z0 := ((stays hb4).1 _ _ hRa).trans e0; have z1 := ((stays hb4).1 _ _ hRa).trans e1; have zf := fun o => ((stays hb4).2 _ o hRa).trans (ef o)))
    rename_i hX
    have y := two_set (u := .string nm) (v := .string v) z0 z1
    go_wp2_with fail
    refine bodyPost_ret (v := .tuple #[.agg #[.string nm, .string v], .bool ok]) (by simp [results, Try.results20, go_sem, y.1, y.2]) rfl ⟨rfl, ?_⟩
    exact hw.trans hX.1

end Go.Proofs.Yteeipaijdoneeaa
