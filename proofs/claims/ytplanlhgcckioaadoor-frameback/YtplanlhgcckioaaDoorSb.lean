/- First lines in memory; the walks of which may be. -/
import Derived.Test.YtplanlhgcckioaaDoorSa
namespace Go.Proofs.YtplanlhgcckioaaDoor
set_option linter.unusedVariables false
set_option linter.unusedSimpArgs false
set_option maxRecDepth 100000
open Go.RowKit

/-- A first line as a value. -/
def St.v (s : St) : Value := .agg #[.string s.m, .string s.t, .int .i64 s.c, .string s.r, .int .i64 s.n]
def St.cs (s : St) : List Value := [.string s.m, .string s.t, .int .i64 s.c, .string s.r, .int .i64 s.n]

/-- A first line lies in block N. -/
structure Five (w : World) (N : Nat) (s : St) : Prop where
  c0 : w.cell? ⟨N, 0, none⟩ = some (.string s.m)
  c1 : w.cell? ⟨N, 1, none⟩ = some (.string s.t)
  c2 : w.cell? ⟨N, 2, none⟩ = some (.int .i64 s.c)
  c3 : w.cell? ⟨N, 3, none⟩ = some (.string s.r)
  c4 : w.cell? ⟨N, 4, none⟩ = some (.int .i64 s.n)
  lt : N < w.heap.size
  fz : ∀ o, w.frozen? ⟨N, o, none⟩ = false

theorem Five.below {w w' : World} {N : Nat} {s : St} (h : Five w N s) (hb : Below w.heap.size w w') : Five w' N s := by
  have hc : ∀ k, w'.cell? ⟨N, k, none⟩ = w.cell? ⟨N, k, none⟩ := fun k => hb.cell (p := ⟨N, k, none⟩) h.lt
  exact ⟨(hc 0).trans h.c0, (hc 1).trans h.c1, (hc 2).trans h.c2, (hc 3).trans h.c3, (hc 4).trans h.c4, Nat.lt_of_lt_of_le h.lt hb.size, fun o => (hb.frozen (p := ⟨N, o, none⟩) h.lt).trans (h.fz o)⟩
theorem Five.new (w : World) (s : St) : Five (w.alloc (.cells s.cs.toArray 33)) w.heap.size s :=
  ⟨by rw [World.cell?_alloc_new]; rfl, by rw [World.cell?_alloc_new]; rfl, by rw [World.cell?_alloc_new]; rfl, by rw [World.cell?_alloc_new]; rfl, by rw [World.cell?_alloc_new]; rfl, by simp, fun o => World.frozen?_alloc_new _ _ _ _⟩
theorem Five.alloc {w : World} {N : Nat} {s : St} (h : Five w N s) (o : Obj) : Five (w.alloc o) N s := h.below ((Below.refl _ _).alloc (Nat.le_refl _) o)
theorem Five.drew {w : World} {N : Nat} {s : St} (h : Five w N s) : Five w.drew N s := ⟨h.c0, h.c1, h.c2, h.c3, h.c4, h.lt, h.fz⟩
theorem Five.drewN {w : World} {N : Nat} {s : St} (h : Five w N s) (n : Nat) : Five (w.drewN n) N s := ⟨h.c0, h.c1, h.c2, h.c3, h.c4, h.lt, h.fz⟩
theorem Five.other {w : World} {N : Nat} {s : St} (h : Five w N s) (M k : Nat) (v : Value) (hM : M ≠ N) : Five (w.setCell ⟨M, k, none⟩ v) N s := by
  have hc : ∀ j, (w.setCell ⟨M, k, none⟩ v).cell? ⟨N, j, none⟩ = w.cell? ⟨N, j, none⟩ := fun j => World.cell?_setCell_other _ _ _ _ (by simp [Ne.symm hM])
  exact ⟨(hc 0).trans h.c0, (hc 1).trans h.c1, (hc 2).trans h.c2, (hc 3).trans h.c3, (hc 4).trans h.c4, by simpa using h.lt, fun o => by rw [World.frozen?_setCell]; exact h.fz o⟩
theorem Five.s0 {w : World} {N : Nat} {s : St} (h : Five w N s) (x : ByteArray) : Five (w.setCell ⟨N, 0, none⟩ (.string x)) N ⟨x, s.t, s.c, s.r, s.n⟩ :=
  ⟨World.cell?_setCell_same _ _ _ h.c0, (World.cell?_setCell_other _ _ _ _ (by simp)).trans h.c1, (World.cell?_setCell_other _ _ _ _ (by simp)).trans h.c2, (World.cell?_setCell_other _ _ _ _ (by simp)).trans h.c3, (World.cell?_setCell_other _ _ _ _ (by simp)).trans h.c4, by simpa using h.lt, fun o => by rw [World.frozen?_setCell]; exact h.fz o⟩
theorem Five.s1 {w : World} {N : Nat} {s : St} (h : Five w N s) (x : ByteArray) : Five (w.setCell ⟨N, 1, none⟩ (.string x)) N ⟨s.m, x, s.c, s.r, s.n⟩ :=
  ⟨(World.cell?_setCell_other _ _ _ _ (by simp)).trans h.c0, World.cell?_setCell_same _ _ _ h.c1, (World.cell?_setCell_other _ _ _ _ (by simp)).trans h.c2, (World.cell?_setCell_other _ _ _ _ (by simp)).trans h.c3, (World.cell?_setCell_other _ _ _ _ (by simp)).trans h.c4, by simpa using h.lt, fun o => by rw [World.frozen?_setCell]; exact h.fz o⟩
theorem Five.s2 {w : World} {N : Nat} {s : St} (h : Five w N s) (x : Int) : Five (w.setCell ⟨N, 2, none⟩ (.int .i64 x)) N ⟨s.m, s.t, x, s.r, s.n⟩ :=
  ⟨(World.cell?_setCell_other _ _ _ _ (by simp)).trans h.c0, (World.cell?_setCell_other _ _ _ _ (by simp)).trans h.c1, World.cell?_setCell_same _ _ _ h.c2, (World.cell?_setCell_other _ _ _ _ (by simp)).trans h.c3, (World.cell?_setCell_other _ _ _ _ (by simp)).trans h.c4, by simpa using h.lt, fun o => by rw [World.frozen?_setCell]; exact h.fz o⟩
theorem Five.s3 {w : World} {N : Nat} {s : St} (h : Five w N s) (x : ByteArray) : Five (w.setCell ⟨N, 3, none⟩ (.string x)) N ⟨s.m, s.t, s.c, x, s.n⟩ :=
  ⟨(World.cell?_setCell_other _ _ _ _ (by simp)).trans h.c0, (World.cell?_setCell_other _ _ _ _ (by simp)).trans h.c1, (World.cell?_setCell_other _ _ _ _ (by simp)).trans h.c2, World.cell?_setCell_same _ _ _ h.c3, (World.cell?_setCell_other _ _ _ _ (by simp)).trans h.c4, by simpa using h.lt, fun o => by rw [World.frozen?_setCell]; exact h.fz o⟩
theorem Five.s4 {w : World} {N : Nat} {s : St} (h : Five w N s) (x : Int) : Five (w.setCell ⟨N, 4, none⟩ (.int .i64 x)) N ⟨s.m, s.t, s.c, s.r, x⟩ :=
  ⟨(World.cell?_setCell_other _ _ _ _ (by simp)).trans h.c0, (World.cell?_setCell_other _ _ _ _ (by simp)).trans h.c1, (World.cell?_setCell_other _ _ _ _ (by simp)).trans h.c2, (World.cell?_setCell_other _ _ _ _ (by simp)).trans h.c3, World.cell?_setCell_same _ _ _ h.c4, by simpa using h.lt, fun o => by rw [World.frozen?_setCell]; exact h.fz o⟩

/-- All five at once. -/
def put5 (w : World) (N : Nat) (s : St) : World := ((((w.setCell ⟨N, 0, none⟩ (.string s.m)).setCell ⟨N, 1, none⟩ (.string s.t)).setCell ⟨N, 2, none⟩ (.int .i64 s.c)).setCell ⟨N, 3, none⟩ (.string s.r)).setCell ⟨N, 4, none⟩ (.int .i64 s.n)
theorem put5_five {w : World} {N : Nat} {s : St} (h : Five w N s) (x : St) : Five (put5 w N x) N x := ((((h.s0 x.m).s1 x.t).s2 x.c).s3 x.r).s4 x.n
theorem put5_other {w : World} {N M : Nat} {s : St} (h : Five w N s) (x : St) (hM : M ≠ N) : Five (put5 w M x) N s := ((((h.other M _ _ hM).other M _ _ hM).other M _ _ hM).other M _ _ hM).other M _ _ hM
theorem put5_below {B : Nat} {w w' : World} (h : Below B w w') {N : Nat} (hN : B ≤ N) (x : St) : Below B w (put5 w' N x) := ((((h.setCell hN _).setCell hN _).setCell hN _).setCell hN _).setCell hN _

theorem five_zero (w : World) : Five (w.alloc (.cells #[.string ⟨#[]⟩, .string ⟨#[]⟩, .int .i64 0, .string ⟨#[]⟩, .int .i64 0] 33)) w.heap.size St.no := Five.new w St.no
theorem no_v : St.no.v = .agg #[.string ⟨#[]⟩, .string ⟨#[]⟩, .int .i64 0, .string ⟨#[]⟩, .int .i64 0] := rfl
theorem ret_se {a b : St} {x y : Int} (h : a = b) (g : x = y) : Ending.returned (.tuple #[a.v, .int .i64 x]) = .returned (.tuple #[b.v, .int .i64 y]) := by rw [h, g]

structure Short (s : St) : Prop where
  m : s.m.size ≤ 10000
  t : s.t.size ≤ 10000
  r : s.r.size ≤ 10000

theorem req_is (s : St) : reqB s = (decide (s.c = 0) && decide (s.r.data.toList = []) && decide (s.m.size ≤ 20) && tokB s.m && tgtB s.t) := rfl
theorem sta_is (s : St) : staB s = (decide (100 ≤ s.c) && decide (s.c ≤ 599) && decide (s.m.data.toList = []) && decide (s.t.data.toList = []) && rsnB s.r) := rfl

set_option maxRecDepth 100000 in
set_option maxHeartbeats 1000000 in
theorem rightRequest_any (s : St) (w : World) (hs : Short s) :
    Calls Tryd.prog 56 #[s.v] w fun e w' => e = .returned (.bool (reqB s)) ∧ Below w.heap.size w w' := by
  have hnew := Five.new w s
  have hbn : Below w.heap.size w (w.alloc (.cells s.cs.toArray 33)) := (Below.refl _ _).alloc (Nat.le_refl _) _
  unfold St.cs at hnew hbn
  have h20 := hs.m
  have h21 := hs.t
  by_cases h1 : s.c = 0
  · by_cases h2 : s.r.data.toList = []
    · have he := empty_of h2
      by_cases h3 : s.m.size ≤ 20
      · have hd3 : decide ((s.m.size : Int) ≤ 20) = true := decide_eq_true (by omega)
        cases h4 : tokB s.m
        · have HR : Hid (reqB s = false) := by unfold Hid; rw [req_is, h4]; simp
          have H4 := hide h4
          unfold St.v
          rw [h1] at hnew hbn ⊢
          clear h1 h2 h4
          go_enter Tryd.func56, Tryd.ntmps56
          go_wp2_with fail
          generalize w.alloc _ = W1 at hnew hbn ⊢
          refine (token_any s.m _ (by omega)).mono ?_
          rintro e w1 ⟨rfl, hb1⟩
          rw [H4.out]
          go_wp2_with fail
          go_ret
          exact ⟨by rw [HR.out]; rfl, hbn.trans (hb1.mono hbn.size)⟩
        · have HR : Hid (reqB s = tgtB s.t) := by unfold Hid; rw [req_is, h4, decide_eq_true h1, decide_eq_true h2, decide_eq_true h3]; rfl
          have H4 := hide h4
          unfold St.v
          rw [h1] at hnew hbn ⊢
          clear h1 h2 h4
          go_enter Tryd.func56, Tryd.ntmps56
          go_wp2_with fail
          generalize w.alloc _ = W1 at hnew hbn ⊢
          refine (token_any s.m _ (by omega)).mono ?_
          rintro e w1 ⟨rfl, hb1⟩
          rw [H4.out]
          have hX := hnew.below hb1
          have c1 := hX.c1
          go_wp2_with fail
          refine (rightTarget_any s.t _ (by omega)).mono ?_
          rintro e w2 ⟨rfl, hw2⟩
          subst hw2
          go_wp2_with fail
          go_ret
          exact ⟨by rw [HR.out]; rfl, hbn.trans (hb1.mono hbn.size)⟩
      · have hd3 : decide ((s.m.size : Int) ≤ 20) = false := decide_eq_false (by omega)
        have HR : Hid (reqB s = false) := by unfold Hid; rw [req_is, decide_eq_false h3]; simp
        unfold St.v
        rw [h1] at hnew hbn ⊢
        clear h1 h2
        go_enter Tryd.func56, Tryd.ntmps56
        go_wp2_with fail
        go_ret
        exact ⟨by rw [HR.out]; rfl, hbn⟩
    · have he := empty_not h2
      have HR : Hid (reqB s = false) := by unfold Hid; rw [req_is, decide_eq_false h2]; simp
      unfold St.v
      rw [h1] at hnew hbn ⊢
      clear h1 h2
      go_enter Tryd.func56, Tryd.ntmps56
      go_wp2_with fail
      go_ret
      exact ⟨by rw [HR.out]; rfl, hbn⟩
  · have hd1 : (s.c == 0) = false := by simpa using h1
    have HR : Hid (reqB s = false) := by unfold Hid; rw [req_is, decide_eq_false h1]; simp
    unfold St.v
    clear h1
    go_enter Tryd.func56, Tryd.ntmps56
    go_wp2_with fail
    go_ret
    exact ⟨by rw [HR.out]; rfl, hbn⟩

set_option maxRecDepth 100000 in
set_option maxHeartbeats 1000000 in
theorem rightStatus_any (s : St) (w : World) (hs : Short s) :
    Calls Tryd.prog 57 #[s.v] w fun e w' => e = .returned (.bool (staB s)) ∧ Below w.heap.size w w' := by
  have hnew := Five.new w s
  have hbn : Below w.heap.size w (w.alloc (.cells s.cs.toArray 33)) := (Below.refl _ _).alloc (Nat.le_refl _) _
  unfold St.cs at hnew hbn
  have h20 := hs.r
  by_cases h1 : 100 ≤ s.c
  · have hd1 : decide (100 ≤ s.c) = true := decide_eq_true h1
    by_cases h2 : s.c ≤ 599
    · have hd2 : decide (s.c ≤ 599) = true := decide_eq_true h2
      by_cases h3 : s.m.data.toList = []
      · have he3 := empty_of h3
        by_cases h4 : s.t.data.toList = []
        · have he4 := empty_of h4
          have HR : Hid (staB s = rsnB s.r) := by unfold Hid; rw [sta_is, decide_eq_true h1, decide_eq_true h2, decide_eq_true h3, decide_eq_true h4]; rfl
          unfold St.v
          clear h3 h4
          go_enter Tryd.func57, Tryd.ntmps57
          go_wp2_with fail
          generalize w.alloc _ = W1 at hnew hbn ⊢
          refine (rightReason_any s.r _ (by omega)).mono ?_
          rintro e w1 ⟨rfl, hb1⟩
          go_wp2_with fail
          go_ret
          exact ⟨by rw [HR.out]; rfl, hbn.trans (hb1.mono hbn.size)⟩
        · have he4 := empty_not h4
          have HR : Hid (staB s = false) := by unfold Hid; rw [sta_is, decide_eq_false h4]; simp
          unfold St.v
          clear h3 h4
          go_enter Tryd.func57, Tryd.ntmps57
          go_wp2_with fail
          go_ret
          exact ⟨by rw [HR.out]; rfl, hbn⟩
      · have he3 := empty_not h3
        have HR : Hid (staB s = false) := by unfold Hid; rw [sta_is, decide_eq_false h3]; simp
        unfold St.v
        clear h3
        go_enter Tryd.func57, Tryd.ntmps57
        go_wp2_with fail
        go_ret
        exact ⟨by rw [HR.out]; rfl, hbn⟩
    · have hd2 : decide (s.c ≤ 599) = false := decide_eq_false h2
      have HR : Hid (staB s = false) := by unfold Hid; rw [sta_is, decide_eq_false h2]; simp
      unfold St.v
      go_enter Tryd.func57, Tryd.ntmps57
      go_wp2_with fail
      go_ret
      exact ⟨by rw [HR.out]; rfl, hbn⟩
  · have hd1 : decide (100 ≤ s.c) = false := decide_eq_false h1
    have HR : Hid (staB s = false) := by unfold Hid; rw [sta_is, decide_eq_false h1]; simp
    unfold St.v
    go_enter Tryd.func57, Tryd.ntmps57
    go_wp2_with fail
    go_ret
    exact ⟨by rw [HR.out]; rfl, hbn⟩

set_option maxRecDepth 100000 in
set_option maxHeartbeats 1000000 in
theorem sright_any (s : St) (w : World) (hs : Short s) :
    Calls Tryd.prog 44 #[s.v] w fun e w' => e = .returned (.bool (rtB s)) ∧ Below w.heap.size w w' := by
  have hnew := Five.new w s
  have hbn : Below w.heap.size w (w.alloc (.cells s.cs.toArray 33)) := (Below.refl _ _).alloc (Nat.le_refl _) _
  unfold St.cs at hnew hbn
  by_cases h0 : s.n = 0 ∨ s.n = 1
  · cases h1 : reqB s
    · have HR : Hid (rtB s = staB s) := by unfold Hid rtB; rw [h1]; simp; intro _; exact h0
      have H1 := hide h1
      clear h1
      obtain ⟨m, t, c, r, n⟩ := s
      rcases (show n = 0 ∨ n = 1 from h0) with rfl | rfl
      all_goals
        clear h0
        unfold St.v
        dsimp only at hnew hbn
        go_enter Tryd.func44, Tryd.ntmps44
        go_wp2_with fail
        generalize w.alloc _ = W1 at hnew hbn ⊢
        refine (rightRequest_any _ _ hs).mono ?_
        rintro e w1 ⟨rfl, hb1⟩
        rw [H1.out]
        have hX := hnew.below hb1
        obtain ⟨c0, c1, c2, c3, c4, -, -⟩ := hX
        go_wp2_with fail
        refine (rightStatus_any _ _ hs).mono ?_
        rintro e w2 ⟨rfl, hb2⟩
        go_wp2_with fail
        go_ret
        have B1 := hbn.trans (hb1.mono hbn.size)
        exact ⟨by rw [HR.out]; rfl, B1.trans (hb2.mono B1.size)⟩
    · have HR : Hid (rtB s = true) := by unfold Hid rtB; rw [h1]; simp; exact h0
      have H1 := hide h1
      clear h1
      obtain ⟨m, t, c, r, n⟩ := s
      rcases (show n = 0 ∨ n = 1 from h0) with rfl | rfl
      all_goals
        clear h0
        unfold St.v
        dsimp only at hnew hbn
        go_enter Tryd.func44, Tryd.ntmps44
        go_wp2_with fail
        generalize w.alloc _ = W1 at hnew hbn ⊢
        refine (rightRequest_any _ _ hs).mono ?_
        rintro e w1 ⟨rfl, hb1⟩
        rw [H1.out]
        go_wp2_with fail
        go_ret
        exact ⟨by rw [HR.out]; rfl, hbn.trans (hb1.mono hbn.size)⟩
  · have hd0 : (s.n == 0) = false := by simpa using fun e => h0 (Or.inl e)
    have hd1 : (s.n == 1) = false := by simpa using fun e => h0 (Or.inr e)
    have HR : Hid (rtB s = false) := by unfold Hid rtB; rw [decide_eq_false (fun e => h0 (Or.inl e)), decide_eq_false (fun e => h0 (Or.inr e))]; rfl
    unfold St.v
    clear h0
    go_enter Tryd.func44, Tryd.ntmps44
    go_wp2_with fail
    go_ret
    exact ⟨by rw [HR.out]; rfl, hbn⟩

end Go.Proofs.YtplanlhgcckioaaDoor
