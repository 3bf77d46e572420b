/- The walks of what reads a query's part and a cookie's, and of Query and Cookies. -/
import Derived.Test.YtgnpeggffeoenaaDoorRc
import Derived.Test.YtgnpeggffeoenaaDoorWi
namespace Go.Proofs.YtgnpeggffeoenaaDoor
set_option linter.unusedVariables false
set_option linter.unusedSimpArgs false
open Go.RowKit

theorem bef_bs (c : UInt8) (x : List UInt8) : befS c (bs x) = bs (bfL c x) := by unfold befS bfL; rw [bs_list]; rfl
theorem aft_bs (c : UInt8) (x : List UInt8) : aftS c (bs x) = bs (afL c x) := by unfold aftS afL; rw [bs_list]; rfl
theorem has_bs (c : UInt8) (x : List UInt8) : hasB c (bs x) = hvL c x := by unfold hasB hvL; rw [bs_list]
theorem trim_bs (x : List UInt8) : trimS (bs x) = bs (trimL x) := by unfold trimS; rw [bs_list]; rfl
theorem bs_empty (x : List UInt8) : (bs x).toList.isEmpty = x.isEmpty := by rw [bs_toList]

def toF (p : PB) : Fd := (bs p.1, bs p.2)
def rvQ (x : List UInt8) : Fd := toF (decL (bfL 61 x), decL (afL 61 x))
def roQ (x : List UInt8) : Bool := !x.isEmpty
def rvC (x : List UInt8) : Fd := toF (trimL (bfL 61 x), unqV (trimL (afL 61 x)))
def roC (x : List UInt8) : Bool := hvL 61 x && !(trimL (bfL 61 x)).isEmpty
theorem q_list : ∀ ps : List (List UInt8), (ps.filter roQ).map rvQ = (ps.filterMap qP).map toF
  | [] => rfl
  | p :: ps => by
    rw [List.filter_cons, List.filterMap_cons]
    cases p with
    | nil => exact q_list ps
    | cons c r =>
      rw [show roQ (c :: r) = true from rfl, if_pos rfl, show qP (c :: r) = some (decL (bfL 61 (c :: r)), decL (afL 61 (c :: r))) from by unfold qP; rw [if_neg (by simp)]]
      simp only [List.map_cons, q_list ps]; rfl
theorem c_list : ∀ ps : List (List UInt8), (ps.filter roC).map rvC = (ps.filterMap cP).map toF
  | [] => rfl
  | p :: ps => by
    rw [List.filter_cons, List.filterMap_cons]
    cases h : roC p with
    | false =>
      have : cP p = none := by
        unfold cP roC at *
        rw [if_neg]
        rintro ⟨h1, h2⟩
        rw [h1, Bool.true_and, Bool.not_eq_false', List.isEmpty_iff] at h
        exact h2 h
      rw [this]; exact c_list ps
    | true =>
      have : cP p = some (trimL (bfL 61 p), unqV (trimL (afL 61 p))) := by
        unfold cP roC at *
        rw [Bool.and_eq_true, Bool.not_eq_true', List.isEmpty_eq_false_iff] at h
        rw [if_pos h]
      rw [this, if_pos rfl]
      simp only [List.map_cons, c_list ps]; rfl

set_option maxHeartbeats 1000000 in
theorem query1_any (x : List UInt8) (w : World) (hx : x.length ≤ 10000) (hT : Tabs w) :
    Calls Tryd.prog 26 #[.string (bs x)] w fun e w' => e = .returned (.tuple #[fv (rvQ x), .bool (roQ x)]) ∧ Below w.heap.size w w' := by
  have hsz := bs_size x
  have hc := cut_any (bs x) 61 ((w.alloc (.cells #[.string ⟨#[]⟩, .string ⟨#[]⟩] 37))) (by omega)
  rw [bef_bs, aft_bs, has_bs] at hc
  have HQ : Hid (fv (rvQ x) = .agg #[.string ⟨(decL (bfL 61 x)).toArray⟩, .string ⟨(decL (afL 61 x)).toArray⟩]) := rfl
  have HO : Hid (roQ x = !(bs x).toList.isEmpty) := by unfold Hid roQ; rw [bs_empty]
  have h1 := bs_size (bfL 61 x)
  have h2 := bf_le 61 x
  have h3 := bs_size (afL 61 x)
  have h4 := af_le 61 x
  have hd1 := fun W => decoded_any (bs (bfL 61 x)) W (by omega)
  have hd2 := fun W => decoded_any (bs (afL 61 x)) W (by omega)
  rw [bs_list] at hd1 hd2
  have HD1 := hide hd1
  have HD2 := hide hd2
  have HT := hide hT
  clear hd1 hd2 h1 h2 h3 h4 hsz hT
  generalize bfL 61 x = f at *
  generalize afL 61 x = g at *
  generalize hvL 61 x = h at *
  generalize decL f = F at *
  generalize decL g = G at *
  go_enter Tryd.func26, Tryd.ntmps26
  go_wp2_with fail
  refine hc.mono ?_
  rintro e w1 ⟨rfl, n, rfl⟩
  have hb1 : Below w.heap.size w ((w.alloc (.cells #[.string ⟨#[]⟩, .string ⟨#[]⟩] 37)).drewN n) := below_drewN (one_alloc _ _ _) n
  have m0 : ((w.alloc (.cells #[.string ⟨#[]⟩, .string ⟨#[]⟩] 37)).drewN n).cell? ⟨w.heap.size, 0, none⟩ = some (.string ⟨#[]⟩) := by go_simp
  have m1 : ((w.alloc (.cells #[.string ⟨#[]⟩, .string ⟨#[]⟩] 37)).drewN n).cell? ⟨w.heap.size, 1, none⟩ = some (.string ⟨#[]⟩) := by go_simp
  have f0 : ((w.alloc (.cells #[.string ⟨#[]⟩, .string ⟨#[]⟩] 37)).drewN n).frozen? ⟨w.heap.size, 0, none⟩ = false := by go_simp
  have f1 : ((w.alloc (.cells #[.string ⟨#[]⟩, .string ⟨#[]⟩] 37)).drewN n).frozen? ⟨w.heap.size, 1, none⟩ = false := by go_simp
  have hlt : w.heap.size < ((w.alloc (.cells #[.string ⟨#[]⟩, .string ⟨#[]⟩] 37)).drewN n).heap.size := by simp
  generalize (w.alloc (.cells #[.string ⟨#[]⟩, .string ⟨#[]⟩] 37)).drewN n = W1 at hb1 m0 m1 f0 f1 hlt ⊢
  go_wp2_with fail
  refine (HD1.out W1 (HT.out.below hb1)).mono ?_
  rintro e W2 ⟨rfl, hb2⟩
  have hb12 := hb1.trans (hb2.mono hb1.size)
  go_wp2_with fail
  refine (HD2.out W2 (HT.out.below hb12)).mono ?_
  rintro e W3 ⟨rfl, hb3⟩
  have hb13 := hb12.trans (hb3.mono hb12.size)
  have hlt2 := hb2.size
  rw [← (stays hb2).1 _ _ hlt, ← (stays hb3).1 _ _ (by omega)] at m0 m1
  rw [← (stays hb2).2 _ _ hlt, ← (stays hb3).2 _ _ (by omega)] at f0 f1
  have hbF := (hb13.setCell (p := ⟨w.heap.size, 0, none⟩) (Nat.le_refl _) (.string ⟨F.toArray⟩)).setCell (p := ⟨w.heap.size, 1, none⟩) (Nat.le_refl _) (.string ⟨G.toArray⟩)
  have g0 : ((W3.setCell ⟨w.heap.size, 0, none⟩ (.string ⟨F.toArray⟩)).setCell ⟨w.heap.size, 1, none⟩ (.string ⟨G.toArray⟩)).cell? ⟨w.heap.size, 0, none⟩ = some (.string ⟨F.toArray⟩) := by go_simp
  have g1 : ((W3.setCell ⟨w.heap.size, 0, none⟩ (.string ⟨F.toArray⟩)).setCell ⟨w.heap.size, 1, none⟩ (.string ⟨G.toArray⟩)).cell? ⟨w.heap.size, 1, none⟩ = some (.string ⟨G.toArray⟩) := by go_simp
  go_wp2_with fail
  refine bodyPost_ret (v := .tuple #[.agg #[.string ⟨F.toArray⟩, .string ⟨G.toArray⟩], .bool (roQ x)]) (by simp [results, Tryd.results26, go_sem, g0, g1, HO.out]) rfl ⟨by rw [HQ.out], hbF⟩

theorem unq_of {v : List UInt8} (h : quoB (bs v) = true) : uS (bs v) = bs (unqV v) ∧ uE (bs v) = 0 := by
  have h' : quotedL v = true := by unfold quoB at h; rw [bs_list] at h; exact h
  unfold uS uE unqV unqL
  rw [h, if_pos rfl, if_pos rfl, h', if_pos rfl, bs_list]
  exact ⟨rfl, rfl⟩
theorem unq_not {v : List UInt8} (h : quoB (bs v) = false) : unqV v = v ∧ uE (bs v) = 11 := by
  have h' : quotedL v = false := by unfold quoB at h; rw [bs_list] at h; exact h
  unfold uE unqV unqL
  rw [h, h']
  exact ⟨rfl, rfl⟩

set_option maxHeartbeats 1000000 in
theorem without_any (v : List UInt8) (w : World) (hv : v.length ≤ 100000) :
    Calls Tryd.prog 31 #[.string (bs v)] w fun e w' => e = .returned (.string (bs (unqV v))) ∧ Below w.heap.size w w' := by
  have hc := unquote_any (bs v) w (by rw [bs_size]; omega)
  cases hq : quoB (bs v) with
  | true =>
    rw [(unq_of hq).1, (unq_of hq).2] at hc
    go_enter Tryd.func31, Tryd.ntmps31
    go_wp2_with fail
    refine hc.mono ?_
    rintro e w1 ⟨rfl, hb⟩
    go_wp2_with fail
    go_ret
    exact ⟨rfl, hb⟩
  | false =>
    rw [(unq_not hq).2] at hc
    rw [(unq_not hq).1]
    go_enter Tryd.func31, Tryd.ntmps31
    go_wp2_with fail
    refine hc.mono ?_
    rintro e w1 ⟨rfl, hb⟩
    go_wp2_with fail
    go_ret
    exact ⟨rfl, hb⟩

theorem unq_le (v : List UInt8) : (unqV v).length ≤ v.length := by
  unfold unqV unqL
  split
  · show (unescL (midL v)).length ≤ _
    have h1 : ∀ k (l : List UInt8), l.length ≤ k → (unescL l).length ≤ l.length := by
      intro k
      induction k with
      | zero => intro l hl; obtain rfl : l = [] := List.length_eq_zero_iff.1 (by omega); simp [unescL_nil]
      | succ k ih =>
        intro l hl
        match l with
        | [] => simp [unescL_nil]
        | [c] =>
          by_cases h : c = 92
          · subst h; rw [unescL.eq_def]; simp
          · rw [unescL_else _ h, unescL_nil]; simp
        | c :: d :: r =>
          simp at hl
          by_cases h : c = 92
          · subst h; rw [unescL_back]; have := ih r (by omega); simp; omega
          · rw [unescL_else _ h]; have := ih (d :: r) (by simp; omega); simp at this ⊢; omega
    have := h1 _ (midL v) (Nat.le_refl _)
    have h2 : (midL v).length ≤ v.length := by unfold midL; simp; omega
    omega
  · exact Nat.le_refl _

set_option maxHeartbeats 2000000 in
theorem cookies1_any (x : List UInt8) (w : World) (hx : x.length ≤ 10000) :
    Calls Tryd.prog 29 #[.string (bs x)] w fun e w' => e = .returned (.tuple #[fv (rvC x), .bool (roC x)]) ∧ Below w.heap.size w w' := by
  have hsz := bs_size x
  have hc := cut_any (bs x) 61 ((w.alloc (.cells #[.string ⟨#[]⟩, .string ⟨#[]⟩] 37))) (by omega)
  rw [bef_bs, aft_bs, has_bs] at hc
  have h1 := bs_size (bfL 61 x)
  have h2 := bf_le 61 x
  have h3 := bs_size (afL 61 x)
  have h4 := af_le 61 x
  have h5 := trimL_le (afL 61 x)
  have hd1 := fun W => trim_any (bs (bfL 61 x)) W (by omega)
  have hd2 := fun W => trim_any (bs (afL 61 x)) W (by omega)
  have hd3 := fun W => without_any (trimL (afL 61 x)) W (by omega)
  rw [trim_bs] at hd1 hd2
  have HQ : Hid (fv (rvC x) = .agg #[.string (bs (trimL (bfL 61 x))), .string (bs (unqV (trimL (afL 61 x))))]) := rfl
  have HO : Hid (roC x = (hvL 61 x && !(bs (trimL (bfL 61 x))).toList.isEmpty)) := by unfold Hid roC; rw [bs_empty]
  have HD1 := hide hd1
  have HD2 := hide hd2
  have HD3 := hide hd3
  clear hd1 hd2 hd3 h1 h2 h3 h4 h5 hsz
  generalize bs (unqV (trimL (afL 61 x))) = G at *
  generalize bs (trimL (afL 61 x)) = g' at *
  generalize bs (trimL (bfL 61 x)) = F at *
  generalize bs (bfL 61 x) = f at *
  generalize bs (afL 61 x) = g at *
  generalize hvL 61 x = h at *
  go_enter Tryd.func29, Tryd.ntmps29
  go_wp2_with fail
  refine hc.mono ?_
  rintro e w1 ⟨rfl, n, rfl⟩
  have hb1 : Below w.heap.size w ((w.alloc (.cells #[.string ⟨#[]⟩, .string ⟨#[]⟩] 37)).drewN n) := below_drewN (one_alloc _ _ _) n
  have m0 : ((w.alloc (.cells #[.string ⟨#[]⟩, .string ⟨#[]⟩] 37)).drewN n).cell? ⟨w.heap.size, 0, none⟩ = some (.string ⟨#[]⟩) := by go_simp
  have m1 : ((w.alloc (.cells #[.string ⟨#[]⟩, .string ⟨#[]⟩] 37)).drewN n).cell? ⟨w.heap.size, 1, none⟩ = some (.string ⟨#[]⟩) := by go_simp
  have f0 : ((w.alloc (.cells #[.string ⟨#[]⟩, .string ⟨#[]⟩] 37)).drewN n).frozen? ⟨w.heap.size, 0, none⟩ = false := by go_simp
  have f1 : ((w.alloc (.cells #[.string ⟨#[]⟩, .string ⟨#[]⟩] 37)).drewN n).frozen? ⟨w.heap.size, 1, none⟩ = false := by go_simp
  have hlt : w.heap.size < ((w.alloc (.cells #[.string ⟨#[]⟩, .string ⟨#[]⟩] 37)).drewN n).heap.size := by simp
  generalize (w.alloc (.cells #[.string ⟨#[]⟩, .string ⟨#[]⟩] 37)).drewN n = W1 at hb1 m0 m1 f0 f1 hlt ⊢
  go_wp2_with fail
  refine (HD1.out W1).mono ?_
  rintro e W2 ⟨rfl, hb2⟩
  have hb12 := hb1.trans (hb2.mono hb1.size)
  go_wp2_with fail
  refine (HD2.out W2).mono ?_
  rintro e W3 ⟨rfl, hb3⟩
  have hb13 := hb12.trans (hb3.mono hb12.size)
  go_wp2_with fail
  refine (HD3.out W3).mono ?_
  rintro e W4 ⟨rfl, hb4⟩
  have hb14 := hb13.trans (hb4.mono hb13.size)
  have hlt2 := hb2.size
  have hlt3 := hb3.size
  have hlt4 := hb4.size
  rw [← (stays hb2).1 _ _ hlt, ← (stays hb3).1 _ _ (by omega), ← (stays hb4).1 _ _ (by omega)] at m0 m1
  rw [← (stays hb2).2 _ _ hlt, ← (stays hb3).2 _ _ (by omega), ← (stays hb4).2 _ _ (by omega)] at f0 f1
  have hne : W4.heap.size ≠ w.heap.size := by omega
  have hlt5 : w.heap.size < W4.heap.size := by omega
  have m0' : (W4.alloc (.cells #[.string F, .string G] 37)).cell? ⟨w.heap.size, 0, none⟩ = some (.string ⟨#[]⟩) := ((stays (one_alloc W4 _ _)).1 _ _ hlt5).trans m0
  have m1' : (W4.alloc (.cells #[.string F, .string G] 37)).cell? ⟨w.heap.size, 1, none⟩ = some (.string ⟨#[]⟩) := ((stays (one_alloc W4 _ _)).1 _ _ hlt5).trans m1
  have f0' : (W4.alloc (.cells #[.string F, .string G] 37)).frozen? ⟨w.heap.size, 0, none⟩ = false := ((stays (one_alloc W4 _ _)).2 _ _ hlt5).trans f0
  have f1' : (W4.alloc (.cells #[.string F, .string G] 37)).frozen? ⟨w.heap.size, 1, none⟩ = false := ((stays (one_alloc W4 _ _)).2 _ _ hlt5).trans f1
  have p0 : (W4.alloc (.cells #[.string F, .string G] 37)).cell? ⟨W4.heap.size, 0, none⟩ = some (.string F) := by go_simp
  have p1 : (W4.alloc (.cells #[.string F, .string G] 37)).cell? ⟨W4.heap.size, 1, none⟩ = some (.string G) := by go_simp
  have hb15 := hb14.trans ((one_alloc W4 #[.string F, .string G] 37).mono hb14.size)
  clear m0 m1 f0 f1 hc HD1 HD2 HD3
  cases h
  · go_wp2_with fail
    generalize (W4.alloc (.cells #[.string F, .string G] 37)) = W5 at *
    generalize W4.heap.size = q at *
    go_region
    have hbF := ((hb15.setCell (p := ⟨w.heap.size, 0, none⟩) (Nat.le_refl _) (.string F)).setCell (p := ⟨w.heap.size, 1, none⟩) (Nat.le_refl _) (.string G)).drew
    have g0 : ((W5.setCell ⟨w.heap.size, 0, none⟩ (.string F)).setCell ⟨w.heap.size, 1, none⟩ (.string G)).drew.cell? ⟨w.heap.size, 0, none⟩ = some (.string F) := by go_simp
    have g1 : ((W5.setCell ⟨w.heap.size, 0, none⟩ (.string F)).setCell ⟨w.heap.size, 1, none⟩ (.string G)).drew.cell? ⟨w.heap.size, 1, none⟩ = some (.string G) := by go_simp
    generalize ((W5.setCell ⟨w.heap.size, 0, none⟩ (.string F)).setCell ⟨w.heap.size, 1, none⟩ (.string G)).drew = W6 at *
    go_wp2_with fail
    refine bodyPost_ret (v := .tuple #[.agg #[.string F, .string G], .bool (roC x)]) (by simp [results, Tryd.results29, go_sem, g0, g1, HO.out]) rfl ⟨by rw [HQ.out], hbF⟩
  · go_wp2_with fail
    generalize (W4.alloc (.cells #[.string F, .string G] 37)) = W5 at *
    generalize W4.heap.size = q at *
    go_region
    have hbF := ((hb15.setCell (p := ⟨w.heap.size, 0, none⟩) (Nat.le_refl _) (.string F)).setCell (p := ⟨w.heap.size, 1, none⟩) (Nat.le_refl _) (.string G)).drew
    have g0 : ((W5.setCell ⟨w.heap.size, 0, none⟩ (.string F)).setCell ⟨w.heap.size, 1, none⟩ (.string G)).drew.cell? ⟨w.heap.size, 0, none⟩ = some (.string F) := by go_simp
    have g1 : ((W5.setCell ⟨w.heap.size, 0, none⟩ (.string F)).setCell ⟨w.heap.size, 1, none⟩ (.string G)).drew.cell? ⟨w.heap.size, 1, none⟩ = some (.string G) := by go_simp
    generalize ((W5.setCell ⟨w.heap.size, 0, none⟩ (.string F)).setCell ⟨w.heap.size, 1, none⟩ (.string G)).drew = W6 at *
    go_wp2_with fail
    refine bodyPost_ret (v := .tuple #[.agg #[.string F, .string G], .bool (roC x)]) (by simp [results, Tryd.results29, go_sem, g0, g1, HO.out]) rfl ⟨by rw [HQ.out], hbF⟩

theorem enter26 : ∀ args w, (callFunc 26 args).run Tryd.prog w = .ok (.enter 26 args) w := enters_of Tryd.func26 (by kernel_rfl) rfl
theorem enter29 : ∀ args w, (callFunc 29 args).run Tryd.prog w = .ok (.enter 29 args) w := enters_of Tryd.func29 (by kernel_rfl) rfl

/-- A query's pairs, and a cookie field's, in memory. -/
def qF (s : ByteArray) : List Fd := (qL s.data.toList).map toF
def cF (s : ByteArray) : List Fd := (cL s.data.toList).map toF

theorem query_any (s : ByteArray) (w : World) (hs : s.size ≤ 10000) (hT : Tabs w) :
    Calls Tryd.prog 9 #[.string s] w fun e w' => ∃ v, e = .returned v ∧ Own w' w.heap.size v (qF s) ∧ Below w.heap.size w w' := by
  have h := taken_pairs 26 enter26 rvQ roQ s 38 w hs hT (fun x W hx hW => query1_any x W hx hW)
  rw [q_list] at h
  go_enter Tryd.func9, Tryd.ntmps9
  go_wp2_with fail
  refine h.mono ?_
  rintro e w1 ⟨v, rfl, ho, hb⟩
  go_wp2_with fail
  go_ret
  exact ⟨v, rfl, ho, hb⟩
theorem cookies_any (s : ByteArray) (w : World) (hs : s.size ≤ 10000) (hT : Tabs w) :
    Calls Tryd.prog 10 #[.string s] w fun e w' => ∃ v, e = .returned v ∧ Own w' w.heap.size v (cF s) ∧ Below w.heap.size w w' := by
  have h := taken_pairs 29 enter29 rvC roC s 59 w hs hT (fun x W hx hW => cookies1_any x W hx)
  rw [c_list] at h
  go_enter Tryd.func10, Tryd.ntmps10
  go_wp2_with fail
  refine h.mono ?_
  rintro e w1 ⟨v, rfl, ho, hb⟩
  go_wp2_with fail
  go_ret
  exact ⟨v, rfl, ho, hb⟩

end Go.Proofs.YtgnpeggffeoenaaDoor
