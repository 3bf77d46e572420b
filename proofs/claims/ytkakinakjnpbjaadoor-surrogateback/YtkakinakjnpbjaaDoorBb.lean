/- The walk of what tells which word counts for a device. -/
import Derived.Test.YtkakinakjnpbjaaDoorBl
namespace Go.Proofs.YtkakinakjnpbjaaDoor
set_option linter.unusedVariables false
set_option linter.unusedSimpArgs false
open Go.RowKit Go.Shelf

attribute [local go_sem] Oper.semAt_some

/-- Is a word of this name, and does it name this device? -/
def hitF (n d : ByteArray) (f : Fd) : Bool := f.1.toList == n.toList && f.2.2.toList == d.toList
/-- The word that counts. -/
def cntF (n d : ByteArray) (L : List Fd) : Option Fd := (L.reverse.find? (hitF n d)).or (L.reverse.find? (hitF n ⟨#[]⟩))
/-- What is told of the word that counts. -/
def Cnt (o : Option Fd) (f : Fd) (ok : Bool) : Prop := match o with | some x => ok = true ∧ f = x | none => ok = false
theorem find_hit {p : Fd → Bool} {R : List Fd} {q : List Pl} {x : Pl} (h : (q ++ [x]).map Prod.snd <+: R) (hq : ∀ y ∈ q, p y.2 = false) (hx : p x.2 = true) : R.find? p = some x.2 := by
  obtain ⟨t, rfl⟩ := h
  have h1 : (q.map Prod.snd).find? p = none := List.find?_eq_none.2 (fun f hf => by
    obtain ⟨y, hy, rfl⟩ := List.mem_map.1 hf
    rw [hq y hy]; decide)
  rw [List.map_append, List.append_assoc, List.find?_append, h1, List.map_cons, List.map_nil, List.singleton_append, List.find?_cons, hx]; rfl
theorem find_miss {p : Fd → Bool} {R : List Fd} {q : List Pl} (h : q.map Prod.snd = R) (hq : ∀ y ∈ q, p y.2 = false) : R.find? p = none := by
  subst h
  exact List.find?_eq_none.2 (fun f hf => by
    obtain ⟨y, hy, rfl⟩ := List.mem_map.1 hf
    rw [hq y hy]; decide)
theorem Tri.under {W W' : World} {N n : Nat} {x y z : ByteArray} (h : Tri W N x y z) (hN : N < n) (hb : Below n W W') : Tri W' N x y z :=
  ⟨(hb.cell (p := ⟨N, 0, none⟩) hN).trans h.c0, (hb.cell (p := ⟨N, 1, none⟩) hN).trans h.c1, (hb.cell (p := ⟨N, 2, none⟩) hN).trans h.c2, (hb.frozen (p := ⟨N, 0, none⟩) hN).trans h.f0, (hb.frozen (p := ⟨N, 1, none⟩) hN).trans h.f1, (hb.frozen (p := ⟨N, 2, none⟩) hN).trans h.f2⟩
theorem def_set {W : World} {D : Nat} {o : Obj} (h : W.heap[D]? = some o) (ho : o.isCells = false) (a : Addr) (v : Value) : (W.setCell a v).heap[D]? = some o := (KeepsOthers.setCell W a v).same D o h ho

/-- Between two rounds nothing that lay there has turned. -/
def CtI (W0 : World) (p : Fd → Bool) (pre : List Pl) (W : World) : Prop := (∀ x ∈ pre, p x.2 = false) ∧ Below W0.heap.size W0 W
/-- A round that leaves has laid its word into block N, and a yes into block M. -/
def CtX (w W0 : World) (N M : Nat) (p : Fd → Bool) (pre : List Pl) (W : World) : Prop :=
  (∃ (q : List Pl) (x : Pl), pre = q ++ [x] ∧ (∀ y ∈ q, p y.2 = false) ∧ p x.2 = true ∧ Tri W N x.2.1 x.2.2.1 x.2.2.2 ∧ W.cell? ⟨M, 0, none⟩ = some (.bool true)) ∧ Below w.heap.size w W ∧ KeepsOthers W0 W
theorem ctI_put {W0 : World} {p : Fd → Bool} : ∀ pre W l (o o' : Obj), CtI W0 p pre W → W0.heap.size ≤ l → W.heap[l]? = some o → o.isCells = false → o.isWalk = false → CtI W0 p pre (W.putObj l o') :=
  fun pre W l o o' h hl hk hc hw => ⟨h.1, h.2.trans (belowK_b (Nat.le_refl _) W l o o' hl hk hc hw)⟩
theorem ctI_alloc {W0 : World} {p : Fd → Bool} : ∀ pre W (o : Obj), CtI W0 p pre W → CtI W0 p pre (W.alloc o) := fun pre W o h => ⟨h.1, h.2.alloc h.2.size o⟩
theorem ctX_put {w W0 : World} {N M : Nat} {p : Fd → Bool} (h0 : w.heap.size ≤ W0.heap.size) (hN : N < W0.heap.size) (hM : M < W0.heap.size) : ∀ pre W l (o o' : Obj), CtX w W0 N M p pre W → W0.heap.size ≤ l → W.heap[l]? = some o → o.isCells = false → o.isWalk = false → CtX w W0 N M p pre (W.putObj l o') := by
  rintro pre W l o o' ⟨⟨q, x, h1, h2, h3, h4, h5⟩, hB, hKo⟩ hl hk hc hw
  have hb : Below W0.heap.size W (W.putObj l o') := belowK_b (Nat.le_refl _) W l o o' hl hk hc hw
  exact ⟨⟨q, x, h1, h2, h3, h4.under hN hb, (hb.cell (p := ⟨M, 0, none⟩) hM).trans h5⟩, hB.trans (hb.mono h0), ⟨Nat.le_trans hKo.size hb.size, fun k o hk' ho => (World.putObj_heap_other (by have := (Array.getElem?_eq_some_iff.1 hk').1; omega)).trans (hKo.same k o hk' ho)⟩⟩

set_option maxRecDepth 100000 in
set_option maxHeartbeats 8000000 in
theorem counting_any (L : List Fd) (v : Value) (nm d : ByteArray) (w : World) (hl : L.length ≤ 10001) (hr : Row w v L) :
    Calls Tryd.prog 23 #[v, .string nm, .string d] w fun e w' => ∃ f ok, e = .returned (.tuple #[fv f, .bool ok]) ∧ Cnt (cntF nm d L) f ok ∧ Below w.heap.size w w' := by
  have hr0 := hr
  obtain ⟨ad, cap, rfl, hcap, hR⟩ := hr
  clear hR
  refine (callsIn_wide (n := 3)).1 ?_
  refine callsIn_of_wp_marks Tryd.func23 rfl trivial ?_ rfl
  simp only [Tryd.ntmps23, List.size_toArray, List.length_cons, List.length_nil, Nat.reduceAdd, Nat.reduceSub, Array.replicate_succ, Array.replicate_zero, List.push_toArray, List.append_toArray, List.nil_append, List.cons_append]
  gi_wp2
  refine wpIn_loop_rounds 3 ?_
  rw [roundsIn_succ]
  gi_wp2
  refine ⟨trivial, ?_⟩
  refine (callsIn_wide.2 (backward_any _ _ _ _)).mono ?_
  rintro e w1 ⟨rfl, rfl⟩
  gi_wp2
  have hB0 : Below w.heap.size w ((((((w.alloc (.cells #[.string nm] 9)).alloc (.cells #[.string ⟨#[]⟩, .string ⟨#[]⟩, .string ⟨#[]⟩] 31)).alloc (.cells #[.bool false] 4)).alloc (.cells #[.string d, .string ⟨#[]⟩] 9)).alloc (.cells #[.string d] 9)).alloc (.cells #[.slice ad L.length cap] 23)) := ((((((Below.refl _ w).alloc (Nat.le_refl _) _).alloc (by simp) _).alloc (by simp; omega) _).alloc (by simp; omega) _).alloc (by simp; omega) _).alloc (by simp; omega) _
  have b0 : ((((((w.alloc (.cells #[.string nm] 9)).alloc (.cells #[.string ⟨#[]⟩, .string ⟨#[]⟩, .string ⟨#[]⟩] 31)).alloc (.cells #[.bool false] 4)).alloc (.cells #[.string d, .string ⟨#[]⟩] 9)).alloc (.cells #[.string d] 9)).alloc (.cells #[.slice ad L.length cap] 23)).cell? ⟨w.heap.size, 0, none⟩ = some (.string nm) := by go_simp
  have b1 : Tri ((((((w.alloc (.cells #[.string nm] 9)).alloc (.cells #[.string ⟨#[]⟩, .string ⟨#[]⟩, .string ⟨#[]⟩] 31)).alloc (.cells #[.bool false] 4)).alloc (.cells #[.string d, .string ⟨#[]⟩] 9)).alloc (.cells #[.string d] 9)).alloc (.cells #[.slice ad L.length cap] 23)) (w.heap.size + 1) ⟨#[]⟩ ⟨#[]⟩ ⟨#[]⟩ := by constructor <;> go_simp
  have b2 : ((((((w.alloc (.cells #[.string nm] 9)).alloc (.cells #[.string ⟨#[]⟩, .string ⟨#[]⟩, .string ⟨#[]⟩] 31)).alloc (.cells #[.bool false] 4)).alloc (.cells #[.string d, .string ⟨#[]⟩] 9)).alloc (.cells #[.string d] 9)).alloc (.cells #[.slice ad L.length cap] 23)).cell? ⟨w.heap.size + 1 + 1, 0, none⟩ = some (.bool false) := by go_simp
  have g2 : ((((((w.alloc (.cells #[.string nm] 9)).alloc (.cells #[.string ⟨#[]⟩, .string ⟨#[]⟩, .string ⟨#[]⟩] 31)).alloc (.cells #[.bool false] 4)).alloc (.cells #[.string d, .string ⟨#[]⟩] 9)).alloc (.cells #[.string d] 9)).alloc (.cells #[.slice ad L.length cap] 23)).frozen? ⟨w.heap.size + 1 + 1, 0, none⟩ = false := by go_simp
  have b3 : ((((((w.alloc (.cells #[.string nm] 9)).alloc (.cells #[.string ⟨#[]⟩, .string ⟨#[]⟩, .string ⟨#[]⟩] 31)).alloc (.cells #[.bool false] 4)).alloc (.cells #[.string d, .string ⟨#[]⟩] 9)).alloc (.cells #[.string d] 9)).alloc (.cells #[.slice ad L.length cap] 23)).cell? ⟨w.heap.size + 1 + 1 + 1, 1, none⟩ = some (.string ⟨#[]⟩) := by go_simp
  have b4 : ((((((w.alloc (.cells #[.string nm] 9)).alloc (.cells #[.string ⟨#[]⟩, .string ⟨#[]⟩, .string ⟨#[]⟩] 31)).alloc (.cells #[.bool false] 4)).alloc (.cells #[.string d, .string ⟨#[]⟩] 9)).alloc (.cells #[.string d] 9)).alloc (.cells #[.slice ad L.length cap] 23)).cell? ⟨w.heap.size + 1 + 1 + 1 + 1, 0, none⟩ = some (.string d) := by go_simp
  have b5 : ((((((w.alloc (.cells #[.string nm] 9)).alloc (.cells #[.string ⟨#[]⟩, .string ⟨#[]⟩, .string ⟨#[]⟩] 31)).alloc (.cells #[.bool false] 4)).alloc (.cells #[.string d, .string ⟨#[]⟩] 9)).alloc (.cells #[.string d] 9)).alloc (.cells #[.slice ad L.length cap] 23)).cell? ⟨w.heap.size + 1 + 1 + 1 + 1 + 1, 0, none⟩ = some (.slice ad L.length cap) := by go_simp
  have hsz : ((((((w.alloc (.cells #[.string nm] 9)).alloc (.cells #[.string ⟨#[]⟩, .string ⟨#[]⟩, .string ⟨#[]⟩] 31)).alloc (.cells #[.bool false] 4)).alloc (.cells #[.string d, .string ⟨#[]⟩] 9)).alloc (.cells #[.string d] 9)).alloc (.cells #[.slice ad L.length cap] 23)).heap.size = w.heap.size + 6 := by simp
  have hrow : Row ((((((w.alloc (.cells #[.string nm] 9)).alloc (.cells #[.string ⟨#[]⟩, .string ⟨#[]⟩, .string ⟨#[]⟩] 31)).alloc (.cells #[.bool false] 4)).alloc (.cells #[.string d, .string ⟨#[]⟩] 9)).alloc (.cells #[.string d] 9)).alloc (.cells #[.slice ad L.length cap] 23)) (.slice ad L.length cap) L := hr0.below hB0
  generalize ((((((w.alloc (.cells #[.string nm] 9)).alloc (.cells #[.string ⟨#[]⟩, .string ⟨#[]⟩, .string ⟨#[]⟩] 31)).alloc (.cells #[.bool false] 4)).alloc (.cells #[.string d, .string ⟨#[]⟩] 9)).alloc (.cells #[.string d] 9)).alloc (.cells #[.slice ad L.length cap] 23)) = W0 at hB0 b0 b1 b2 g2 b3 b4 b5 hsz hrow ⊢
  refine over_words rfl (by omega) (gf := 51) (lb := #[.pointer (some ⟨w.heap.size + 1 + 1 + 1 + 1 + 1, 0, none⟩)]) rfl trivial (enters_of Tryd.func51 (by kernel_rfl) rfl)
    (back_hands _ (by omega) (w.heap.size + 1 + 1 + 1 + 1 + 1) L _ W0 hl b5 hrow) belowK_t (belowK_b (Nat.le_refl _)) (fun W o h => (Below.refl _ W).alloc h _) (fun _ => rfl)
    (CtI W0 (hitF nm d)) (CtX w W0 (w.heap.size + 1) (w.heap.size + 1 + 1) (hitF nm d)) ctI_put ctI_alloc (ctX_put (by omega) (by omega) (by omega)) ⟨by simp, Below.refl _ _⟩
    (fun x => .cells #[.string x.2.1, .string x.2.2.1, .string x.2.2.2] 31)
    (fun x D => { tmps := #[.slice ad L.length cap, .string nm, .string d, undef, .pointer (some ⟨w.heap.size, 0, none⟩), undef, .pointer (some ⟨w.heap.size + 1, 0, none⟩), .pointer (some ⟨w.heap.size + 1 + 1, 0, none⟩), undef, .pointer (some ⟨w.heap.size + 1 + 1 + 1 + 1, 0, none⟩), undef, .pointer (some ⟨D, 0, none⟩), .string d, .slice (some ⟨w.heap.size + 1 + 1 + 1, 0, none⟩) 2 2, .int .i64 2, .int .i64 0, .bool true, .pointer (some ⟨w.heap.size + 1 + 1 + 1, 0, none⟩), .string d, .slice ad L.length cap, .func (.func 51) #[] #[.pointer (some ⟨w.heap.size + 1 + 1 + 1 + 1 + 1, 0, none⟩)], .int .i64 (x.1 : Int), .agg #[.string x.2.1, .string x.2.2.1, .string x.2.2.2], undef, undef, undef, undef, undef, undef, undef, undef, undef, undef, undef, undef, undef], defers := [] }) ?assign ?body ?done ?stop
  case assign =>
    intro l x W K hK
    simp only [encB, fv]
    gi_wp2
    exact hK
  case body =>
    rintro l pre x D W ⟨hp, hB⟩ hlen hD hm
    have e0 : W.cell? ⟨D, 0, none⟩ = some (.string x.2.1) := by rw [cell_of_row W D 0 _ 31 (0, 0) hm]; rfl
    have e1 : W.cell? ⟨D, 1, none⟩ = some (.string x.2.2.1) := by rw [cell_of_row W D 1 _ 31 (0, 0) hm]; rfl
    have e2 : W.cell? ⟨D, 2, none⟩ = some (.string x.2.2.2) := by rw [cell_of_row W D 2 _ 31 (0, 0) hm]; rfl
    have n0 := (hB.cell (p := ⟨w.heap.size, 0, none⟩) (by simp; omega)).trans b0
    have n4 := (hB.cell (p := ⟨w.heap.size + 1 + 1 + 1 + 1, 0, none⟩) (by simp; omega)).trans b4
    have hT := b1.under (by omega) hB
    have n2 := (hB.cell (p := ⟨w.heap.size + 1 + 1, 0, none⟩) (by simp; omega)).trans b2
    have k2 := (hB.frozen (p := ⟨w.heap.size + 1 + 1, 0, none⟩) (by simp; omega)).trans g2
    have hBw := hB0.trans (hB.mono (by omega))
    have HP : Hid (∀ (b : Bool), hitF nm d x.2 = b → b = false → ∀ y ∈ pre ++ [x], hitF nm d y.2 = false) := by
      intro b hb h0 y hy
      rcases List.mem_append.1 hy with hy | hy
      · exact hp y hy
      · obtain rfl : y = x := by simpa using hy
        rw [hb, h0]
    have HH : Hid (hitF nm d x.2 = (x.2.1.toList == nm.toList && x.2.2.2.toList == (d : ByteArray).toList)) := rfl
    obtain ⟨i, f0, f1, f2⟩ := x
    simp only at e0 e1 e2 HP HH ⊢
    cases h1 : (f0.toList == nm.toList)
    · have HZ := hide (HP.out _ (by rw [HH.out, h1]; rfl) rfl)
      gi_wp2
      exact ⟨KeepsFrom.refl _ _, Below.refl _ _, HZ.out, hB⟩
    · cases h2 : (f2.toList == (d : ByteArray).toList)
      · have HZ := hide (HP.out _ (by rw [HH.out, h1, h2]; rfl) rfl)
        gi_wp2
        exact ⟨KeepsFrom.refl _ _, Below.refl _ _, HZ.out, hB⟩
      · have HZ : Hid (hitF nm d (f0, f1, f2) = true) := by unfold Hid; rw [HH.out, h1, h2]; rfl
        have hS := set3 hBw (w.heap.size + 1) (by omega) (.string f0) (.string f1) (.string f2)
        have hT2 := (((hT.set0 f0).set1 f1).set2 f2).other (M := w.heap.size + 1 + 1) (by omega) 0 (.bool true)
        have hS2 := hS.setCell (p := ⟨w.heap.size + 1 + 1, 0, none⟩) (by simp; omega) (.bool true)
        have n2' : ((((W.setCell ⟨w.heap.size + 1, 0, none⟩ (.string f0)).setCell ⟨w.heap.size + 1, 1, none⟩ (.string f1)).setCell ⟨w.heap.size + 1, 2, none⟩ (.string f2)).setCell ⟨w.heap.size + 1 + 1, 0, none⟩ (.bool true)).cell? ⟨w.heap.size + 1 + 1, 0, none⟩ = some (.bool true) := by go_simp
        have hK := ((((KeepsOthers.setCell W ⟨w.heap.size + 1, 0, none⟩ (.string f0)).trans (KeepsOthers.setCell _ ⟨w.heap.size + 1, 1, none⟩ (.string f1))).trans (KeepsOthers.setCell _ ⟨w.heap.size + 1, 2, none⟩ (.string f2))).trans (KeepsOthers.setCell _ ⟨w.heap.size + 1 + 1, 0, none⟩ (.bool true)))
        obtain ⟨t0, t1, t2, y0, y1, y2⟩ := hT
        gi_wp2
        exact ⟨hK.from _, ⟨pre, (i, f0, f1, f2), rfl, hp, HZ.out, hT2, n2'⟩, hS2, (keeps_below hB).trans hK⟩
  case done =>
    rintro D1 xs V1 hD hxs ⟨hp, hB⟩ hK
    have HM := hide (find_miss hxs hp)
    have hBw := hB0.trans (hB.mono (by omega))
    have c0 := (hB.cell (p := ⟨w.heap.size, 0, none⟩) (by simp; omega)).trans b0
    have c1 := b1.under (by omega) hB
    have c2 := (hB.cell (p := ⟨w.heap.size + 1 + 1, 0, none⟩) (by simp; omega)).trans b2
    have h2 := (hB.frozen (p := ⟨w.heap.size + 1 + 1, 0, none⟩) (by simp; omega)).trans g2
    have c3 := (hB.cell (p := ⟨w.heap.size + 1 + 1 + 1, 1, none⟩) (by simp; omega)).trans b3
    have hDl : D1 < V1.heap.size := (Array.getElem?_eq_some_iff.1 hK).1
    have hVs : w.heap.size + 6 ≤ V1.heap.size := by have := hB.size; omega
    have hDw : w.heap.size + 6 ≤ D1 := by omega
    clear hp hxs b0 b1 b2 g2 b3 b4 b5 hrow
    have hA : Below V1.heap.size V1 ((V1.alloc (.cells #[.string ⟨#[]⟩] 9)).alloc (.cells #[.slice ad L.length cap] 23)) := ((Below.refl _ V1).alloc (Nat.le_refl _) _).alloc (by simp) _
    have hB2 : Below w.heap.size w ((V1.alloc (.cells #[.string ⟨#[]⟩] 9)).alloc (.cells #[.slice ad L.length cap] 23)) := hBw.trans (hA.mono (by omega))
    have d0 := ((stays hA).1 _ 0 (by omega)).trans c0
    have d1 := c1.below hA
    have d2 := ((stays hA).1 _ 0 (by omega)).trans c2
    have z2 := ((stays hA).2 _ 0 (by omega)).trans h2
    have d4 : ((V1.alloc (.cells #[.string ⟨#[]⟩] 9)).alloc (.cells #[.slice ad L.length cap] 23)).cell? ⟨V1.heap.size, 0, none⟩ = some (.string ⟨#[]⟩) := by go_simp
    have d5 : ((V1.alloc (.cells #[.string ⟨#[]⟩] 9)).alloc (.cells #[.slice ad L.length cap] 23)).cell? ⟨V1.heap.size + 1, 0, none⟩ = some (.slice ad L.length cap) := by go_simp
    have hrow2 : Row ((V1.alloc (.cells #[.string ⟨#[]⟩] 9)).alloc (.cells #[.slice ad L.length cap] 23)) (.slice ad L.length cap) L := hr0.below hB2
    have hK2 := (hA.block D1 hDl).trans hK
    have hsz2 : ((V1.alloc (.cells #[.string ⟨#[]⟩] 9)).alloc (.cells #[.slice ad L.length cap] 23)).heap.size = V1.heap.size + 2 := by simp
    gi_wp2
    rw [roundsIn_succ]
    gi_wp2
    refine ⟨trivial, ?_⟩
    refine (callsIn_wide.2 (backward_any _ _ _ _)).mono ?_
    rintro e w1 ⟨rfl, rfl⟩
    gi_wp2
    generalize ((V1.alloc (.cells #[.string ⟨#[]⟩] 9)).alloc (.cells #[.slice ad L.length cap] 23)) = W2 at *
    clear c0 c1 c2 h2 c3 hK hA hBw hB hB0
    refine over_words rfl (by omega) (gf := 51) (lb := #[.pointer (some ⟨V1.heap.size + 1, 0, none⟩)]) rfl trivial (enters_of Tryd.func51 (by kernel_rfl) rfl)
      (back_hands _ (by omega) (V1.heap.size + 1) L _ W2 hl d5 hrow2) belowK_t (belowK_b (Nat.le_refl _)) (fun W o h => (Below.refl _ W).alloc h _) (fun _ => rfl)
      (CtI W2 (hitF nm ⟨#[]⟩)) (CtX w W2 (w.heap.size + 1) (w.heap.size + 1 + 1) (hitF nm ⟨#[]⟩)) ctI_put ctI_alloc (ctX_put (by omega) (by omega) (by omega)) ⟨by simp, Below.refl _ _⟩
      (fun x => .cells #[.string x.2.1, .string x.2.2.1, .string x.2.2.2] 31)
      (fun x D => { tmps := #[.slice ad L.length cap, .string nm, .string d, undef, .pointer (some ⟨w.heap.size, 0, none⟩), undef, .pointer (some ⟨w.heap.size + 1, 0, none⟩), .pointer (some ⟨w.heap.size + 1 + 1, 0, none⟩), undef, .pointer (some ⟨V1.heap.size, 0, none⟩), undef, .pointer (some ⟨D, 0, none⟩), .string d, .slice (some ⟨w.heap.size + 1 + 1 + 1, 0, none⟩) 2 2, .int .i64 2, .int .i64 1, .bool true, .pointer (some ⟨w.heap.size + 1 + 1 + 1, 1, none⟩), .string ⟨#[]⟩, .slice ad L.length cap, .func (.func 51) #[] #[.pointer (some ⟨V1.heap.size + 1, 0, none⟩)], .int .i64 (x.1 : Int), .agg #[.string x.2.1, .string x.2.2.1, .string x.2.2.2], undef, undef, undef, undef, undef, undef, undef, undef, undef, undef, undef, .int .i64 1, undef], defers := [] }) ?assign2 ?body2 ?done2 ?stop2
    case assign2 =>
      intro l x W K hK
      simp only [encB, fv]
      gi_wp2
      exact hK
    case body2 =>
      rintro l pre x D W ⟨hp, hB⟩ hlen hD hm
      have e0 : W.cell? ⟨D, 0, none⟩ = some (.string x.2.1) := by rw [cell_of_row W D 0 _ 31 (0, 0) hm]; rfl
      have e1 : W.cell? ⟨D, 1, none⟩ = some (.string x.2.2.1) := by rw [cell_of_row W D 1 _ 31 (0, 0) hm]; rfl
      have e2 : W.cell? ⟨D, 2, none⟩ = some (.string x.2.2.2) := by rw [cell_of_row W D 2 _ 31 (0, 0) hm]; rfl
      have n0 := (hB.cell (p := ⟨w.heap.size, 0, none⟩) (by simp; omega)).trans d0
      have n4 := (hB.cell (p := ⟨V1.heap.size, 0, none⟩) (by simp; omega)).trans d4
      have hT := d1.under (by omega) hB
      have n2 := (hB.cell (p := ⟨w.heap.size + 1 + 1, 0, none⟩) (by simp; omega)).trans d2
      have k2 := (hB.frozen (p := ⟨w.heap.size + 1 + 1, 0, none⟩) (by simp; omega)).trans z2
      have hBw := hB2.trans (hB.mono (by omega))
      have HP : Hid (∀ (b : Bool), hitF nm ⟨#[]⟩ x.2 = b → b = false → ∀ y ∈ pre ++ [x], hitF nm ⟨#[]⟩ y.2 = false) := by
        intro b hb h0 y hy
        rcases List.mem_append.1 hy with hy | hy
        · exact hp y hy
        · obtain rfl : y = x := by simpa using hy
          rw [hb, h0]
      have HH : Hid (hitF nm ⟨#[]⟩ x.2 = (x.2.1.toList == nm.toList && x.2.2.2.toList == (⟨#[]⟩ : ByteArray).toList)) := rfl
      obtain ⟨i, f0, f1, f2⟩ := x
      simp only at e0 e1 e2 HP HH ⊢
      cases h1 : (f0.toList == nm.toList)
      · have HZ := hide (HP.out _ (by rw [HH.out, h1]; rfl) rfl)
        gi_wp2
        exact ⟨KeepsFrom.refl _ _, Below.refl _ _, HZ.out, hB⟩
      · cases h2 : (f2.toList == (⟨#[]⟩ : ByteArray).toList)
        · have HZ := hide (HP.out _ (by rw [HH.out, h1, h2]; rfl) rfl)
          have h3 : f2.toList.isEmpty = _ := (show f2.toList.isEmpty = (f2.toList == (⟨#[]⟩ : ByteArray).toList) by rw [show (⟨#[]⟩ : ByteArray).toList = [] by rw [ByteArray.toList_eq]]; cases f2.toList <;> rfl).trans h2
          gi_wp2
          exact ⟨KeepsFrom.refl _ _, Below.refl _ _, HZ.out, hB⟩
        · have HZ : Hid (hitF nm ⟨#[]⟩ (f0, f1, f2) = true) := by unfold Hid; rw [HH.out, h1, h2]; rfl
          have h3 : f2.toList.isEmpty = _ := (show f2.toList.isEmpty = (f2.toList == (⟨#[]⟩ : ByteArray).toList) by rw [show (⟨#[]⟩ : ByteArray).toList = [] by rw [ByteArray.toList_eq]]; cases f2.toList <;> rfl).trans h2
          have hS := set3 hBw (w.heap.size + 1) (by omega) (.string f0) (.string f1) (.string f2)
          have hT2 := (((hT.set0 f0).set1 f1).set2 f2).other (M := w.heap.size + 1 + 1) (by omega) 0 (.bool true)
          have hS2 := hS.setCell (p := ⟨w.heap.size + 1 + 1, 0, none⟩) (by simp; omega) (.bool true)
          have n2' : ((((W.setCell ⟨w.heap.size + 1, 0, none⟩ (.string f0)).setCell ⟨w.heap.size + 1, 1, none⟩ (.string f1)).setCell ⟨w.heap.size + 1, 2, none⟩ (.string f2)).setCell ⟨w.heap.size + 1 + 1, 0, none⟩ (.bool true)).cell? ⟨w.heap.size + 1 + 1, 0, none⟩ = some (.bool true) := by go_simp
          have hK := ((((KeepsOthers.setCell W ⟨w.heap.size + 1, 0, none⟩ (.string f0)).trans (KeepsOthers.setCell _ ⟨w.heap.size + 1, 1, none⟩ (.string f1))).trans (KeepsOthers.setCell _ ⟨w.heap.size + 1, 2, none⟩ (.string f2))).trans (KeepsOthers.setCell _ ⟨w.heap.size + 1 + 1, 0, none⟩ (.bool true)))
          obtain ⟨t0, t1, t2, y0, y1, y2⟩ := hT
          gi_wp2
          exact ⟨hK.from _, ⟨pre, (i, f0, f1, f2), rfl, hp, HZ.out, hT2, n2'⟩, hS2, (keeps_below hB).trans hK⟩
    case done2 =>
      rintro D ys V hD2 hys ⟨hq, hBB⟩ hKK
      have HM2 := hide (find_miss hys hq)
      have hBw := hB2.trans (hBB.mono (by omega))
      have c1 := d1.under (by omega) hBB
      have c2 := (hBB.cell (p := ⟨w.heap.size + 1 + 1, 0, none⟩) (by simp; omega)).trans d2
      have h2 := (hBB.frozen (p := ⟨w.heap.size + 1 + 1, 0, none⟩) (by simp; omega)).trans z2
      have hK1 := (hBB.block D1 (by omega)).trans hK2
      have hDD : D ≠ D1 := by omega
      have kD : ∀ o a b c f, o.isCells = false → V.heap[D]? = some o → ((((V.setCell ⟨w.heap.size + 1, 0, none⟩ a).setCell ⟨w.heap.size + 1, 1, none⟩ b).setCell ⟨w.heap.size + 1, 2, none⟩ c).setCell ⟨w.heap.size + 1 + 1, 0, none⟩ f).heap[D]? = some o := fun o a b c f ho h => def_set (def_set (def_set (def_set h ho _ _) ho _ _) ho _ _) ho _ _
      have kD1 : ∀ o a b c f, o.isCells = false → V.heap[D1]? = some o → ((((V.setCell ⟨w.heap.size + 1, 0, none⟩ a).setCell ⟨w.heap.size + 1, 1, none⟩ b).setCell ⟨w.heap.size + 1, 2, none⟩ c).setCell ⟨w.heap.size + 1 + 1, 0, none⟩ f).heap[D1]? = some o := fun o a b c f ho h => def_set (def_set (def_set (def_set h ho _ _) ho _ _) ho _ _) ho _ _
      have hS := set3 hBw (w.heap.size + 1) (by omega) (.string ⟨#[]⟩) (.string ⟨#[]⟩) (.string ⟨#[]⟩)
      have hS2 := hS.setCell (p := ⟨w.heap.size + 1 + 1, 0, none⟩) (by simp; omega) (.bool false)
      have hT2 := (((c1.set0 ⟨#[]⟩).set1 ⟨#[]⟩).set2 ⟨#[]⟩).other (M := w.heap.size + 1 + 1) (by omega) 0 (.bool false)
      obtain ⟨t0, t1, t2, y0, y1, y2⟩ := c1
      have n2' : ((((V.setCell ⟨w.heap.size + 1, 0, none⟩ (.string ⟨#[]⟩)).setCell ⟨w.heap.size + 1, 1, none⟩ (.string ⟨#[]⟩)).setCell ⟨w.heap.size + 1, 2, none⟩ (.string ⟨#[]⟩)).setCell ⟨w.heap.size + 1 + 1, 0, none⟩ (.bool false)).cell? ⟨w.heap.size + 1 + 1, 0, none⟩ = some (.bool false) := by go_simp
      clear hq hys
      gi_wp2
      rw [roundsIn_succ]
      gi_wp2
      have x2 := kD (.deferred (some [])) (.string ⟨#[]⟩) (.string ⟨#[]⟩) (.string ⟨#[]⟩) (.bool false) rfl hKK
      have x1 := kD1 (.deferred (some [])) (.string ⟨#[]⟩) (.string ⟨#[]⟩) (.string ⟨#[]⟩) (.bool false) rfl hK1
      generalize ((((V.setCell ⟨w.heap.size + 1, 0, none⟩ (.string ⟨#[]⟩)).setCell ⟨w.heap.size + 1, 1, none⟩ (.string ⟨#[]⟩)).setCell ⟨w.heap.size + 1, 2, none⟩ (.string ⟨#[]⟩)).setCell ⟨w.heap.size + 1 + 1, 0, none⟩ (.bool false)) = V2 at *
      have hp2 : Below (w.heap.size + 6) V2 (V2.putObj D (.deferred none)) := belowK_b (n₀ := w.heap.size + 6) (w := V1) (by omega) V2 D (.deferred (some [])) (.deferred none) (by omega) x2 rfl rfl
      have x1' : (V2.putObj D (.deferred none)).heap[D1]? = some (.deferred (some [])) := (World.putObj_heap_other (by omega)).trans x1
      have hp1 : Below (w.heap.size + 6) (V2.putObj D (.deferred none)) ((V2.putObj D (.deferred none)).putObj D1 (.deferred none)) := belowK_b (n₀ := w.heap.size + 6) (w := W0) (by omega) _ D1 (.deferred (some [])) (.deferred none) (by omega) x1' rfl rfl
      have hp := hp2.trans hp1
      have hT3 := hT2.under (by omega) hp
      have m0 := hT3.c0
      have m1 := hT3.c1
      have m2 := hT3.c2
      have m3 := (hp.cell (p := ⟨w.heap.size + 1 + 1, 0, none⟩) (by first | omega | (simp; omega) | simp)).trans n2'
      refine ⟨by simp, .inl ⟨_, _, rfl, run_takeDeferred x2, ⟨by simp, .inl ⟨_, _, rfl, run_takeDeferred x1', ?_⟩⟩⟩⟩
      refine ⟨.tuple #[.agg #[.string ⟨#[]⟩, .string ⟨#[]⟩, .string ⟨#[]⟩], .bool false], ?_, (⟨#[]⟩, ⟨#[]⟩, ⟨#[]⟩), false, rfl, ?_, ?_⟩
      · simp [results, Tryd.results23, go_sem, m0, m1, m2, m3]
      · unfold cntF; rw [HM.out, HM2.out]; rfl
      · exact hS2.trans (hp.mono (by omega))
    case stop2 =>
      rintro D pre V hD2 hpre ⟨⟨q, x, rfl, hq, hx, hT, hc⟩, hBB, hKo⟩ hKK
      have HV := hide (find_hit hpre hq hx)
      clear hpre hq
      have x1 := hKo.same D1 _ hK2 rfl
      gi_wp2
      have hp2 : Below (w.heap.size + 6) V (V.putObj D (.deferred none)) := belowK_b (n₀ := w.heap.size + 6) (w := V1) (by omega) V D (.deferred (some [])) (.deferred none) (by omega) hKK rfl rfl
      have x1' : (V.putObj D (.deferred none)).heap[D1]? = some (.deferred (some [])) := (World.putObj_heap_other (by omega)).trans x1
      have hp1 : Below (w.heap.size + 6) (V.putObj D (.deferred none)) ((V.putObj D (.deferred none)).putObj D1 (.deferred none)) := belowK_b (n₀ := w.heap.size + 6) (w := W0) (by omega) _ D1 (.deferred (some [])) (.deferred none) (by omega) x1' rfl rfl
      have hp := hp2.trans hp1
      have hT3 := hT.under (by omega) hp
      have m0 := hT3.c0
      have m1 := hT3.c1
      have m2 := hT3.c2
      have m3 := (hp.cell (p := ⟨w.heap.size + 1 + 1, 0, none⟩) (by first | omega | (simp; omega) | simp)).trans hc
      refine ⟨by simp, .inl ⟨_, _, rfl, run_takeDeferred hKK, ⟨by simp, .inl ⟨_, _, rfl, run_takeDeferred x1', ?_⟩⟩⟩⟩
      refine ⟨.tuple #[.agg #[.string x.2.1, .string x.2.2.1, .string x.2.2.2], .bool true], ?_, x.2, true, rfl, ?_, ?_⟩
      · simp [results, Tryd.results23, go_sem, m0, m1, m2, m3]
      · unfold cntF; rw [HM.out, HV.out]; exact ⟨rfl, rfl⟩
      · exact hBB.trans (hp.mono (by omega))
  case stop =>
    rintro D pre W hD hpre ⟨⟨q, x, rfl, hq, hx, hT, hc⟩, hB, -⟩ hK
    have HV := hide (find_hit hpre hq hx)
    gi_wp2
    refine ⟨by simp, .inl ⟨_, _, rfl, run_takeDeferred hK, ?_⟩⟩
    have hb := belowK_b (n₀ := w.heap.size) (w := W0) (by omega) W D (.deferred (some [])) (.deferred none) hD hK rfl rfl
    have hb6 := belowK_b (n₀ := W0.heap.size) (w := W0) (Nat.le_refl _) W D (.deferred (some [])) (.deferred none) hD hK rfl rfl
    have hT2 := hT.under (by omega) hb6
    have m0 := hT2.c0
    have m1 := hT2.c1
    have m2 := hT2.c2
    have m3 := (hb6.cell (p := ⟨w.heap.size + 1 + 1, 0, none⟩) (by simp; omega)).trans hc
    refine ⟨.tuple #[.agg #[.string x.2.1, .string x.2.2.1, .string x.2.2.2], .bool true], ?_, x.2, true, rfl, ?_, ?_⟩
    · simp [results, Tryd.results23, go_sem, m0, m1, m2, m3]
    · unfold cntF; rw [HV.out]; exact ⟨rfl, rfl⟩
    · exact hB.trans hb

end Go.Proofs.YtkakinakjnpbjaaDoor
