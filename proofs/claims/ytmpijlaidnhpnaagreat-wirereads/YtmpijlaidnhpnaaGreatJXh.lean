/- The walk of what reads a head. -/
import Derived.Test.YtmpijlaidnhpnaaGreatJXf
import Derived.Test.YtmpijlaidnhpnaaGreatJHf
namespace Go.Proofs.YtmpijlaidnhpnaaGreat
set_option linter.unusedVariables false
set_option linter.unusedSimpArgs false
set_option maxRecDepth 100000
open Go.RowKit

theorem trimFirst_any (s : List UInt8) (hs : s.length ≤ 100000) (W : World) :
    Calls Tryz.prog 81 #[.string (Ck.befS 10 (Ck.bs s)), .string ⟨#[13]⟩] W fun e w' => e = .returned (.string (Ck.bs (firL s))) ∧ w' = W := by
  have hl : (Ck.befS 10 (Ck.bs s)).data.toList = s.takeWhile (Ck.neB 10) := by rw [Ck.befS_list, Ck.bs_list]
  have hz : (Ck.befS 10 (Ck.bs s)).size ≤ 1000000 := by
    rw [← size_list, hl]
    have := takeWhile_le (Ck.neB 10) s
    omega
  have := Hd.trimSuffix_any (Ck.befS 10 (Ck.bs s)) W hz
  rw [hl] at this
  exact this
theorem chopRest_any (s : List UInt8) (hs : s.length ≤ 100000) (W : World) :
    Calls Tryz.prog 83 #[.string (Ck.aftS 10 (Ck.bs s))] W fun e w' => e = .returned (.string (Ck.bs (resL s))) ∧ w' = W := by
  have hl : (Ck.aftS 10 (Ck.bs s)).data.toList = s.drop (Hd.atN 10 s + 1) := by
    rw [Ck.aftS_list, Ck.bs_list, ← drop_takeWhile, List.drop_drop]; rfl
  have hz : (Ck.aftS 10 (Ck.bs s)).size ≤ 1000000 := by
    rw [← size_list, hl, List.length_drop]; omega
  have := chop_any (Ck.aftS 10 (Ck.bs s)) W hz
  rw [hl] at this
  exact this
theorem firL_le (s : List UInt8) : (firL s).length ≤ s.length := Nat.le_trans (Hd.bareL_le _) (takeWhile_le _ _)
theorem chopL_le (s : List UInt8) : (chopL s).length ≤ s.length := by
  refine Nat.le_trans (Hd.bareL_le _) ?_
  split
  · rw [List.length_dropLast]; omega
  · exact Nat.le_refl _
theorem resL_le (s : List UInt8) : (resL s).length ≤ s.length := Nat.le_trans (chopL_le _) (by rw [List.length_drop]; omega)
theorem fi_short {a : Bool} {l : List UInt8} (h : l.length ≤ 5000) : Short (fiU a l) := by
  unfold fiU
  split
  · exact Sr.ps_short (by rw [Ck.bs_size]; exact h)
  · exact Sr.st_short (by rw [Ck.bs_size]; exact h)
/-- What reading a head tells. -/
def HP (w : World) (a : Bool) (t : ByteArray) (s : List UInt8) (en : Ending) : Prop := ∃ (m : Ms) (va : Option Addr) (vn vc : Nat) (k z : Int), en = .returned (.tuple #[m.v (.slice va vn vc), .agg #[.int .i64 k, .int .i64 z], .int .i64 (hhF a t s).e]) ∧ ((hhF a t s).e = 0 → m = ⟨(hhF a t s).s, (hhF a t s).L, []⟩ ∧ k = (hhF a t s).k ∧ z = (hhF a t s).z ∧ FR w (.slice va vn vc) m.L)

theorem hp_bad {w : World} {a : Bool} {t : ByteArray} {s : List UInt8} {E : Int} (h : Hid ((hhF a t s).e = E)) (hE : E ≠ 0) : HP w a t s (.returned (.tuple #[.agg #[.string ⟨#[]⟩, .string ⟨#[]⟩, .int .i64 0, .string ⟨#[]⟩, .int .i64 0, .slice none 0 0, .string ⟨#[]⟩], .agg #[.int .i64 0, .int .i64 0], .int .i64 E])) :=
  ⟨Ms.no, none, 0, 0, 0, 0, by rw [h.out]; rfl, fun e => absurd (h.out.symm.trans e) hE⟩
/-- What a head's reading leaves in its two results. -/
def putM (w : World) (M : Nat) (m : Ms) (v : Value) (k z : Int) : World := (w.setCells M 0 (m.cs v)).setCells (M + 1) 0 [.int .i64 k, .int .i64 z]
theorem putM_is {w : World} {M : Nat} (hM : Blk w M 26 [.string ⟨#[]⟩, .string ⟨#[]⟩, .int .i64 0, .string ⟨#[]⟩, .int .i64 0, .slice none 0 0, .string ⟨#[]⟩]) (hT : Blk w (M + 1) 28 [.int .i64 0, .int .i64 0]) (m : Ms) (v : Value) (k z : Int) :
    Blk (putM w M m v k z) M 26 (m.cs v) ∧ Blk (putM w M m v k z) (M + 1) 28 [.int .i64 k, .int .i64 z] := by
  have h1 := hM.sets (m.cs v) 0 (show 0 + 7 ≤ 7 by decide)
  have h2 := (only_sets (m.cs v) 0 (only_refl w M)).block (M + 1) hT.lt (by simp)
  have h3 := (hT.keep h2).sets [.int .i64 k, .int .i64 z] 0 (show 0 + 2 ≤ 2 by decide)
  have h4 := (only_sets [.int .i64 k, .int .i64 z] 0 (only_refl (w.setCells M 0 (m.cs v)) (M + 1))).block M h1.lt (by simp)
  exact ⟨(h1.keep h4 : _), h3⟩
theorem putM_below {B : Nat} {w w' : World} (h : Below B w w') {M : Nat} (hM : B ≤ M) (hl : B ≤ w'.heap.size) (m : Ms) (v : Value) (k z : Int) : Below B w (putM w' M m v k z) := by
  have h1 := only_sets (m.cs v) 0 (only_refl w' M)
  have h2 := only_sets [.int .i64 k, .int .i64 z] 0 (only_refl (w'.setCells M 0 (m.cs v)) (M + 1))
  exact (h.trans (below_only h1 hM hl)).trans (below_only h2 (by omega) (Nat.le_trans hl h1.size))
theorem putM_kf {w : World} {M : Nat} (h1 : ty w M ≠ some 68) (h2 : ty w (M + 1) ≠ some 68) (hl : M + 1 < w.heap.size) (m : Ms) (v : Value) (k z : Int) : Kf w (putM w M m v k z) := by
  have g1 := only_sets (m.cs v) 0 (only_refl w M)
  have g2 := only_sets [.int .i64 k, .int .i64 z] 0 (only_refl (w.setCells M 0 (m.cs v)) (M + 1))
  refine (Kf.only g1 h1).trans (Kf.only g2 ?_)
  rw [ty_same (g1.block (M + 1) hl (by simp))]
  exact h2

set_option maxHeartbeats 16000000 in
theorem hp_any (r : Rr) (v u : Value) (N : Nat) (s : List UInt8) (w : World) (h : Blk w N 58 (r.gs v u)) (hs : s.length ≤ 4000) :
    Calls Tryz.prog 63 #[.pointer (some ⟨N, 0, none⟩), .string (Ck.bs s)] w fun en w' => HP w' r.a r.t s en ∧ Below w.heap.size w w' := by
  have hcut := fun W => Ck.cut_any (Ck.bs s) 10 W (by rw [Ck.bs_size]; omega)
  have htf := trimFirst_any s (by omega)
  have hcr := chopRest_any s (by omega)
  have hfl := firL_le s
  have hrl := resL_le s
  have hfi := fun W hW => first_any r v u N (Ck.bs (firL s)) W hW (by rw [Ck.bs_size]; omega)
  rw [Ck.bs_list] at hfi
  have hpr := fun W => Hd.parse_any (Ck.bs (resL s)) W (by rw [Ck.bs_size]; omega)
  rw [Ck.bs_list] at hpr
  have hpa := Hd.ps_all (resL s)
  have hB : Below w.heap.size w ((w.alloc (.cells #[.string ⟨#[]⟩, .string ⟨#[]⟩, .int .i64 0, .string ⟨#[]⟩, .int .i64 0, .slice none 0 0, .string ⟨#[]⟩] 26)).alloc (.cells #[.int .i64 0, .int .i64 0] 28)) := ((Below.refl _ _).alloc (Nat.le_refl _) _).alloc (by simp) _
  have hN0 := h.below hB
  have hM : Blk ((w.alloc (.cells #[.string ⟨#[]⟩, .string ⟨#[]⟩, .int .i64 0, .string ⟨#[]⟩, .int .i64 0, .slice none 0 0, .string ⟨#[]⟩] 26)).alloc (.cells #[.int .i64 0, .int .i64 0] 28)) w.heap.size 26 [.string ⟨#[]⟩, .string ⟨#[]⟩, .int .i64 0, .string ⟨#[]⟩, .int .i64 0, .slice none 0 0, .string ⟨#[]⟩] := (Blk.new w 26 [.string ⟨#[]⟩, .string ⟨#[]⟩, .int .i64 0, .string ⟨#[]⟩, .int .i64 0, .slice none 0 0, .string ⟨#[]⟩]).alloc _
  have hT : Blk ((w.alloc (.cells #[.string ⟨#[]⟩, .string ⟨#[]⟩, .int .i64 0, .string ⟨#[]⟩, .int .i64 0, .slice none 0 0, .string ⟨#[]⟩] 26)).alloc (.cells #[.int .i64 0, .int .i64 0] 28)) (w.heap.size + 1) 28 [.int .i64 0, .int .i64 0] := by
    have := Blk.new (w.alloc (.cells #[.string ⟨#[]⟩, .string ⟨#[]⟩, .int .i64 0, .string ⟨#[]⟩, .int .i64 0, .slice none 0 0, .string ⟨#[]⟩] 26)) 28 [.int .i64 0, .int .i64 0]
    rwa [show (w.alloc (.cells #[.string ⟨#[]⟩, .string ⟨#[]⟩, .int .i64 0, .string ⟨#[]⟩, .int .i64 0, .slice none 0 0, .string ⟨#[]⟩] 26)).heap.size = w.heap.size + 1 by simp] at this
  cases h1 : rtB (fiU r.a (firL s))
  · have hV := hh_first (t := r.t) h1
    obtain ⟨e1, e2⟩ := Sr.gv_no h1
    rw [e1, e2] at hfi
    unfold St.no noS St.v at hfi
    have HV : Hid ((hhF r.a r.t s).e = 30) := by unfold Hid; rw [hV]
    clear hV e1 e2 h1 hcr hpr hpa hfl hrl hs h
    go_enter Tryz.func63, Tryz.ntmps63
    go_wp2_with fail
    generalize World.alloc (World.alloc _ _) _ = W0 at hB hN0 hM hT ⊢
    refine (hcut _).mono ?_
    rintro en w1 ⟨rfl, n1, rfl⟩
    have D1 := Ck.below_drewN W0 n1
    replace hB := hB.trans (D1.mono hB.size)
    replace hN0 := hN0.below D1
    replace hM := hM.below D1
    replace hT := hT.below D1
    clear D1
    generalize W0.drewN n1 = W1 at hB hN0 hM hT ⊢
    go_wp2_with fail
    refine (htf _).mono ?_
    rintro en w2 ⟨rfl, rfl⟩
    go_wp2_with fail
    refine (hfi _ hN0).mono ?_
    rintro en w3 ⟨rfl, hb3⟩
    replace hB := hB.trans (hb3.mono hB.size)
    replace hN0 := hN0.below hb3
    replace hM := hM.below hb3
    replace hT := hT.below hb3
    clear hb3
    go_upto_region 4 with fail
    replace hB := hB.alloc hB.size (.cells #[.string ⟨#[]⟩, .string ⟨#[]⟩, .int .i64 0, .string ⟨#[]⟩, .int .i64 0] 23)
    replace hM := hM.alloc (.cells #[.string ⟨#[]⟩, .string ⟨#[]⟩, .int .i64 0, .string ⟨#[]⟩, .int .i64 0] 23)
    replace hT := hT.alloc (.cells #[.string ⟨#[]⟩, .string ⟨#[]⟩, .int .i64 0, .string ⟨#[]⟩, .int .i64 0] 23)
    generalize World.alloc w3 _ = W4 at hB hM hT ⊢
    have m0 : W4.cell? ⟨w.heap.size, 0, none⟩ = some (.string ⟨#[]⟩) := hM.cell 0 _ rfl
    have m1 : W4.cell? ⟨w.heap.size, 1, none⟩ = some (.string ⟨#[]⟩) := hM.cell 1 _ rfl
    have m2 : W4.cell? ⟨w.heap.size, 2, none⟩ = some (.int .i64 0) := hM.cell 2 _ rfl
    have m3 : W4.cell? ⟨w.heap.size, 3, none⟩ = some (.string ⟨#[]⟩) := hM.cell 3 _ rfl
    have m4 : W4.cell? ⟨w.heap.size, 4, none⟩ = some (.int .i64 0) := hM.cell 4 _ rfl
    have m5 : W4.cell? ⟨w.heap.size, 5, none⟩ = some (.slice none 0 0) := hM.cell 5 _ rfl
    have m6 : W4.cell? ⟨w.heap.size, 6, none⟩ = some (.string ⟨#[]⟩) := hM.cell 6 _ rfl
    have mf := hM.fz
    have t0 : W4.cell? ⟨w.heap.size + 1, 0, none⟩ = some (.int .i64 0) := hT.cell 0 _ rfl
    have t1 : W4.cell? ⟨w.heap.size + 1, 1, none⟩ = some (.int .i64 0) := hT.cell 1 _ rfl
    have tf := hT.fz

    go_wp2_with fail
    change bodyPost _ _ _ _ _ (putM W4 w.heap.size Ms.no (.slice none 0 0) 0 0)
    obtain ⟨x1, x2⟩ := putM_is hM hT Ms.no (.slice none 0 0) 0 0
    have x3 := putM_below hB (Nat.le_refl _) hB.size Ms.no (.slice none 0 0) 0 0
    clear m0 m1 m2 m3 m4 m5 m6 mf t0 t1 tf
    generalize putM _ _ _ _ _ _ = W5 at x1 x2 x3 ⊢
    have m0 : W5.cell? ⟨w.heap.size, 0, none⟩ = some (.string ⟨#[]⟩) := x1.cell 0 _ rfl
    have m1 : W5.cell? ⟨w.heap.size, 1, none⟩ = some (.string ⟨#[]⟩) := x1.cell 1 _ rfl
    have m2 : W5.cell? ⟨w.heap.size, 2, none⟩ = some (.int .i64 0) := x1.cell 2 _ rfl
    have m3 : W5.cell? ⟨w.heap.size, 3, none⟩ = some (.string ⟨#[]⟩) := x1.cell 3 _ rfl
    have m4 : W5.cell? ⟨w.heap.size, 4, none⟩ = some (.int .i64 0) := x1.cell 4 _ rfl
    have m5 : W5.cell? ⟨w.heap.size, 5, none⟩ = some (.slice none 0 0) := x1.cell 5 _ rfl
    have m6 : W5.cell? ⟨w.heap.size, 6, none⟩ = some (.string ⟨#[]⟩) := x1.cell 6 _ rfl
    have t0 : W5.cell? ⟨w.heap.size + 1, 0, none⟩ = some (.int .i64 0) := x2.cell 0 _ rfl
    have t1 : W5.cell? ⟨w.heap.size + 1, 1, none⟩ = some (.int .i64 0) := x2.cell 1 _ rfl
    refine bodyPost_ret (v := .tuple #[.agg #[.string ⟨#[]⟩, .string ⟨#[]⟩, .int .i64 0, .string ⟨#[]⟩, .int .i64 0, .slice none 0 0, .string ⟨#[]⟩], .agg #[.int .i64 0, .int .i64 0], .int .i64 30]) (by simp [results, Tryz.results63, go_sem, m0, m1, m2, m3, m4, m5, m6, t0, t1]) rfl ⟨hp_bad HV (by decide), x3⟩
  · obtain ⟨e1, e2⟩ := Sr.gv_yes h1
    rw [e1, e2] at hfi
    have hsh := fi_short (a := r.a) (l := firL s) (by omega)
    by_cases h2 : (Hd.psU (resL s)).2 = 0
    · have hV := hh_all (t := r.t) h1 h2
      obtain ⟨G, hG⟩ : ∃ G, fiU r.a (firL s) = G := ⟨_, rfl⟩
      rw [hG] at hfi hsh hV
      obtain ⟨L0, hL0⟩ : ∃ q, (Hd.psU (resL s)).1 = q := ⟨_, rfl⟩
      rw [hL0] at hpr hpa hV
      rw [h2] at hpr
      have hSh : Sh L0 := fun f hf => by have := hpa.2.2.2 f hf; omega
      have hl50 : L0.length ≤ 50 := by have := hpa.2.1; omega
      obtain ⟨⟨A1, A2, A3⟩, hA⟩ : ∃ q, lgF r.a r.t G L0 = q := ⟨_, rfl⟩
      have hlen := fun vv W hr => length_any r v ⟨G, L0, []⟩ vv W hsh hr hl50 hSh
      simp only at hlen
      rw [hA] at hlen hV
      have HV : Hid (hhF r.a r.t s = ⟨A3, G, L0, A1, A2⟩) := hV
      unfold anV Rr.v Ms.v at hlen
      simp only at hlen
      unfold St.v at hfi
      clear hV e1 e2 h1 h2 hpa hfl hrl hs h hsh hG hL0 hA hSh hl50
      go_enter Tryz.func63, Tryz.ntmps63
      go_wp2_with fail
      generalize World.alloc (World.alloc _ _) _ = W0 at hB hN0 hM hT ⊢
      refine (hcut _).mono ?_
      rintro en w1 ⟨rfl, n1, rfl⟩
      have D1 := Ck.below_drewN W0 n1
      replace hB := hB.trans (D1.mono hB.size)
      replace hN0 := hN0.below D1
      replace hM := hM.below D1
      replace hT := hT.below D1
      clear D1
      generalize W0.drewN n1 = W1 at hB hN0 hM hT ⊢
      go_wp2_with fail
      refine (htf _).mono ?_
      rintro en w2 ⟨rfl, rfl⟩
      go_wp2_with fail
      refine (hfi _ hN0).mono ?_
      rintro en w3 ⟨rfl, hb3⟩
      replace hB := hB.trans (hb3.mono hB.size)
      replace hN0 := hN0.below hb3
      replace hM := hM.below hb3
      replace hT := hT.below hb3
      clear hb3
  
      go_upto_region 5 with fail
      replace hB := hB.alloc hB.size (.cells #[.string G.m, .string G.t, .int .i64 G.c, .string G.r, .int .i64 G.n] 23)
      replace hM := hM.alloc (.cells #[.string G.m, .string G.t, .int .i64 G.c, .string G.r, .int .i64 G.n] 23)
      replace hT := hT.alloc (.cells #[.string G.m, .string G.t, .int .i64 G.c, .string G.r, .int .i64 G.n] 23)
      replace hN0 := hN0.alloc (.cells #[.string G.m, .string G.t, .int .i64 G.c, .string G.r, .int .i64 G.n] 23)
      have hG := Blk.new w3 23 [.string G.m, .string G.t, .int .i64 G.c, .string G.r, .int .i64 G.n]
      change Blk (w3.alloc (.cells #[.string G.m, .string G.t, .int .i64 G.c, .string G.r, .int .i64 G.n] 23)) _ _ _ at hG
      generalize World.alloc w3 _ = W3 at hB hM hT hN0 hG ⊢
      generalize w3.heap.size = S3 at hG ⊢
      go_wp2_with fail
      refine (hcr _).mono ?_
      rintro en w4 ⟨rfl, rfl⟩
      go_wp2_with fail
      refine (hpr _).mono ?_
      rintro en W4 ⟨v5, rfl, ho5, hb5⟩
      replace hB := hB.trans (hb5.mono hB.size)
      replace hM := hM.below hb5
      replace hT := hT.below hb5
      replace hN0 := hN0.below hb5
      replace hG := hG.below hb5
      obtain ⟨a5, c5, rfl⟩ := ho5.row.slice
      have hF5 := FR.own ho5
      have hW5 := hN0.lt
      have g0 : W4.cell? ⟨S3, 0, none⟩ = some (.string G.m) := hG.cell 0 _ rfl
      have g1 : W4.cell? ⟨S3, 1, none⟩ = some (.string G.t) := hG.cell 1 _ rfl
      have g2 : W4.cell? ⟨S3, 2, none⟩ = some (.int .i64 G.c) := hG.cell 2 _ rfl
      have g3 : W4.cell? ⟨S3, 3, none⟩ = some (.string G.r) := hG.cell 3 _ rfl
      have g4 : W4.cell? ⟨S3, 4, none⟩ = some (.int .i64 G.n) := hG.cell 4 _ rfl
      have hT0 := hT.lt
      clear hb5 ho5
      go_upto_region 9 with fail
      rw [show Ck.bs [] = (⟨#[]⟩ : ByteArray) from rfl] at hlen
      replace hB := hB.alloc hB.size (.cells #[.string G.m, .string G.t, .int .i64 G.c, .string G.r, .int .i64 G.n, .slice a5 L0.length c5, .string ⟨#[]⟩] 26)
      replace hM := hM.alloc (.cells #[.string G.m, .string G.t, .int .i64 G.c, .string G.r, .int .i64 G.n, .slice a5 L0.length c5, .string ⟨#[]⟩] 26)
      replace hT := hT.alloc (.cells #[.string G.m, .string G.t, .int .i64 G.c, .string G.r, .int .i64 G.n, .slice a5 L0.length c5, .string ⟨#[]⟩] 26)
      replace hN0 := hN0.alloc (.cells #[.string G.m, .string G.t, .int .i64 G.c, .string G.r, .int .i64 G.n, .slice a5 L0.length c5, .string ⟨#[]⟩] 26)
      have hQ := Blk.new W4 26 [.string G.m, .string G.t, .int .i64 G.c, .string G.r, .int .i64 G.n, .slice a5 L0.length c5, .string ⟨#[]⟩]
      change Blk (W4.alloc (.cells #[.string G.m, .string G.t, .int .i64 G.c, .string G.r, .int .i64 G.n, .slice a5 L0.length c5, .string ⟨#[]⟩] 26)) _ _ _ at hQ
      replace hF5 := hF5.below ((Below.refl _ W4).alloc (Nat.le_refl _) (.cells #[.string G.m, .string G.t, .int .i64 G.c, .string G.r, .int .i64 G.n, .slice a5 L0.length c5, .string ⟨#[]⟩] 26))
      have hQl : w.heap.size + 1 < W4.heap.size := hT0
      clear g0 g1 g2 g3 g4 hG hW5
      generalize World.alloc W4 _ = W5 at hB hM hT hN0 hQ hF5 ⊢
      generalize W4.heap.size = Q at hQ hQl ⊢
      refine wp_region_held_drew (S := (fun w' => Blk w' N 58 (r.gs v u) ∧ Blk w' Q 26 [.string G.m, .string G.t, .int .i64 G.c, .string G.r, .int .i64 G.n, .slice a5 L0.length c5, .string ⟨#[]⟩])) (by kernel_rfl) (⟨hN0.drew, hQ.drew⟩) (fun hHeld => ?_)
      refine wpAnyH_take (i := 0) (oi := _) (v := .pointer (some ⟨N, 0, none⟩)) rfl (by kernel_rfl) (by kernel_rfl) (by kernel_rfl) (fun _ _ _ h => h) (Or.inl ⟨by rfl, fun wS hSw => by go_simp⟩) (by first | trivial | assumption) ?_
      simp only [Act.put, List.getElem_toArray, List.getElem_cons_zero, List.getElem_cons_succ, List.setIfInBounds_toArray, List.set_cons_zero, List.set_cons_succ]
      refine wpAnyH_take (i := 1) (oi := _) (v := .pointer (some ⟨N, 0, none⟩)) rfl (by kernel_rfl) (by kernel_rfl) (by kernel_rfl) (fun _ _ _ h => h) (Or.inl ⟨by rfl, fun wS hSw => by go_simp⟩) (by first | trivial | assumption) ?_
      simp only [Act.put, List.getElem_toArray, List.getElem_cons_zero, List.getElem_cons_succ, List.setIfInBounds_toArray, List.set_cons_zero, List.set_cons_succ]
      refine wpAnyH_take (i := 2) (oi := _) (v := .pointer (some ⟨N, 0, none⟩)) rfl (by kernel_rfl) (by kernel_rfl) (by kernel_rfl) (fun _ _ _ h => h) (Or.inl ⟨by rfl, fun wS hSw => by go_simp⟩) (by first | trivial | assumption) ?_
      simp only [Act.put, List.getElem_toArray, List.getElem_cons_zero, List.getElem_cons_succ, List.setIfInBounds_toArray, List.set_cons_zero, List.set_cons_succ]
      refine wpAnyH_take (i := 3) (oi := _) (v := .agg #[.bool r.a, .string r.t, .string (Ck.bs r.buf), .bool r.i, .string r.m.s.m, .string r.m.s.t, .int .i64 r.m.s.c, .string r.m.s.r, .int .i64 r.m.s.n, v, .string (Ck.bs r.m.b), .int .i64 r.k, .int .i64 r.z, .int .i64 r.c.st, .string r.c.line, .int .i64 r.c.left, .int .i64 r.c.size, .int .i64 r.e]) rfl (by kernel_rfl) (by kernel_rfl) (by kernel_rfl) (fun _ _ _ h => h) (yieldsIf_load_mid (by kernel_rfl) 33 (.tmp 50) rfl N 0 rfl _ _ (fun _ hS => Blk.range (hS.1) 0 18) Tryz.underlying33 rfl (by kernel_rfl)) (by first | trivial | assumption) ?_
      simp only [Act.put, List.getElem_toArray, List.getElem_cons_zero, List.getElem_cons_succ, List.setIfInBounds_toArray, List.set_cons_zero, List.set_cons_succ]
      refine wpAnyH_take (i := 4) (oi := _) (v := .agg #[.string G.m, .string G.t, .int .i64 G.c, .string G.r, .int .i64 G.n, .slice a5 L0.length c5, .string ⟨#[]⟩]) rfl (by kernel_rfl) (by kernel_rfl) (by kernel_rfl) (fun _ _ _ h => h) (yieldsIf_load_mid (by kernel_rfl) 26 (.tmp 13) rfl Q 0 rfl _ _ (fun _ hS => Blk.range (hS.2) 0 7) Tryz.underlying26 rfl (by kernel_rfl)) (by first | trivial | assumption) ?_
      simp only [Act.put, List.getElem_toArray, List.getElem_cons_zero, List.getElem_cons_succ, List.setIfInBounds_toArray, List.set_cons_zero, List.set_cons_succ]
      refine wpAnyH_ready (rs := [5, 9]) (by kernel_rfl) (by simp) ?_
      refine AllReadyH.cons (o := _) rfl (fun K hK => ?_) (AllReadyH.cons (o := _) rfl (fun K hK => ?_) AllReadyH.nil)
      · go_simp
        refine (hlen _ _ (hF5.below ((Below.refl _ W5).drew)).row).mono ?_
        rintro en w6 ⟨rfl, hb6⟩
        replace hB := hB.drew.trans (hb6.mono hB.size)
        replace hM := hM.drew.below hb6
        replace hT := hT.drew.below hb6
        replace hN0 := hN0.drew.below hb6
        replace hQ := hQ.drew.below hb6
        replace hF5 := (hF5.below ((Below.refl _ W5).drew)).below hb6
        refine hK.out _ _ (⟨hN0, hQ⟩) (fun hHeld => ?_)
        clear hK K
        clear hb6
        refine wpAnyH_take (i := 6) (oi := _) (v := .tuple #[.agg #[.int .i64 A1, .int .i64 A2], .int .i64 A3]) rfl (by kernel_rfl) (by kernel_rfl) (by kernel_rfl) (fun _ _ _ h => h) (Or.inl ⟨by rfl, fun wS hSw => by go_simp⟩) (by first | trivial | assumption) ?_
        simp only [Act.put, List.getElem_toArray, List.getElem_cons_zero, List.getElem_cons_succ, List.setIfInBounds_toArray, List.set_cons_zero, List.set_cons_succ]
        refine wpAnyH_take (i := 7) (oi := _) (v := .agg #[.int .i64 A1, .int .i64 A2]) rfl (by kernel_rfl) (by kernel_rfl) (by kernel_rfl) (fun _ _ _ h => h) (Or.inl ⟨by rfl, fun wS hSw => by go_simp⟩) (by first | trivial | assumption) ?_
        simp only [Act.put, List.getElem_toArray, List.getElem_cons_zero, List.getElem_cons_succ, List.setIfInBounds_toArray, List.set_cons_zero, List.set_cons_succ]
        refine wpAnyH_take (i := 8) (oi := _) (v := .int .i64 A3) rfl (by kernel_rfl) (by kernel_rfl) (by kernel_rfl) (fun _ _ _ h => h) (Or.inl ⟨by rfl, fun wS hSw => by go_simp⟩) (by first | trivial | assumption) ?_
        simp only [Act.put, List.getElem_toArray, List.getElem_cons_zero, List.getElem_cons_succ, List.setIfInBounds_toArray, List.set_cons_zero, List.set_cons_succ]
        refine wpAnyH_ready (rs := [9]) (by kernel_rfl) (by simp) ?_
        refine AllReadyH.cons (o := _) rfl (fun K hK => ?_) AllReadyH.nil
        go_simp
        refine hK.out _ _ (⟨hN0.alloc _, hQ.alloc _⟩) (fun hHeld => ?_)
        clear hK K
        refine wpAnyH_ready (rs := [10]) (by kernel_rfl) (by simp) ?_
        refine AllReadyH.cons (o := _) rfl (fun K hK => ?_) AllReadyH.nil
        go_simp
        refine hK.out _ _ (⟨hN0.alloc _, hQ.alloc _⟩) (fun hHeld => ?_)
        clear hK K
        refine wpAnyH_take (i := 11) (oi := _) (v := .int .i64 A3) rfl (by kernel_rfl) (by kernel_rfl) (by kernel_rfl) (fun _ _ _ h => h) (Or.inl ⟨by rfl, fun wS hSw => by go_simp⟩) (by first | trivial | assumption) ?_
        simp only [Act.put, List.getElem_toArray, List.getElem_cons_zero, List.getElem_cons_succ, List.setIfInBounds_toArray, List.set_cons_zero, List.set_cons_succ]
        refine wpAnyH_done (by kernel_rfl) ?_ _
        have hP := Blk.new w6 28 [.int .i64 A1, .int .i64 A2]
        change Blk (w6.alloc (.cells #[.int .i64 A1, .int .i64 A2] 28)) _ _ _ at hP
        have hPne1 : w6.heap.size ≠ w.heap.size + 1 := by have := hT.lt; omega
        replace hB := hB.alloc hB.size (.cells #[.int .i64 A1, .int .i64 A2] 28)
        replace hF5 := hF5.below ((Below.refl _ w6).alloc (Nat.le_refl _) (.cells #[.int .i64 A1, .int .i64 A2] 28))
        replace hM := hM.alloc (.cells #[.int .i64 A1, .int .i64 A2] 28)
        replace hT := hT.alloc (.cells #[.int .i64 A1, .int .i64 A2] 28)
        replace hQ := hQ.alloc (.cells #[.int .i64 A1, .int .i64 A2] 28)
        generalize World.alloc w6 _ = W7 at hB hM hT hQ hP hF5 ⊢
        generalize w6.heap.size = PP at hP hPne1 ⊢
        have hPne : PP ≠ w.heap.size := by rintro rfl; have := hM.ty.symm.trans hP.ty; exact absurd this (by decide)
        clear hHeld hN0
        go_wp2_with fail
        refine wp_region_held_drew (S := (fun w' => Blk w' Q 26 [.string G.m, .string G.t, .int .i64 G.c, .string G.r, .int .i64 G.n, .slice a5 L0.length c5, .string ⟨#[]⟩] ∧ Blk w' PP 28 [.int .i64 A1, .int .i64 A2])) (by kernel_rfl) (⟨hQ.drew, hP.drew⟩) (fun hHeld => ?_)
        refine wpAnyH_take (i := 0) (oi := _) (v := .agg #[.string G.m, .string G.t, .int .i64 G.c, .string G.r, .int .i64 G.n, .slice a5 L0.length c5, .string ⟨#[]⟩]) rfl (by kernel_rfl) (by kernel_rfl) (by kernel_rfl) (fun _ _ _ h => h) (yieldsIf_load_mid (by kernel_rfl) 26 (.tmp 13) rfl Q 0 rfl _ _ (fun _ hS => Blk.range (hS.1) 0 7) Tryz.underlying26 rfl (by kernel_rfl)) (by first | trivial | assumption) ?_
        simp only [Act.put, List.getElem_toArray, List.getElem_cons_zero, List.getElem_cons_succ, List.setIfInBounds_toArray, List.set_cons_zero, List.set_cons_succ]
        refine wpAnyH_take (i := 1) (oi := _) (v := .agg #[.int .i64 A1, .int .i64 A2]) rfl (by kernel_rfl) (by kernel_rfl) (by kernel_rfl) (fun _ _ _ h => h) (yieldsIf_load_mid (by kernel_rfl) 28 (.tmp 14) rfl PP 0 rfl _ _ (fun _ hS => Blk.range (hS.2) 0 2) Tryz.underlying28 rfl (by kernel_rfl)) (by first | trivial | assumption) ?_
        simp only [Act.put, List.getElem_toArray, List.getElem_cons_zero, List.getElem_cons_succ, List.setIfInBounds_toArray, List.set_cons_zero, List.set_cons_succ]
        refine wpAnyH_take (i := 2) (oi := _) (v := .int .i64 A3) rfl (by kernel_rfl) (by kernel_rfl) (by kernel_rfl) (fun _ _ _ h => h) (Or.inl ⟨by rfl, fun wS hSw => by go_simp⟩) (by first | trivial | assumption) ?_
        simp only [Act.put, List.getElem_toArray, List.getElem_cons_zero, List.getElem_cons_succ, List.setIfInBounds_toArray, List.set_cons_zero, List.set_cons_succ]
        have hX1 := only_sets [.string G.m, .string G.t, .int .i64 G.c, .string G.r, .int .i64 G.n, .slice a5 L0.length c5, .string ⟨#[]⟩] 0 (only_refl W7.drew w.heap.size)
        have hQ1 : Blk (W7.drew.setCells w.heap.size 0 [.string G.m, .string G.t, .int .i64 G.c, .string G.r, .int .i64 G.n, .slice a5 L0.length c5, .string ⟨#[]⟩]) Q 26 [.string G.m, .string G.t, .int .i64 G.c, .string G.r, .int .i64 G.n, .slice a5 L0.length c5, .string ⟨#[]⟩] := hQ.drew.keep (hX1.block Q hQ.lt (fun e => absurd (Option.some.inj e) (by omega)))
        have hP1 : Blk (W7.drew.setCells w.heap.size 0 [.string G.m, .string G.t, .int .i64 G.c, .string G.r, .int .i64 G.n, .slice a5 L0.length c5, .string ⟨#[]⟩]) PP 28 [.int .i64 A1, .int .i64 A2] := hP.drew.keep (hX1.block PP hP.lt (fun e => hPne (Option.some.inj e)))
        have hT1 : Blk (W7.drew.setCells w.heap.size 0 [.string G.m, .string G.t, .int .i64 G.c, .string G.r, .int .i64 G.n, .slice a5 L0.length c5, .string ⟨#[]⟩]) (w.heap.size + 1) 28 [.int .i64 0, .int .i64 0] := hT.drew.keep (hX1.block _ hT.lt (by simp))
        have hM1 : Blk (W7.drew.setCells w.heap.size 0 [.string G.m, .string G.t, .int .i64 G.c, .string G.r, .int .i64 G.n, .slice a5 L0.length c5, .string ⟨#[]⟩]) w.heap.size 26 [.string G.m, .string G.t, .int .i64 G.c, .string G.r, .int .i64 G.n, .slice a5 L0.length c5, .string ⟨#[]⟩] := hM.drew.sets [.string G.m, .string G.t, .int .i64 G.c, .string G.r, .int .i64 G.n, .slice a5 L0.length c5, .string ⟨#[]⟩] 0 (show 0 + 7 ≤ 7 by decide)
        have hB1 : Below w.heap.size w (W7.drew.setCells w.heap.size 0 [.string G.m, .string G.t, .int .i64 G.c, .string G.r, .int .i64 G.n, .slice a5 L0.length c5, .string ⟨#[]⟩]) := hB.drew.trans (below_only hX1 (Nat.le_refl _) hB.size)
        have hF1 : FR (W7.drew.setCells w.heap.size 0 [.string G.m, .string G.t, .int .i64 G.c, .string G.r, .int .i64 G.n, .slice a5 L0.length c5, .string ⟨#[]⟩]) (.slice a5 L0.length c5) L0 := (hF5.below ((Below.refl _ W7).drew)).keep (Kf.only hX1 (by rw [hM.drew.ty]; decide))
        have hMth := hM.drew.there 0 7 (show 0 + 7 ≤ 7 by decide)
        refine wpAnyH_ready (rs := [3]) (by kernel_rfl) (by simp) ?_
        refine AllReadyH.cons (o := _) rfl (fun K hK => ?_) AllReadyH.nil
        rw [if_pos (by kernel_rfl)]
        refine wp_store_mid 26 (.tmp 4) (.tmp 56) rfl _ _ _ rfl rfl (hMth) (by kernel_rfl) (by simp [Value.oneCell']) ?_
        simp only [Act.put, List.getElem_toArray, List.getElem_cons_zero, List.getElem_cons_succ, List.setIfInBounds_toArray, List.set_cons_zero, List.set_cons_succ]
        refine hK.out _ _ (⟨hQ1, hP1⟩) (fun hHeld => ?_)
        clear hK K
        clear hX1 hMth
        generalize World.setCells _ _ _ _ = W8 at hHeld hQ1 hP1 hT1 hM1 hB1 hF1 ⊢
        have hX2 := only_sets [.int .i64 A1, .int .i64 A2] 0 (only_refl W8 (w.heap.size + 1))
        have hQ2 := hQ1.keep (hX2.block Q hQ1.lt (fun e => absurd (Option.some.inj e) (by omega)))
        have hP2 := hP1.keep (hX2.block PP hP1.lt (fun e => hPne1 (Option.some.inj e)))
        have hT2 := hT1.sets [.int .i64 A1, .int .i64 A2] 0 (show 0 + 2 ≤ 2 by decide)
        have hM2 := hM1.keep (hX2.block _ hM1.lt (by simp))
        have hB2 := hB1.trans (below_only hX2 (Nat.le_succ _) hB1.size)
        have hF2 := hF1.keep (Kf.only hX2 (by rw [hT1.ty]; decide))
        have hTth := hT1.there 0 2 (show 0 + 2 ≤ 2 by decide)
        refine wpAnyH_ready (rs := [4]) (by kernel_rfl) (by simp) ?_
        refine AllReadyH.cons (o := _) rfl (fun K hK => ?_) AllReadyH.nil
        rw [if_pos (by kernel_rfl)]
        refine wp_store_mid 28 (.tmp 5) (.tmp 57) rfl _ _ _ rfl rfl (hTth) (by kernel_rfl) (by simp [Value.oneCell']) ?_
        simp only [Act.put, List.getElem_toArray, List.getElem_cons_zero, List.getElem_cons_succ, List.setIfInBounds_toArray, List.set_cons_zero, List.set_cons_succ]
        refine hK.out _ _ (⟨hQ2, hP2⟩) (fun hHeld => ?_)
        clear hK K
        clear hX2 hTth
        generalize World.setCells _ _ _ _ = W9 at hHeld hQ2 hP2 hT2 hM2 hB2 hF2 ⊢
        refine wpAnyH_take (i := 5) (oi := _) (v := .int .i64 A3) rfl (by kernel_rfl) (by kernel_rfl) (by kernel_rfl) (fun _ _ _ h => h) (Or.inl ⟨by rfl, fun wS hSw => by go_simp⟩) (by first | trivial | assumption) ?_
        simp only [Act.put, List.getElem_toArray, List.getElem_cons_zero, List.getElem_cons_succ, List.setIfInBounds_toArray, List.set_cons_zero, List.set_cons_succ]
        refine wpAnyH_done (by kernel_rfl) ?_ _
        have m0 : W9.cell? ⟨w.heap.size, 0, none⟩ = some (.string G.m) := hM2.cell 0 _ rfl
        have m1 : W9.cell? ⟨w.heap.size, 1, none⟩ = some (.string G.t) := hM2.cell 1 _ rfl
        have m2 : W9.cell? ⟨w.heap.size, 2, none⟩ = some (.int .i64 G.c) := hM2.cell 2 _ rfl
        have m3 : W9.cell? ⟨w.heap.size, 3, none⟩ = some (.string G.r) := hM2.cell 3 _ rfl
        have m4 : W9.cell? ⟨w.heap.size, 4, none⟩ = some (.int .i64 G.n) := hM2.cell 4 _ rfl
        have m5 : W9.cell? ⟨w.heap.size, 5, none⟩ = some (.slice a5 L0.length c5) := hM2.cell 5 _ rfl
        have m6 : W9.cell? ⟨w.heap.size, 6, none⟩ = some (.string ⟨#[]⟩) := hM2.cell 6 _ rfl
        have t0 : W9.cell? ⟨w.heap.size + 1, 0, none⟩ = some (.int .i64 A1) := hT2.cell 0 _ rfl
        have t1 : W9.cell? ⟨w.heap.size + 1, 1, none⟩ = some (.int .i64 A2) := hT2.cell 1 _ rfl
        have HF2 := hide (And.intro hF2 hB2)
        clear hF2 hB2 hQ2 hP2 hM2 hT2 hHeld
        go_wp2_with fail
        refine bodyPost_ret (v := .tuple #[.agg #[.string G.m, .string G.t, .int .i64 G.c, .string G.r, .int .i64 G.n, .slice a5 L0.length c5, .string ⟨#[]⟩], .agg #[.int .i64 A1, .int .i64 A2], .int .i64 A3]) (by simp [results, Tryz.results63, go_sem, m0, m1, m2, m3, m4, m5, m6, t0, t1]) rfl ⟨⟨⟨G, L0, []⟩, a5, L0.length, c5, A1, A2, by rw [HV.out]; rfl, fun _ => by rw [HV.out]; exact ⟨rfl, rfl, rfl, HF2.out.1⟩⟩, HF2.out.2⟩
      · go_simp
        have hlN := hN0.lt
        have hlM := hM.lt
        have hlT := hT.lt
        have hlQ := hQ.lt
        have hP := Blk.new W5 28 [.int .i64 0, .int .i64 0]
        change Blk (W5.alloc (.cells #[.int .i64 0, .int .i64 0] 28)) _ _ _ at hP
        have hPne1 : W5.heap.size ≠ w.heap.size + 1 := by omega
        have hBA : Below W5.heap.size W5 (W5.alloc (.cells #[.int .i64 0, .int .i64 0] 28)) := (Below.refl _ W5).alloc (Nat.le_refl _) _
        have hNA := hN0.below hBA
        have hQA := hQ.below hBA
        have hFA := hF5.below hBA
        refine hK.out _ _ (by first|exact ⟨hNA, hQA⟩|exact ⟨hNA.drew, hQA.drew⟩) (fun hHeld => ?_)
        clear hK K
        refine wpAnyH_ready (rs := [5]) (by kernel_rfl) (by simp) ?_
        refine AllReadyH.cons (o := _) rfl (fun K hK => ?_) AllReadyH.nil
        go_simp
        refine (hlen _ _ (hFA.below ((Below.refl _ _).drew)).row).mono ?_
        rintro en w6 ⟨rfl, hb6⟩
        have hB6 := hBA.drew.trans (hb6.mono hBA.size)
        replace hB := hB.trans (hB6.mono hB.size)
        replace hM := hM.below hB6
        replace hT := hT.below hB6
        replace hN0 := hN0.below hB6
        replace hQ := hQ.below hB6
        replace hF5 := hF5.below hB6
        replace hP := hP.drew.below hb6
        refine hK.out _ _ (⟨hN0, hQ⟩) (fun hHeld => ?_)
        clear hK K
        clear hb6 hBA hNA hQA hFA hB6
        refine wpAnyH_take (i := 6) (oi := _) (v := .tuple #[.agg #[.int .i64 A1, .int .i64 A2], .int .i64 A3]) rfl (by kernel_rfl) (by kernel_rfl) (by kernel_rfl) (fun _ _ _ h => h) (Or.inl ⟨by rfl, fun wS hSw => by go_simp⟩) (by first | trivial | assumption) ?_
        simp only [Act.put, List.getElem_toArray, List.getElem_cons_zero, List.getElem_cons_succ, List.setIfInBounds_toArray, List.set_cons_zero, List.set_cons_succ]
        refine wpAnyH_take (i := 7) (oi := _) (v := .agg #[.int .i64 A1, .int .i64 A2]) rfl (by kernel_rfl) (by kernel_rfl) (by kernel_rfl) (fun _ _ _ h => h) (Or.inl ⟨by rfl, fun wS hSw => by go_simp⟩) (by first | trivial | assumption) ?_
        simp only [Act.put, List.getElem_toArray, List.getElem_cons_zero, List.getElem_cons_succ, List.setIfInBounds_toArray, List.set_cons_zero, List.set_cons_succ]
        refine wpAnyH_take (i := 8) (oi := _) (v := .int .i64 A3) rfl (by kernel_rfl) (by kernel_rfl) (by kernel_rfl) (fun _ _ _ h => h) (Or.inl ⟨by rfl, fun wS hSw => by go_simp⟩) (by first | trivial | assumption) ?_
        simp only [Act.put, List.getElem_toArray, List.getElem_cons_zero, List.getElem_cons_succ, List.setIfInBounds_toArray, List.set_cons_zero, List.set_cons_succ]
        have p0 : w6.cell? ⟨W5.heap.size, 0, none⟩ = some (.int .i64 0) := hP.cell 0 _ rfl
        have p1 : w6.cell? ⟨W5.heap.size, 1, none⟩ = some (.int .i64 0) := hP.cell 1 _ rfl
        have pf := hP.fz
        have hX : w6.grownBy ((w6.setCell ⟨W5.heap.size, 0, none⟩ (.int .i64 A1)).setCell ⟨W5.heap.size, 1, none⟩ (.int .i64 A2)) (some W5.heap.size) := only_set (only_set (only_refl _ _) 0 _) 1 _
        have hN1 : Blk ((w6.setCell ⟨W5.heap.size, 0, none⟩ (.int .i64 A1)).setCell ⟨W5.heap.size, 1, none⟩ (.int .i64 A2)) N 58 (r.gs v u) := hN0.keep (hX.block _ hN0.lt (fun e => absurd (Option.some.inj e) (by omega)))
        have hQ1 : Blk ((w6.setCell ⟨W5.heap.size, 0, none⟩ (.int .i64 A1)).setCell ⟨W5.heap.size, 1, none⟩ (.int .i64 A2)) Q 26 [.string G.m, .string G.t, .int .i64 G.c, .string G.r, .int .i64 G.n, .slice a5 L0.length c5, .string ⟨#[]⟩] := hQ.keep (hX.block _ hQ.lt (fun e => absurd (Option.some.inj e) (by omega)))
        refine wpAnyH_ready (rs := [10]) (by kernel_rfl) (by simp) ?_
        refine AllReadyH.cons (o := _) rfl (fun K hK => ?_) AllReadyH.nil
        go_simp
        refine hK.out _ _ (⟨hN1, hQ1⟩) (fun hHeld => ?_)
        clear hK K
        refine wpAnyH_take (i := 11) (oi := _) (v := .int .i64 A3) rfl (by kernel_rfl) (by kernel_rfl) (by kernel_rfl) (fun _ _ _ h => h) (Or.inl ⟨by rfl, fun wS hSw => by go_simp⟩) (by first | trivial | assumption) ?_
        simp only [Act.put, List.getElem_toArray, List.getElem_cons_zero, List.getElem_cons_succ, List.setIfInBounds_toArray, List.set_cons_zero, List.set_cons_succ]
        refine wpAnyH_done (by kernel_rfl) ?_ _
        clear p0 p1 pf
        replace hB : Below w.heap.size w ((w6.setCell ⟨W5.heap.size, 0, none⟩ (.int .i64 A1)).setCell ⟨W5.heap.size, 1, none⟩ (.int .i64 A2)) := hB.trans (below_only hX (by omega) hB.size)
        replace hF5 : FR ((w6.setCell ⟨W5.heap.size, 0, none⟩ (.int .i64 A1)).setCell ⟨W5.heap.size, 1, none⟩ (.int .i64 A2)) (.slice a5 L0.length c5) L0 := hF5.keep (Kf.only hX (by rw [hP.ty]; decide))
        replace hM := hM.keep (hX.block _ hM.lt (fun e => absurd (Option.some.inj e) (by omega)))
        replace hT := hT.keep (hX.block _ hT.lt (fun e => absurd (Option.some.inj e) (by omega)))
        replace hP : Blk ((w6.setCell ⟨W5.heap.size, 0, none⟩ (.int .i64 A1)).setCell ⟨W5.heap.size, 1, none⟩ (.int .i64 A2)) W5.heap.size 28 [.int .i64 A1, .int .i64 A2] := hP.sets [.int .i64 A1, .int .i64 A2] 0 (show 0 + 2 ≤ 2 by decide)
        clear hQ hX hN1 hlN hlM hlT hlQ
        have hQ := hQ1
        clear hQ1
        generalize World.setCell _ _ _ = W7 at hB hM hT hQ hP hF5 ⊢
        generalize W5.heap.size = PP at hP hPne1 ⊢
        have hPne : PP ≠ w.heap.size := by rintro rfl; have := hM.ty.symm.trans hP.ty; exact absurd this (by decide)
        clear hHeld hN0
        go_wp2_with fail
        refine wp_region_held_drew (S := (fun w' => Blk w' Q 26 [.string G.m, .string G.t, .int .i64 G.c, .string G.r, .int .i64 G.n, .slice a5 L0.length c5, .string ⟨#[]⟩] ∧ Blk w' PP 28 [.int .i64 A1, .int .i64 A2])) (by kernel_rfl) (⟨hQ.drew, hP.drew⟩) (fun hHeld => ?_)
        refine wpAnyH_take (i := 0) (oi := _) (v := .agg #[.string G.m, .string G.t, .int .i64 G.c, .string G.r, .int .i64 G.n, .slice a5 L0.length c5, .string ⟨#[]⟩]) rfl (by kernel_rfl) (by kernel_rfl) (by kernel_rfl) (fun _ _ _ h => h) (yieldsIf_load_mid (by kernel_rfl) 26 (.tmp 13) rfl Q 0 rfl _ _ (fun _ hS => Blk.range (hS.1) 0 7) Tryz.underlying26 rfl (by kernel_rfl)) (by first | trivial | assumption) ?_
        simp only [Act.put, List.getElem_toArray, List.getElem_cons_zero, List.getElem_cons_succ, List.setIfInBounds_toArray, List.set_cons_zero, List.set_cons_succ]
        refine wpAnyH_take (i := 1) (oi := _) (v := .agg #[.int .i64 A1, .int .i64 A2]) rfl (by kernel_rfl) (by kernel_rfl) (by kernel_rfl) (fun _ _ _ h => h) (yieldsIf_load_mid (by kernel_rfl) 28 (.tmp 14) rfl PP 0 rfl _ _ (fun _ hS => Blk.range (hS.2) 0 2) Tryz.underlying28 rfl (by kernel_rfl)) (by first | trivial | assumption) ?_
        simp only [Act.put, List.getElem_toArray, List.getElem_cons_zero, List.getElem_cons_succ, List.setIfInBounds_toArray, List.set_cons_zero, List.set_cons_succ]
        refine wpAnyH_take (i := 2) (oi := _) (v := .int .i64 A3) rfl (by kernel_rfl) (by kernel_rfl) (by kernel_rfl) (fun _ _ _ h => h) (Or.inl ⟨by rfl, fun wS hSw => by go_simp⟩) (by first | trivial | assumption) ?_
        simp only [Act.put, List.getElem_toArray, List.getElem_cons_zero, List.getElem_cons_succ, List.setIfInBounds_toArray, List.set_cons_zero, List.set_cons_succ]
        have hX1 := only_sets [.string G.m, .string G.t, .int .i64 G.c, .string G.r, .int .i64 G.n, .slice a5 L0.length c5, .string ⟨#[]⟩] 0 (only_refl W7.drew w.heap.size)
        have hQ1 : Blk (W7.drew.setCells w.heap.size 0 [.string G.m, .string G.t, .int .i64 G.c, .string G.r, .int .i64 G.n, .slice a5 L0.length c5, .string ⟨#[]⟩]) Q 26 [.string G.m, .string G.t, .int .i64 G.c, .string G.r, .int .i64 G.n, .slice a5 L0.length c5, .string ⟨#[]⟩] := hQ.drew.keep (hX1.block Q hQ.lt (fun e => absurd (Option.some.inj e) (by omega)))
        have hP1 : Blk (W7.drew.setCells w.heap.size 0 [.string G.m, .string G.t, .int .i64 G.c, .string G.r, .int .i64 G.n, .slice a5 L0.length c5, .string ⟨#[]⟩]) PP 28 [.int .i64 A1, .int .i64 A2] := hP.drew.keep (hX1.block PP hP.lt (fun e => hPne (Option.some.inj e)))
        have hT1 : Blk (W7.drew.setCells w.heap.size 0 [.string G.m, .string G.t, .int .i64 G.c, .string G.r, .int .i64 G.n, .slice a5 L0.length c5, .string ⟨#[]⟩]) (w.heap.size + 1) 28 [.int .i64 0, .int .i64 0] := hT.drew.keep (hX1.block _ hT.lt (by simp))
        have hM1 : Blk (W7.drew.setCells w.heap.size 0 [.string G.m, .string G.t, .int .i64 G.c, .string G.r, .int .i64 G.n, .slice a5 L0.length c5, .string ⟨#[]⟩]) w.heap.size 26 [.string G.m, .string G.t, .int .i64 G.c, .string G.r, .int .i64 G.n, .slice a5 L0.length c5, .string ⟨#[]⟩] := hM.drew.sets [.string G.m, .string G.t, .int .i64 G.c, .string G.r, .int .i64 G.n, .slice a5 L0.length c5, .string ⟨#[]⟩] 0 (show 0 + 7 ≤ 7 by decide)
        have hB1 : Below w.heap.size w (W7.drew.setCells w.heap.size 0 [.string G.m, .string G.t, .int .i64 G.c, .string G.r, .int .i64 G.n, .slice a5 L0.length c5, .string ⟨#[]⟩]) := hB.drew.trans (below_only hX1 (Nat.le_refl _) hB.size)
        have hF1 : FR (W7.drew.setCells w.heap.size 0 [.string G.m, .string G.t, .int .i64 G.c, .string G.r, .int .i64 G.n, .slice a5 L0.length c5, .string ⟨#[]⟩]) (.slice a5 L0.length c5) L0 := (hF5.below ((Below.refl _ W7).drew)).keep (Kf.only hX1 (by rw [hM.drew.ty]; decide))
        have hMth := hM.drew.there 0 7 (show 0 + 7 ≤ 7 by decide)
        refine wpAnyH_ready (rs := [3]) (by kernel_rfl) (by simp) ?_
        refine AllReadyH.cons (o := _) rfl (fun K hK => ?_) AllReadyH.nil
        rw [if_pos (by kernel_rfl)]
        refine wp_store_mid 26 (.tmp 4) (.tmp 56) rfl _ _ _ rfl rfl (hMth) (by kernel_rfl) (by simp [Value.oneCell']) ?_
        simp only [Act.put, List.getElem_toArray, List.getElem_cons_zero, List.getElem_cons_succ, List.setIfInBounds_toArray, List.set_cons_zero, List.set_cons_succ]
        refine hK.out _ _ (⟨hQ1, hP1⟩) (fun hHeld => ?_)
        clear hK K
        clear hX1 hMth
        generalize World.setCells _ _ _ _ = W8 at hHeld hQ1 hP1 hT1 hM1 hB1 hF1 ⊢
        have hX2 := only_sets [.int .i64 A1, .int .i64 A2] 0 (only_refl W8 (w.heap.size + 1))
        have hQ2 := hQ1.keep (hX2.block Q hQ1.lt (fun e => absurd (Option.some.inj e) (by omega)))
        have hP2 := hP1.keep (hX2.block PP hP1.lt (fun e => hPne1 (Option.some.inj e)))
        have hT2 := hT1.sets [.int .i64 A1, .int .i64 A2] 0 (show 0 + 2 ≤ 2 by decide)
        have hM2 := hM1.keep (hX2.block _ hM1.lt (by simp))
        have hB2 := hB1.trans (below_only hX2 (Nat.le_succ _) hB1.size)
        have hF2 := hF1.keep (Kf.only hX2 (by rw [hT1.ty]; decide))
        have hTth := hT1.there 0 2 (show 0 + 2 ≤ 2 by decide)
        refine wpAnyH_ready (rs := [4]) (by kernel_rfl) (by simp) ?_
        refine AllReadyH.cons (o := _) rfl (fun K hK => ?_) AllReadyH.nil
        rw [if_pos (by kernel_rfl)]
        refine wp_store_mid 28 (.tmp 5) (.tmp 57) rfl _ _ _ rfl rfl (hTth) (by kernel_rfl) (by simp [Value.oneCell']) ?_
        simp only [Act.put, List.getElem_toArray, List.getElem_cons_zero, List.getElem_cons_succ, List.setIfInBounds_toArray, List.set_cons_zero, List.set_cons_succ]
        refine hK.out _ _ (⟨hQ2, hP2⟩) (fun hHeld => ?_)
        clear hK K
        clear hX2 hTth
        generalize World.setCells _ _ _ _ = W9 at hHeld hQ2 hP2 hT2 hM2 hB2 hF2 ⊢
        refine wpAnyH_take (i := 5) (oi := _) (v := .int .i64 A3) rfl (by kernel_rfl) (by kernel_rfl) (by kernel_rfl) (fun _ _ _ h => h) (Or.inl ⟨by rfl, fun wS hSw => by go_simp⟩) (by first | trivial | assumption) ?_
        simp only [Act.put, List.getElem_toArray, List.getElem_cons_zero, List.getElem_cons_succ, List.setIfInBounds_toArray, List.set_cons_zero, List.set_cons_succ]
        refine wpAnyH_done (by kernel_rfl) ?_ _
        have m0 : W9.cell? ⟨w.heap.size, 0, none⟩ = some (.string G.m) := hM2.cell 0 _ rfl
        have m1 : W9.cell? ⟨w.heap.size, 1, none⟩ = some (.string G.t) := hM2.cell 1 _ rfl
        have m2 : W9.cell? ⟨w.heap.size, 2, none⟩ = some (.int .i64 G.c) := hM2.cell 2 _ rfl
        have m3 : W9.cell? ⟨w.heap.size, 3, none⟩ = some (.string G.r) := hM2.cell 3 _ rfl
        have m4 : W9.cell? ⟨w.heap.size, 4, none⟩ = some (.int .i64 G.n) := hM2.cell 4 _ rfl
        have m5 : W9.cell? ⟨w.heap.size, 5, none⟩ = some (.slice a5 L0.length c5) := hM2.cell 5 _ rfl
        have m6 : W9.cell? ⟨w.heap.size, 6, none⟩ = some (.string ⟨#[]⟩) := hM2.cell 6 _ rfl
        have t0 : W9.cell? ⟨w.heap.size + 1, 0, none⟩ = some (.int .i64 A1) := hT2.cell 0 _ rfl
        have t1 : W9.cell? ⟨w.heap.size + 1, 1, none⟩ = some (.int .i64 A2) := hT2.cell 1 _ rfl
        have HF2 := hide (And.intro hF2 hB2)
        clear hF2 hB2 hQ2 hP2 hM2 hT2 hHeld
        go_wp2_with fail
        refine bodyPost_ret (v := .tuple #[.agg #[.string G.m, .string G.t, .int .i64 G.c, .string G.r, .int .i64 G.n, .slice a5 L0.length c5, .string ⟨#[]⟩], .agg #[.int .i64 A1, .int .i64 A2], .int .i64 A3]) (by simp [results, Tryz.results63, go_sem, m0, m1, m2, m3, m4, m5, m6, t0, t1]) rfl ⟨⟨⟨G, L0, []⟩, a5, L0.length, c5, A1, A2, by rw [HV.out]; rfl, fun _ => by rw [HV.out]; exact ⟨rfl, rfl, rfl, HF2.out.1⟩⟩, HF2.out.2⟩
    · have hV := hh_rest (t := r.t) h1 h2
      have HV : Hid ((hhF r.a r.t s).e = (Hd.psU (resL s)).2) := by unfold Hid; rw [hV]
      have hpe := hpa.2.2.1 h2
      rw [hpe] at hpr
      obtain ⟨G, hG⟩ : ∃ G, fiU r.a (firL s) = G := ⟨_, rfl⟩
      rw [hG] at hfi
      obtain ⟨E, hE⟩ : ∃ E, (Hd.psU (resL s)).2 = E := ⟨_, rfl⟩
      rw [hE] at hpr h2 HV
      have h2b : (E != 0) = true := by simpa using h2
      unfold St.v at hfi
      clear hV e1 e2 h1 hpa hfl hrl hs h hsh hpe hG hE
      go_enter Tryz.func63, Tryz.ntmps63
      go_wp2_with fail
      generalize World.alloc (World.alloc _ _) _ = W0 at hB hN0 hM hT ⊢
      refine (hcut _).mono ?_
      rintro en w1 ⟨rfl, n1, rfl⟩
      have D1 := Ck.below_drewN W0 n1
      replace hB := hB.trans (D1.mono hB.size)
      replace hN0 := hN0.below D1
      replace hM := hM.below D1
      replace hT := hT.below D1
      clear D1
      generalize W0.drewN n1 = W1 at hB hN0 hM hT ⊢
      go_wp2_with fail
      refine (htf _).mono ?_
      rintro en w2 ⟨rfl, rfl⟩
      go_wp2_with fail
      refine (hfi _ hN0).mono ?_
      rintro en w3 ⟨rfl, hb3⟩
      replace hB := hB.trans (hb3.mono hB.size)
      replace hN0 := hN0.below hb3
      replace hM := hM.below hb3
      replace hT := hT.below hb3
      clear hb3
  
      go_upto_region 5 with fail
      replace hB := hB.alloc hB.size (.cells #[.string G.m, .string G.t, .int .i64 G.c, .string G.r, .int .i64 G.n] 23)
      replace hM := hM.alloc (.cells #[.string G.m, .string G.t, .int .i64 G.c, .string G.r, .int .i64 G.n] 23)
      replace hT := hT.alloc (.cells #[.string G.m, .string G.t, .int .i64 G.c, .string G.r, .int .i64 G.n] 23)
      replace hN0 := hN0.alloc (.cells #[.string G.m, .string G.t, .int .i64 G.c, .string G.r, .int .i64 G.n] 23)
      have hG := Blk.new w3 23 [.string G.m, .string G.t, .int .i64 G.c, .string G.r, .int .i64 G.n]
      change Blk (w3.alloc (.cells #[.string G.m, .string G.t, .int .i64 G.c, .string G.r, .int .i64 G.n] 23)) _ _ _ at hG
      generalize World.alloc w3 _ = W3 at hB hM hT hN0 hG ⊢
      generalize w3.heap.size = S3 at hG ⊢
      go_wp2_with fail
      refine (hcr _).mono ?_
      rintro en w4 ⟨rfl, rfl⟩
      go_wp2_with fail
      refine (hpr _).mono ?_
      rintro en W4 ⟨v5, rfl, ho5, hb5⟩
      replace hB := hB.trans (hb5.mono hB.size)
      replace hM := hM.below hb5
      replace hT := hT.below hb5
      replace hN0 := hN0.below hb5
      replace hG := hG.below hb5
      clear hb5 ho5 hN0 hG
      have m0 : W4.cell? ⟨w.heap.size, 0, none⟩ = some (.string ⟨#[]⟩) := hM.cell 0 _ rfl
      have m1 : W4.cell? ⟨w.heap.size, 1, none⟩ = some (.string ⟨#[]⟩) := hM.cell 1 _ rfl
      have m2 : W4.cell? ⟨w.heap.size, 2, none⟩ = some (.int .i64 0) := hM.cell 2 _ rfl
      have m3 : W4.cell? ⟨w.heap.size, 3, none⟩ = some (.string ⟨#[]⟩) := hM.cell 3 _ rfl
      have m4 : W4.cell? ⟨w.heap.size, 4, none⟩ = some (.int .i64 0) := hM.cell 4 _ rfl
      have m5 : W4.cell? ⟨w.heap.size, 5, none⟩ = some (.slice none 0 0) := hM.cell 5 _ rfl
      have m6 : W4.cell? ⟨w.heap.size, 6, none⟩ = some (.string ⟨#[]⟩) := hM.cell 6 _ rfl
      have mf := hM.fz
      have t0 : W4.cell? ⟨w.heap.size + 1, 0, none⟩ = some (.int .i64 0) := hT.cell 0 _ rfl
      have t1 : W4.cell? ⟨w.heap.size + 1, 1, none⟩ = some (.int .i64 0) := hT.cell 1 _ rfl
      have tf := hT.fz
      go_wp2_with fail
      change bodyPost _ _ _ _ _ (putM W4 w.heap.size Ms.no (.slice none 0 0) 0 0)
      obtain ⟨x1, x2⟩ := putM_is hM hT Ms.no (.slice none 0 0) 0 0
      have x3 := putM_below hB (Nat.le_refl _) hB.size Ms.no (.slice none 0 0) 0 0
      clear m0 m1 m2 m3 m4 m5 m6 mf t0 t1 tf
      generalize putM _ _ _ _ _ _ = W5 at x1 x2 x3 ⊢
      have m0 : W5.cell? ⟨w.heap.size, 0, none⟩ = some (.string ⟨#[]⟩) := x1.cell 0 _ rfl
      have m1 : W5.cell? ⟨w.heap.size, 1, none⟩ = some (.string ⟨#[]⟩) := x1.cell 1 _ rfl
      have m2 : W5.cell? ⟨w.heap.size, 2, none⟩ = some (.int .i64 0) := x1.cell 2 _ rfl
      have m3 : W5.cell? ⟨w.heap.size, 3, none⟩ = some (.string ⟨#[]⟩) := x1.cell 3 _ rfl
      have m4 : W5.cell? ⟨w.heap.size, 4, none⟩ = some (.int .i64 0) := x1.cell 4 _ rfl
      have m5 : W5.cell? ⟨w.heap.size, 5, none⟩ = some (.slice none 0 0) := x1.cell 5 _ rfl
      have m6 : W5.cell? ⟨w.heap.size, 6, none⟩ = some (.string ⟨#[]⟩) := x1.cell 6 _ rfl
      have t0 : W5.cell? ⟨w.heap.size + 1, 0, none⟩ = some (.int .i64 0) := x2.cell 0 _ rfl
      have t1 : W5.cell? ⟨w.heap.size + 1, 1, none⟩ = some (.int .i64 0) := x2.cell 1 _ rfl
      refine bodyPost_ret (v := .tuple #[.agg #[.string ⟨#[]⟩, .string ⟨#[]⟩, .int .i64 0, .string ⟨#[]⟩, .int .i64 0, .slice none 0 0, .string ⟨#[]⟩], .agg #[.int .i64 0, .int .i64 0], .int .i64 E]) (by simp [results, Tryz.results63, go_sem, m0, m1, m2, m3, m4, m5, m6, t0, t1]) rfl ⟨hp_bad HV h2, x3⟩

end Go.Proofs.YtmpijlaidnhpnaaGreat
