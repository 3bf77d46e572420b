/- The walks of Close and New. -/
import Derived.Test.YtmpijlaidnhpnaaGreatJXp
namespace Go.Proofs.YtmpijlaidnhpnaaGreat
set_option linter.unusedVariables false
set_option linter.unusedSimpArgs false
set_option maxRecDepth 100000
open Go.RowKit

theorem results_new {W : World} {M : Nat} {cs : List Value} {T : Array Value} (h : Blk W M 33 cs) (hl : cs.length = 18) (h4 : T[4]? = some (.pointer (some ⟨M, 0, none⟩))) :
    (results Tryz.f8 T).run Tryz.prog W = .ok (.agg cs.toArray) W := by
  have hld := run_loadVar_mid (P := Tryz.prog) W M 0 33 cs _ (by have := h.range 0 18; rwa [List.drop_zero, List.take_of_length_le (by omega)] at this) Tryz.underlying33 rfl (by rw [hl]; kernel_rfl)
  simp [results, Tryz.results8, h4, hld, asAddr]
theorem new_any (a : Bool) (t : ByteArray) (w : World) :
    Calls Tryz.prog 8 #[.bool a, .string t] w fun en w' => en = .returned ((fresh a t []).v (.slice none 0 0)) ∧ Below w.heap.size w w' := by
  have hZ := Blk.new w 33 [.bool false, .string ⟨#[]⟩, .string ⟨#[]⟩, .bool false, .string ⟨#[]⟩, .string ⟨#[]⟩, .int .i64 0, .string ⟨#[]⟩, .int .i64 0, .slice none 0 0, .string ⟨#[]⟩, .int .i64 0, .int .i64 0, .int .i64 0, .string ⟨#[]⟩, .int .i64 0, .int .i64 0, .int .i64 0]
  change Blk (w.alloc (.cells #[.bool false, .string ⟨#[]⟩, .string ⟨#[]⟩, .bool false, .string ⟨#[]⟩, .string ⟨#[]⟩, .int .i64 0, .string ⟨#[]⟩, .int .i64 0, .slice none 0 0, .string ⟨#[]⟩, .int .i64 0, .int .i64 0, .int .i64 0, .string ⟨#[]⟩, .int .i64 0, .int .i64 0, .int .i64 0] 33)) _ _ _ at hZ
  have hB : Below w.heap.size w (w.alloc (.cells #[.bool false, .string ⟨#[]⟩, .string ⟨#[]⟩, .bool false, .string ⟨#[]⟩, .string ⟨#[]⟩, .int .i64 0, .string ⟨#[]⟩, .int .i64 0, .slice none 0 0, .string ⟨#[]⟩, .int .i64 0, .int .i64 0, .int .i64 0, .string ⟨#[]⟩, .int .i64 0, .int .i64 0, .int .i64 0] 33)) := (Below.refl _ _).alloc (Nat.le_refl _) _
  have hth := hZ.there 0 18 (show 0 + 18 ≤ 18 by decide)
  have hZ2 := hZ.sets [.bool a, .string t, .string ⟨#[]⟩, .bool false, .string ⟨#[]⟩, .string ⟨#[]⟩, .int .i64 0, .string ⟨#[]⟩, .int .i64 0, .slice none 0 0, .string ⟨#[]⟩, .int .i64 0, .int .i64 0, .int .i64 0, .string ⟨#[]⟩, .int .i64 0, .int .i64 0, .int .i64 0] 0 (show 0 + 18 ≤ 18 by decide)
  have e1 : sets [.bool false, .string ⟨#[]⟩, .string ⟨#[]⟩, .bool false, .string ⟨#[]⟩, .string ⟨#[]⟩, .int .i64 0, .string ⟨#[]⟩, .int .i64 0, .slice none 0 0, .string ⟨#[]⟩, .int .i64 0, .int .i64 0, .int .i64 0, .string ⟨#[]⟩, .int .i64 0, .int .i64 0, .int .i64 0] 0 [.bool a, .string t, .string ⟨#[]⟩, .bool false, .string ⟨#[]⟩, .string ⟨#[]⟩, .int .i64 0, .string ⟨#[]⟩, .int .i64 0, .slice none 0 0, .string ⟨#[]⟩, .int .i64 0, .int .i64 0, .int .i64 0, .string ⟨#[]⟩, .int .i64 0, .int .i64 0, .int .i64 0] = (fresh a t []).cs (.slice none 0 0) := by kernel_rfl
  rw [e1] at hZ2
  have hO := only_sets [.bool a, .string t, .string ⟨#[]⟩, .bool false, .string ⟨#[]⟩, .string ⟨#[]⟩, .int .i64 0, .string ⟨#[]⟩, .int .i64 0, .slice none 0 0, .string ⟨#[]⟩, .int .i64 0, .int .i64 0, .int .i64 0, .string ⟨#[]⟩, .int .i64 0, .int .i64 0, .int .i64 0] 0 (only_refl (w.alloc (.cells #[.bool false, .string ⟨#[]⟩, .string ⟨#[]⟩, .bool false, .string ⟨#[]⟩, .string ⟨#[]⟩, .int .i64 0, .string ⟨#[]⟩, .int .i64 0, .slice none 0 0, .string ⟨#[]⟩, .int .i64 0, .int .i64 0, .int .i64 0, .string ⟨#[]⟩, .int .i64 0, .int .i64 0, .int .i64 0] 33)) w.heap.size)
  have hB2 := hB.trans (below_only hO (Nat.le_refl _) hB.size)
  have HX := hide (And.intro hZ2 hB2)
  clear hZ hB hZ2 e1 hO hB2
  go_enter Tryz.func8, Tryz.ntmps8
  go_wp2_with (first | (refine wpList_build_is rfl 33 _ rfl #[.bool a, .string t, .string ⟨#[]⟩, .bool false, .string ⟨#[]⟩, .string ⟨#[]⟩, .int .i64 0, .string ⟨#[]⟩, .int .i64 0, .slice none 0 0, .string ⟨#[]⟩, .int .i64 0, .int .i64 0, .int .i64 0, .string ⟨#[]⟩, .int .i64 0, .int .i64 0, .int .i64 0] (by kernel_rfl) ?_) | (refine wpList_store_mid rfl 33 (.tmp 4) (.tmp 7) rfl _ _ _ rfl rfl hth (by kernel_rfl) (by simp [Value.oneCell']) ?_))
  obtain ⟨hZ2, hB2⟩ := HX.out
  exact bodyPost_ret (results_new hZ2 rfl rfl) rfl ⟨rfl, hB2⟩

/-- What Close tells. -/
def clE (r : Rr) : Int := if rgB r = false then 1 else if r.e ≠ 0 then r.e else if r.i = true ∧ r.k = 3 then 0 else if r.i = true ∨ r.buf ≠ [] then 3 else 0
def clO (r : Rr) : List Ms := if rgB r = true ∧ r.e = 0 ∧ r.i = true ∧ r.k = 3 then [r.m] else []

set_option maxHeartbeats 16000000 in
theorem close_any (r : Rr) (v : Value) (w : World) (hr : Row w v r.m.L) (hs : Short r.m.s) (hl : r.m.L.length ≤ 50) (hS : Sh r.m.L) (hb : r.m.b.length ≤ 1000000) (hc : r.c.line.size ≤ 1000000) (hbu : r.buf.length ≤ 1000000) :
    Calls Tryz.prog 13 #[r.v v] w fun en w' => (∃ u l, en = .returned (.tuple #[u, .int .i64 (clE r)]) ∧ MR w' w.heap.size u l ∧ l.map Prod.fst = clO r) ∧ Below w.heap.size w w' := by
  have hw := fun W hW => wright_any r v W hW hs hl hS hb hc hbu
  obtain ⟨va, vc, rfl⟩ := hr.slice
  have hcp := fun W hW => copied_any r.m (.slice va r.m.L.length vc) W hW (by omega)
  have hX : Blk (w.alloc (.cells #[.bool r.a, .string r.t, .string (Ck.bs r.buf), .bool r.i, .string r.m.s.m, .string r.m.s.t, .int .i64 r.m.s.c, .string r.m.s.r, .int .i64 r.m.s.n, .slice va r.m.L.length vc, .string (Ck.bs r.m.b), .int .i64 r.k, .int .i64 r.z, .int .i64 r.c.st, .string r.c.line, .int .i64 r.c.left, .int .i64 r.c.size, .int .i64 r.e] 33)) w.heap.size 33 (r.cs (.slice va r.m.L.length vc)) := Blk.new w 33 (r.cs (.slice va r.m.L.length vc))
  have hB : Below w.heap.size w (w.alloc (.cells #[.bool r.a, .string r.t, .string (Ck.bs r.buf), .bool r.i, .string r.m.s.m, .string r.m.s.t, .int .i64 r.m.s.c, .string r.m.s.r, .int .i64 r.m.s.n, .slice va r.m.L.length vc, .string (Ck.bs r.m.b), .int .i64 r.k, .int .i64 r.z, .int .i64 r.c.st, .string r.c.line, .int .i64 r.c.left, .int .i64 r.c.size, .int .i64 r.e] 33)) := (Below.refl _ _).alloc (Nat.le_refl _) _
  have hQ := hide (hr.below hB)
  have hbe : (Ck.bs r.buf).toList.isEmpty = decide (r.buf = []) := by rw [ByteArray.toList_eq, Ck.bs_list]; cases r.buf <;> rfl
  unfold Rr.v at hw ⊢
  unfold Ms.v at hcp
  clear hr hs hl hS hb hc hbu
  cases hR : rgB r
  · have HV : Hid (clE r = 1 ∧ clO r = []) := ⟨by unfold clE; rw [if_pos hR], by unfold clO; rw [if_neg (by rw [hR]; rintro ⟨h, -⟩; exact absurd h (by decide))]⟩
    rw [hR] at hw
    clear hR
    go_enter Tryz.func13, Tryz.ntmps13
    go_upto_region 1 with fail
    generalize World.alloc _ _ = W1 at hX hB hQ ⊢
    go_wp2_with (refine wpList_load_mid rfl 33 (.tmp 1) rfl w.heap.size 0 rfl [.bool r.a, .string r.t, .string (Ck.bs r.buf), .bool r.i, .string r.m.s.m, .string r.m.s.t, .int .i64 r.m.s.c, .string r.m.s.r, .int .i64 r.m.s.n, .slice va r.m.L.length vc, .string (Ck.bs r.m.b), .int .i64 r.k, .int .i64 r.z, .int .i64 r.c.st, .string r.c.line, .int .i64 r.c.left, .int .i64 r.c.size, .int .i64 r.e] _ (hX.range 0 18) Tryz.underlying33 rfl (by kernel_rfl) ?_)
    refine (hw _ hQ.out).mono ?_
    rintro en w1 ⟨rfl, hb1⟩
    replace hX := hX.below hb1
    replace hB := hB.trans (hb1.mono hB.size)
    have hQ1 := hide (hQ.out.below hb1)
    have c17 : w1.cell? ⟨w.heap.size, 17, none⟩ = some (.int .i64 r.e) := hX.cell 17 _ rfl
    have c3 : w1.cell? ⟨w.heap.size, 3, none⟩ = some (.bool r.i) := hX.cell 3 _ rfl
    have c11 : w1.cell? ⟨w.heap.size, 11, none⟩ = some (.int .i64 r.k) := hX.cell 11 _ rfl
    have c2 : w1.cell? ⟨w.heap.size, 2, none⟩ = some (.string (Ck.bs r.buf)) := hX.cell 2 _ rfl
    go_wp2_with fail
    go_ret2
    exact ⟨⟨.slice none 0 0, [], by rw [HV.out.1]; rfl, MR.nil _ _, HV.out.2.symm⟩, hB⟩
  · rw [hR] at hw
    by_cases he : r.e = 0
    · rcases (show r.i = false ∨ r.i = true by cases r.i <;> simp) with hi | hi
      · cases hbb : decide (r.buf = [])
        · have HV : Hid (clE r = 3 ∧ clO r = []) := ⟨by unfold clE; rw [if_neg (by rw [hR]; decide), if_neg (not_not_intro he), if_neg (by rw [hi]; rintro ⟨h, -⟩; exact absurd h (by decide)), if_pos (Or.inr (of_decide_eq_false hbb))], by unfold clO; rw [if_neg (by rw [hi]; rintro ⟨-, -, h, -⟩; exact absurd h (by decide))]⟩
          rw [hbb] at hbe
          have HI := hide hi
          have HE := hide he
          clear hbb hR hi he
          go_enter Tryz.func13, Tryz.ntmps13
          go_upto_region 1 with fail
          generalize World.alloc _ _ = W1 at hX hB hQ ⊢
          go_wp2_with (refine wpList_load_mid rfl 33 (.tmp 1) rfl w.heap.size 0 rfl [.bool r.a, .string r.t, .string (Ck.bs r.buf), .bool r.i, .string r.m.s.m, .string r.m.s.t, .int .i64 r.m.s.c, .string r.m.s.r, .int .i64 r.m.s.n, .slice va r.m.L.length vc, .string (Ck.bs r.m.b), .int .i64 r.k, .int .i64 r.z, .int .i64 r.c.st, .string r.c.line, .int .i64 r.c.left, .int .i64 r.c.size, .int .i64 r.e] _ (hX.range 0 18) Tryz.underlying33 rfl (by kernel_rfl) ?_)
          refine (hw _ hQ.out).mono ?_
          rintro en w1 ⟨rfl, hb1⟩
          replace hX := hX.below hb1
          replace hB := hB.trans (hb1.mono hB.size)
          have hQ1 := hide (hQ.out.below hb1)
          have c17 : w1.cell? ⟨w.heap.size, 17, none⟩ = some (.int .i64 r.e) := hX.cell 17 _ rfl
          have c3 : w1.cell? ⟨w.heap.size, 3, none⟩ = some (.bool r.i) := hX.cell 3 _ rfl
          have c11 : w1.cell? ⟨w.heap.size, 11, none⟩ = some (.int .i64 r.k) := hX.cell 11 _ rfl
          have c2 : w1.cell? ⟨w.heap.size, 2, none⟩ = some (.string (Ck.bs r.buf)) := hX.cell 2 _ rfl
          rw [HI.out] at c3
          rw [HE.out] at c17
          go_wp2_with fail
          go_ret2
          exact ⟨⟨.slice none 0 0, [], by rw [HV.out.1]; rfl, MR.nil _ _, HV.out.2.symm⟩, hB⟩
        · have HV : Hid (clE r = 0 ∧ clO r = []) := ⟨by unfold clE; rw [if_neg (by rw [hR]; decide), if_neg (not_not_intro he), if_neg (by rw [hi]; rintro ⟨h, -⟩; exact absurd h (by decide)), if_neg (by rw [hi]; rintro (h | h); exact absurd h (by decide); exact h (of_decide_eq_true hbb))], by unfold clO; rw [if_neg (by rw [hi]; rintro ⟨-, -, h, -⟩; exact absurd h (by decide))]⟩
          rw [hbb] at hbe
          have HI := hide hi
          have HE := hide he
          clear hbb hR hi he
          go_enter Tryz.func13, Tryz.ntmps13
          go_upto_region 1 with fail
          generalize World.alloc _ _ = W1 at hX hB hQ ⊢
          go_wp2_with (refine wpList_load_mid rfl 33 (.tmp 1) rfl w.heap.size 0 rfl [.bool r.a, .string r.t, .string (Ck.bs r.buf), .bool r.i, .string r.m.s.m, .string r.m.s.t, .int .i64 r.m.s.c, .string r.m.s.r, .int .i64 r.m.s.n, .slice va r.m.L.length vc, .string (Ck.bs r.m.b), .int .i64 r.k, .int .i64 r.z, .int .i64 r.c.st, .string r.c.line, .int .i64 r.c.left, .int .i64 r.c.size, .int .i64 r.e] _ (hX.range 0 18) Tryz.underlying33 rfl (by kernel_rfl) ?_)
          refine (hw _ hQ.out).mono ?_
          rintro en w1 ⟨rfl, hb1⟩
          replace hX := hX.below hb1
          replace hB := hB.trans (hb1.mono hB.size)
          have hQ1 := hide (hQ.out.below hb1)
          have c17 : w1.cell? ⟨w.heap.size, 17, none⟩ = some (.int .i64 r.e) := hX.cell 17 _ rfl
          have c3 : w1.cell? ⟨w.heap.size, 3, none⟩ = some (.bool r.i) := hX.cell 3 _ rfl
          have c11 : w1.cell? ⟨w.heap.size, 11, none⟩ = some (.int .i64 r.k) := hX.cell 11 _ rfl
          have c2 : w1.cell? ⟨w.heap.size, 2, none⟩ = some (.string (Ck.bs r.buf)) := hX.cell 2 _ rfl
          rw [HI.out] at c3
          rw [HE.out] at c17
          go_wp2_with fail
          go_ret2
          exact ⟨⟨.slice none 0 0, [], by rw [HV.out.1]; rfl, MR.nil _ _, HV.out.2.symm⟩, hB⟩
      · by_cases hk : r.k = 3
        · have HV : Hid (clE r = 0 ∧ clO r = [r.m]) := ⟨by unfold clE; rw [if_neg (by rw [hR]; decide), if_neg (not_not_intro he), if_pos ⟨hi, hk⟩], by unfold clO; rw [if_pos ⟨hR, he, hi, hk⟩]⟩
          have HI := hide hi
          have HE := hide he
          have HK := hide hk
          clear hR hi he hk
          go_enter Tryz.func13, Tryz.ntmps13
          go_upto_region 1 with fail
          generalize World.alloc _ _ = W1 at hX hB hQ ⊢
          go_wp2_with (refine wpList_load_mid rfl 33 (.tmp 1) rfl w.heap.size 0 rfl [.bool r.a, .string r.t, .string (Ck.bs r.buf), .bool r.i, .string r.m.s.m, .string r.m.s.t, .int .i64 r.m.s.c, .string r.m.s.r, .int .i64 r.m.s.n, .slice va r.m.L.length vc, .string (Ck.bs r.m.b), .int .i64 r.k, .int .i64 r.z, .int .i64 r.c.st, .string r.c.line, .int .i64 r.c.left, .int .i64 r.c.size, .int .i64 r.e] _ (hX.range 0 18) Tryz.underlying33 rfl (by kernel_rfl) ?_)
          refine (hw _ hQ.out).mono ?_
          rintro en w1 ⟨rfl, hb1⟩
          replace hX := hX.below hb1
          replace hB := hB.trans (hb1.mono hB.size)
          have hQ1 := hide (hQ.out.below hb1)
          have c17 : w1.cell? ⟨w.heap.size, 17, none⟩ = some (.int .i64 r.e) := hX.cell 17 _ rfl
          have c3 : w1.cell? ⟨w.heap.size, 3, none⟩ = some (.bool r.i) := hX.cell 3 _ rfl
          have c11 : w1.cell? ⟨w.heap.size, 11, none⟩ = some (.int .i64 r.k) := hX.cell 11 _ rfl
          have c2 : w1.cell? ⟨w.heap.size, 2, none⟩ = some (.string (Ck.bs r.buf)) := hX.cell 2 _ rfl
          rw [HI.out] at c3
          rw [HE.out] at c17
          rw [HK.out] at c11
          have c4 : w1.cell? ⟨w.heap.size, 4, none⟩ = some (.string r.m.s.m) := hX.cell 4 _ rfl
          have c5 : w1.cell? ⟨w.heap.size, 5, none⟩ = some (.string r.m.s.t) := hX.cell 5 _ rfl
          have c6 : w1.cell? ⟨w.heap.size, 6, none⟩ = some (.int .i64 r.m.s.c) := hX.cell 6 _ rfl
          have c7 : w1.cell? ⟨w.heap.size, 7, none⟩ = some (.string r.m.s.r) := hX.cell 7 _ rfl
          have c8 : w1.cell? ⟨w.heap.size, 8, none⟩ = some (.int .i64 r.m.s.n) := hX.cell 8 _ rfl
          have c9 : w1.cell? ⟨w.heap.size, 9, none⟩ = some (.slice va r.m.L.length vc) := hX.cell 9 _ rfl
          have c10 : w1.cell? ⟨w.heap.size, 10, none⟩ = some (.string (Ck.bs r.m.b)) := hX.cell 10 _ rfl
          clear hX
          go_wp2_with fail
          refine (hcp _ hQ1.out).mono ?_
          rintro en w4 ⟨va4, vc4, rfl, hF4, hb4⟩
          have hB4 := hB.trans (hb4.mono hB.size)
          go_wp2_with fail
          go_ret2
          refine ⟨⟨_, [(r.m, .slice va4 r.m.L.length vc4)], by rw [HV.out.1]; rfl, ⟨?_, ?_⟩, HV.out.2.symm⟩, hB4.alloc hB4.size _⟩
          · have := World.ownsRow_lit (e := 26) (size := 7) w4 #[.string r.m.s.m, .string r.m.s.t, .int .i64 r.m.s.c, .string r.m.s.r, .int .i64 r.m.s.n, .slice va4 r.m.L.length vc4, .string (Ck.bs r.m.b)] 1 (base := w.heap.size) hB4.size (by decide) rfl
            exact this
          · intro x hx
            obtain rfl : x = (r.m, .slice va4 r.m.L.length vc4) := by simpa using hx
            exact hF4.below ((Below.refl _ w4).alloc (Nat.le_refl _) _)
        · have HV : Hid (clE r = 3 ∧ clO r = []) := ⟨by unfold clE; rw [if_neg (by rw [hR]; decide), if_neg (not_not_intro he), if_neg (by rintro ⟨-, h⟩; exact hk h), if_pos (Or.inl hi)], by unfold clO; rw [if_neg (by rintro ⟨-, -, -, h⟩; exact hk h)]⟩
          have hkb : (r.k == 3) = false := by simpa using hk
          have HI := hide hi
          have HE := hide he
          clear hR hi he hk
          go_enter Tryz.func13, Tryz.ntmps13
          go_upto_region 1 with fail
          generalize World.alloc _ _ = W1 at hX hB hQ ⊢
          go_wp2_with (refine wpList_load_mid rfl 33 (.tmp 1) rfl w.heap.size 0 rfl [.bool r.a, .string r.t, .string (Ck.bs r.buf), .bool r.i, .string r.m.s.m, .string r.m.s.t, .int .i64 r.m.s.c, .string r.m.s.r, .int .i64 r.m.s.n, .slice va r.m.L.length vc, .string (Ck.bs r.m.b), .int .i64 r.k, .int .i64 r.z, .int .i64 r.c.st, .string r.c.line, .int .i64 r.c.left, .int .i64 r.c.size, .int .i64 r.e] _ (hX.range 0 18) Tryz.underlying33 rfl (by kernel_rfl) ?_)
          refine (hw _ hQ.out).mono ?_
          rintro en w1 ⟨rfl, hb1⟩
          replace hX := hX.below hb1
          replace hB := hB.trans (hb1.mono hB.size)
          have hQ1 := hide (hQ.out.below hb1)
          have c17 : w1.cell? ⟨w.heap.size, 17, none⟩ = some (.int .i64 r.e) := hX.cell 17 _ rfl
          have c3 : w1.cell? ⟨w.heap.size, 3, none⟩ = some (.bool r.i) := hX.cell 3 _ rfl
          have c11 : w1.cell? ⟨w.heap.size, 11, none⟩ = some (.int .i64 r.k) := hX.cell 11 _ rfl
          have c2 : w1.cell? ⟨w.heap.size, 2, none⟩ = some (.string (Ck.bs r.buf)) := hX.cell 2 _ rfl
          rw [HI.out] at c3
          rw [HE.out] at c17
          go_wp2_with fail
          go_ret2
          exact ⟨⟨.slice none 0 0, [], by rw [HV.out.1]; rfl, MR.nil _ _, HV.out.2.symm⟩, hB⟩
    · have heb : (r.e != 0) = true := by simpa using he
      have HV : Hid (clE r = r.e ∧ clO r = []) := ⟨by unfold clE; rw [if_neg (by rw [hR]; decide), if_pos he], by unfold clO; rw [if_neg (by rintro ⟨-, h, -⟩; exact he h)]⟩
      clear hR
      go_enter Tryz.func13, Tryz.ntmps13
      go_upto_region 1 with fail
      generalize World.alloc _ _ = W1 at hX hB hQ ⊢
      go_wp2_with (refine wpList_load_mid rfl 33 (.tmp 1) rfl w.heap.size 0 rfl [.bool r.a, .string r.t, .string (Ck.bs r.buf), .bool r.i, .string r.m.s.m, .string r.m.s.t, .int .i64 r.m.s.c, .string r.m.s.r, .int .i64 r.m.s.n, .slice va r.m.L.length vc, .string (Ck.bs r.m.b), .int .i64 r.k, .int .i64 r.z, .int .i64 r.c.st, .string r.c.line, .int .i64 r.c.left, .int .i64 r.c.size, .int .i64 r.e] _ (hX.range 0 18) Tryz.underlying33 rfl (by kernel_rfl) ?_)
      refine (hw _ hQ.out).mono ?_
      rintro en w1 ⟨rfl, hb1⟩
      replace hX := hX.below hb1
      replace hB := hB.trans (hb1.mono hB.size)
      have hQ1 := hide (hQ.out.below hb1)
      have c17 : w1.cell? ⟨w.heap.size, 17, none⟩ = some (.int .i64 r.e) := hX.cell 17 _ rfl
      have c3 : w1.cell? ⟨w.heap.size, 3, none⟩ = some (.bool r.i) := hX.cell 3 _ rfl
      have c11 : w1.cell? ⟨w.heap.size, 11, none⟩ = some (.int .i64 r.k) := hX.cell 11 _ rfl
      have c2 : w1.cell? ⟨w.heap.size, 2, none⟩ = some (.string (Ck.bs r.buf)) := hX.cell 2 _ rfl
      go_wp2_with fail
      go_quiet (fail)
      go_wp2_with fail
      go_ret2
      exact ⟨⟨.slice none 0 0, [], by rw [HV.out.1]; rfl, MR.nil _ _, HV.out.2.symm⟩, hB.trans ((Ck.below_drewN _ _).mono hB.size)⟩

end Go.Proofs.YtmpijlaidnhpnaaGreat
