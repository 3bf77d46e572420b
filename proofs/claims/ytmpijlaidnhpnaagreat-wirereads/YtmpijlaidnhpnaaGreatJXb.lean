/- The walks of wire's small functions. The walks of what takes a body. -/
import Derived.Test.YtmpijlaidnhpnaaGreatJXa
import Derived.Test.YtmpijlaidnhpnaaGreatJSc
import Derived.Test.YtmpijlaidnhpnaaGreatJHc
import Derived.Test.YtmpijlaidnhpnaaGreatJKb
import Derived.Test.YtmpijlaidnhpnaaGreatJKf
namespace Go.Proofs.YtmpijlaidnhpnaaGreat
set_option linter.unusedVariables false
set_option linter.unusedSimpArgs false
set_option maxRecDepth 100000
open Go.RowKit Ck

theorem bs_app (x y : List UInt8) : Ck.bs x ++ Ck.bs y = Ck.bs (x ++ y) := by apply bytes_ext; simp [Ck.bs]
theorem bs_drop (x : List UInt8) (n : Nat) : (Ck.bs x).extract n (Ck.bs x).size = Ck.bs (x.drop n) := by
  apply bytes_ext
  rw [Ck.bs_list, ext_drop, Ck.bs_list]
theorem bs_take (x : List UInt8) (n : Nat) : (Ck.bs x).extract 0 n = Ck.bs (x.take n) := by
  apply bytes_ext
  rw [Ck.bs_list, ext_take, Ck.bs_list]

set_option maxHeartbeats 8000000 in
theorem stop_any (r : Rr) (v u : Value) (N : Nat) (E : Int) (w : World) (h : Blk w N 58 (r.gs v u)) :
    Calls Tryz.prog 60 #[.pointer (some ⟨N, 0, none⟩), .int .i64 E] w fun en w' => en = .returned (.bool false) ∧ Blk w' N 58 ((stopR r.a r.t E).gs (.slice none 0 0) u) ∧ w.grownBy w' (some N) := by
  have hY : w.grownBy w.drew (some N) := only_below (only_refl w N) ((Below.refl _ _).drew)
  obtain ⟨a, t, buf, i, ⟨⟨sm, st, sc, sr, sn⟩, L, b⟩, k, z, ⟨cst, cln, clf, csz⟩, e⟩ := r
  go_enter Tryz.func60, Tryz.ntmps60
  go_wp2_with fail
  refine region_upTo 15 15 15 (fun w' => Blk w' N 58 (Rr.gs ⟨a, t, buf, i, ⟨⟨sm, st, sc, sr, sn⟩, L, b⟩, k, z, ⟨cst, cln, clf, csz⟩, e⟩ v u)) (fun _ => True) (fun _ => True) (by kernel_rfl) ⟨h.drew, trivial, trivial⟩ (fun hHeld => ?_)
  refine upTo_take 15 (S := fun _ => True) (i := 0) (oi := _) (v := .pointer (some ⟨N, 0, none⟩)) rfl (by kernel_rfl) (by kernel_rfl) (by kernel_rfl) (fun _ _ _ h => h) (by decide) (by kernel_rfl) (by kernel_rfl) (fun _ _ _ _ => trivial) hHeld (Or.inl ⟨by rfl, fun wS hSw => by go_simp⟩) (fun hHeld => ?_)
  simp only [Act.put, List.getElem_toArray, List.getElem_cons_zero, List.getElem_cons_succ, List.setIfInBounds_toArray, List.set_cons_zero, List.set_cons_succ]
  refine upTo_take 15 (S := fun _ => True) (i := 1) (oi := _) (v := .pointer (some ⟨N, 0, none⟩)) rfl (by kernel_rfl) (by kernel_rfl) (by kernel_rfl) (fun _ _ _ h => h) (by decide) (by kernel_rfl) (by kernel_rfl) (fun _ _ _ _ => trivial) hHeld (Or.inl ⟨by rfl, fun wS hSw => by go_simp⟩) (fun hHeld => ?_)
  simp only [Act.put, List.getElem_toArray, List.getElem_cons_zero, List.getElem_cons_succ, List.setIfInBounds_toArray, List.set_cons_zero, List.set_cons_succ]
  refine upTo_take 15 (S := fun _ => True) (i := 2) (oi := _) (v := .pointer (some ⟨N, 0, none⟩)) rfl (by kernel_rfl) (by kernel_rfl) (by kernel_rfl) (fun _ _ _ h => h) (by decide) (by kernel_rfl) (by kernel_rfl) (fun _ _ _ _ => trivial) hHeld (Or.inl ⟨by rfl, fun wS hSw => by go_simp⟩) (fun hHeld => ?_)
  simp only [Act.put, List.getElem_toArray, List.getElem_cons_zero, List.getElem_cons_succ, List.setIfInBounds_toArray, List.set_cons_zero, List.set_cons_succ]
  refine upTo_take 15 (S := fun _ => True) (i := 3) (oi := _) (v := .pointer (some ⟨N, 0, none⟩)) rfl (by kernel_rfl) (by kernel_rfl) (by kernel_rfl) (fun _ _ _ h => h) (by decide) (by kernel_rfl) (by kernel_rfl) (fun _ _ _ _ => trivial) hHeld (Or.inl ⟨by rfl, fun wS hSw => by go_simp⟩) (fun hHeld => ?_)
  simp only [Act.put, List.getElem_toArray, List.getElem_cons_zero, List.getElem_cons_succ, List.setIfInBounds_toArray, List.set_cons_zero, List.set_cons_succ]
  refine upTo_take 15 (S := fun _ => True) (i := 4) (oi := _) (v := .pointer (some ⟨N, 0, none⟩)) rfl (by kernel_rfl) (by kernel_rfl) (by kernel_rfl) (fun _ _ _ h => h) (by decide) (by kernel_rfl) (by kernel_rfl) (fun _ _ _ _ => trivial) hHeld (Or.inl ⟨by rfl, fun wS hSw => by go_simp⟩) (fun hHeld => ?_)
  simp only [Act.put, List.getElem_toArray, List.getElem_cons_zero, List.getElem_cons_succ, List.setIfInBounds_toArray, List.set_cons_zero, List.set_cons_succ]
  refine upTo_take 15 (S := (fun w' => Blk w' N 58 (Rr.gs ⟨a, t, buf, i, ⟨⟨sm, st, sc, sr, sn⟩, L, b⟩, k, z, ⟨cst, cln, clf, csz⟩, e⟩ v u))) (i := 5) (oi := _) (v := .bool a) rfl (by kernel_rfl) (by kernel_rfl) (by kernel_rfl) (fun _ _ _ h => h) (by decide) (by kernel_rfl) (by kernel_rfl) (fun l w1 hh g => hh.h1 g) hHeld (Or.inl ⟨by rfl, fun wS hSw => by have l0 : World.cell? wS ⟨N, 0, none⟩ = some (.bool a) := hSw.cell 0 _ rfl; go_simp⟩) (fun hHeld => ?_)
  simp only [Act.put, List.getElem_toArray, List.getElem_cons_zero, List.getElem_cons_succ, List.setIfInBounds_toArray, List.set_cons_zero, List.set_cons_succ]
  refine upTo_take 15 (S := fun _ => True) (i := 6) (oi := _) (v := .pointer (some ⟨N, 0, none⟩)) rfl (by kernel_rfl) (by kernel_rfl) (by kernel_rfl) (fun _ _ _ h => h) (by decide) (by kernel_rfl) (by kernel_rfl) (fun _ _ _ _ => trivial) hHeld (Or.inl ⟨by rfl, fun wS hSw => by go_simp⟩) (fun hHeld => ?_)
  simp only [Act.put, List.getElem_toArray, List.getElem_cons_zero, List.getElem_cons_succ, List.setIfInBounds_toArray, List.set_cons_zero, List.set_cons_succ]
  refine upTo_take 15 (S := fun _ => True) (i := 7) (oi := _) (v := .pointer (some ⟨N, 0, none⟩)) rfl (by kernel_rfl) (by kernel_rfl) (by kernel_rfl) (fun _ _ _ h => h) (by decide) (by kernel_rfl) (by kernel_rfl) (fun _ _ _ _ => trivial) hHeld (Or.inl ⟨by rfl, fun wS hSw => by go_simp⟩) (fun hHeld => ?_)
  simp only [Act.put, List.getElem_toArray, List.getElem_cons_zero, List.getElem_cons_succ, List.setIfInBounds_toArray, List.set_cons_zero, List.set_cons_succ]
  refine upTo_take 15 (S := fun _ => True) (i := 8) (oi := _) (v := .pointer (some ⟨N, 0, none⟩)) rfl (by kernel_rfl) (by kernel_rfl) (by kernel_rfl) (fun _ _ _ h => h) (by decide) (by kernel_rfl) (by kernel_rfl) (fun _ _ _ _ => trivial) hHeld (Or.inl ⟨by rfl, fun wS hSw => by go_simp⟩) (fun hHeld => ?_)
  simp only [Act.put, List.getElem_toArray, List.getElem_cons_zero, List.getElem_cons_succ, List.setIfInBounds_toArray, List.set_cons_zero, List.set_cons_succ]
  refine upTo_take 15 (S := fun _ => True) (i := 9) (oi := _) (v := .pointer (some ⟨N, 1, none⟩)) rfl (by kernel_rfl) (by kernel_rfl) (by kernel_rfl) (fun _ _ _ h => h) (by decide) (by kernel_rfl) (by kernel_rfl) (fun _ _ _ _ => trivial) hHeld (Or.inl ⟨by rfl, fun wS hSw => by go_simp⟩) (fun hHeld => ?_)
  simp only [Act.put, List.getElem_toArray, List.getElem_cons_zero, List.getElem_cons_succ, List.setIfInBounds_toArray, List.set_cons_zero, List.set_cons_succ]
  refine upTo_take 15 (S := (fun w' => Blk w' N 58 (Rr.gs ⟨a, t, buf, i, ⟨⟨sm, st, sc, sr, sn⟩, L, b⟩, k, z, ⟨cst, cln, clf, csz⟩, e⟩ v u))) (i := 10) (oi := _) (v := .string t) rfl (by kernel_rfl) (by kernel_rfl) (by kernel_rfl) (fun _ _ _ h => h) (by decide) (by kernel_rfl) (by kernel_rfl) (fun l w1 hh g => hh.h1 g) hHeld (Or.inl ⟨by rfl, fun wS hSw => by have l1 : World.cell? wS ⟨N, 1, none⟩ = some (.string t) := hSw.cell 1 _ rfl; go_simp⟩) (fun hHeld => ?_)
  simp only [Act.put, List.getElem_toArray, List.getElem_cons_zero, List.getElem_cons_succ, List.setIfInBounds_toArray, List.set_cons_zero, List.set_cons_succ]
  refine upTo_take 15 (S := fun _ => True) (i := 11) (oi := _) (v := .int .i64 E) rfl (by kernel_rfl) (by kernel_rfl) (by kernel_rfl) (fun _ _ _ h => h) (by decide) (by kernel_rfl) (by kernel_rfl) (fun _ _ _ _ => trivial) hHeld (Or.inl ⟨by rfl, fun wS hSw => by go_simp⟩) (fun hHeld => ?_)
  simp only [Act.put, List.getElem_toArray, List.getElem_cons_zero, List.getElem_cons_succ, List.setIfInBounds_toArray, List.set_cons_zero, List.set_cons_succ]
  refine upTo_take 15 (S := fun _ => True) (i := 12) (oi := _) (v := .agg #[.bool a, .string t, .string ⟨#[]⟩, .bool false, .string ⟨#[]⟩, .string ⟨#[]⟩, .int .i64 0, .string ⟨#[]⟩, .int .i64 0, .slice none 0 0, .string ⟨#[]⟩, .int .i64 0, .int .i64 0, .int .i64 0, .string ⟨#[]⟩, .int .i64 0, .int .i64 0, .int .i64 E]) rfl (by kernel_rfl) (by kernel_rfl) (by kernel_rfl) (fun _ _ _ h => h) (by decide) (by kernel_rfl) (by kernel_rfl) (fun _ _ _ _ => trivial) hHeld (Or.inl ⟨by rfl, fun wS hSw => by go_simp⟩) (fun hHeld => ?_)
  simp only [Act.put, List.getElem_toArray, List.getElem_cons_zero, List.getElem_cons_succ, List.setIfInBounds_toArray, List.set_cons_zero, List.set_cons_succ]
  refine upTo_run (i := 13) (o := _) (by kernel_rfl) rfl (fun K hK => ?_)
  go_simp
  refine hK.out _ _ (⟨fun _ => h.drew, fun _ => trivial, fun _ => trivial⟩) (fun hHeld => ?_)
  clear hK K
  refine upTo_run (i := 14) (o := _) (by kernel_rfl) rfl (fun K hK => ?_)
  go_simp
  refine hK.out _ _ (⟨fun _ => h.drew, fun _ => trivial, fun _ => trivial⟩) (fun hHeld => ?_)
  clear hK K
  refine upTo_run (i := 15) (o := _) (by kernel_rfl) rfl (fun K hK => ?_)
  rw [if_pos (by kernel_rfl)]
  refine wp_store_mid 33 (.tmp 19) (.tmp 17) rfl _ _ _ rfl rfl ((h.drew.there 0 18 (show 0 + 18 ≤ 19 by decide))) (by kernel_rfl) (by simp [Value.oneCell']) ?_
  simp only [Act.put, List.getElem_toArray, List.getElem_cons_zero, List.getElem_cons_succ, List.setIfInBounds_toArray, List.set_cons_zero, List.set_cons_succ]
  refine hK.out _ _ (⟨fun g => Bool.noConfusion (show true = false from g), fun _ => trivial, fun _ => trivial⟩) (fun hHeld => ?_)
  clear hK K
  refine upTo_done (by kernel_rfl) ?_ _
  have hB := h.drew.sets [.bool a, .string t, .string ⟨#[]⟩, .bool false, .string ⟨#[]⟩, .string ⟨#[]⟩, .int .i64 0, .string ⟨#[]⟩, .int .i64 0, .slice none 0 0, .string ⟨#[]⟩, .int .i64 0, .int .i64 0, .int .i64 0, .string ⟨#[]⟩, .int .i64 0, .int .i64 0, .int .i64 E] 0 (show 0 + 18 ≤ 19 by decide)
  have hO := only_sets [.bool a, .string t, .string ⟨#[]⟩, .bool false, .string ⟨#[]⟩, .string ⟨#[]⟩, .int .i64 0, .string ⟨#[]⟩, .int .i64 0, .slice none 0 0, .string ⟨#[]⟩, .int .i64 0, .int .i64 0, .int .i64 0, .string ⟨#[]⟩, .int .i64 0, .int .i64 0, .int .i64 E] 0 hY
  have e1 : sets (Rr.gs ⟨a, t, buf, i, ⟨⟨sm, st, sc, sr, sn⟩, L, b⟩, k, z, ⟨cst, cln, clf, csz⟩, e⟩ v u) 0 [.bool a, .string t, .string ⟨#[]⟩, .bool false, .string ⟨#[]⟩, .string ⟨#[]⟩, .int .i64 0, .string ⟨#[]⟩, .int .i64 0, .slice none 0 0, .string ⟨#[]⟩, .int .i64 0, .int .i64 0, .int .i64 0, .string ⟨#[]⟩, .int .i64 0, .int .i64 0, .int .i64 E] = (stopR a t E).gs (.slice none 0 0) u := by kernel_rfl
  rw [e1] at hB
  clear hHeld h hY
  generalize World.setCells _ _ _ _ = W2 at hB hO ⊢
  go_wp2_with fail
  go_ret
  exact ⟨rfl, hB, hO⟩

/-- Data behind the body. -/
theorem take_any (r : Rr) (v u : Value) (N : Nat) (d : List UInt8) (n : Nat) (w : World) (h : Blk w N 58 (r.gs v u)) (hn : n ≤ r.buf.length) (hb : r.m.b.length ≤ 1000000) (hd : d.length ≤ 1000000) (hbl : r.buf.length ≤ 1000000) :
    Calls Tryz.prog 96 #[.pointer (some ⟨N, 0, none⟩), .string (Ck.bs d), .int .i64 (n : Int)] w fun en w' => en = .returned (.tuple #[]) ∧ Blk w' N 58 (Rr.gs { r with m := r.m.more d, buf := r.buf.drop n } v u) ∧ w.grownBy w' (some N) := by
  obtain ⟨a, t, buf, i, ⟨⟨sm, st, sc, sr, sn⟩, L, b⟩, k, z, ⟨cst, cln, clf, csz⟩, e⟩ := r
  simp only at hn hb hbl
  have hB := (h.set 10 (show 10 < 19 by decide) (.string (Ck.bs (b ++ d)))).set 2 (show 2 < 19 by decide) (.string (Ck.bs (buf.drop n)))
  have hO := only_set (only_set (only_refl w N) 10 (.string (Ck.bs (b ++ d)))) 2 (.string (Ck.bs (buf.drop n)))
  have c10 : w.cell? ⟨N, 10, none⟩ = some (.string (Ck.bs b)) := h.cell 10 _ rfl
  have c2 : w.cell? ⟨N, 2, none⟩ = some (.string (Ck.bs buf)) := h.cell 2 _ rfl
  have fz := h.fz
  have s1 := Ck.bs_size b
  have s2 := Ck.bs_size d
  have s3 := Ck.bs_size buf
  have ha := bs_app b d
  have hx := bs_drop buf n
  rw [s3] at hx
  have hnz : (n : Int) ≤ (buf.length : Int) := by omega
  have HB := hide hB
  have HO := hide hO
  clear hB hO h
  go_enter Tryz.func96, Tryz.ntmps96
  go_wp2_with fail
  refine bodyPost_end (v := .tuple #[]) (by simp [results, Tryz.results96, go_sem]) rfl ?_
  exact ⟨rfl, HB.out, HO.out⟩

theorem chop_any (s : ByteArray) (w : World) (hs : s.size ≤ 1000000) :
    Calls Tryz.prog 83 #[.string s] w fun e w' => e = .returned (.string (Ck.bs (chopL s.data.toList))) ∧ w' = w := by
  have h1 := Tryz.strings_TrimSuffix s ⟨#[10]⟩ w (by omega)
  rw [show (⟨#[10]⟩ : ByteArray).data.toList = [10] from rfl] at h1
  have e1 : Lib.trimSuffix s.data.toList [10] = if s.data.toList.getLast? = some 10 then s.data.toList.dropLast else s.data.toList := by
    unfold Lib.trimSuffix
    rw [Hd.suffix_one]
    by_cases h : s.data.toList.getLast? = some 10
    · rw [if_pos h, if_pos (decide_eq_true h), List.dropLast_eq_take]; rfl
    · rw [if_neg h, if_neg (by rw [decide_eq_false h]; decide)]
  rw [e1] at h1
  have HV : Hid (Hd.bareL (if s.data.toList.getLast? = some 10 then s.data.toList.dropLast else s.data.toList) = chopL s.data.toList) := rfl
  have hl : (if s.data.toList.getLast? = some 10 then s.data.toList.dropLast else s.data.toList).length ≤ s.size := by
    split
    · rw [List.length_dropLast, size_list]; omega
    · rw [size_list]; exact Nat.le_refl _
  generalize (if s.data.toList.getLast? = some 10 then s.data.toList.dropLast else s.data.toList) = l at h1 HV hl
  have h2 := Hd.trimSuffix_any ⟨l.toArray⟩ w (by show l.toArray.size ≤ _; rw [List.size_toArray]; omega)
  rw [show (⟨l.toArray⟩ : ByteArray).data.toList = l from by simp] at h2
  go_enter Tryz.func83, Tryz.ntmps83
  go_wp2_with fail
  refine h1.mono ?_
  rintro e w1 ⟨rfl, rfl⟩
  go_wp2_with fail
  refine h2.mono ?_
  rintro e w2 ⟨rfl, rfl⟩
  go_wp2_with fail
  go_ret
  exact ⟨by rw [← HV.out]; rfl, rfl⟩

/-- A first line. -/
theorem first_any (r : Rr) (v u : Value) (N : Nat) (s : ByteArray) (w : World) (h : Blk w N 58 (r.gs v u)) (hs : s.size ≤ 5000) :
    Calls Tryz.prog 80 #[.pointer (some ⟨N, 0, none⟩), .string s] w fun en w' => en = .returned (.tuple #[(Sr.gvU (fiU r.a s.data.toList)).v, .int .i64 (Sr.gvE (fiU r.a s.data.toList))]) ∧ Below w.heap.size w w' := by
  have hbs : Ck.bs s.data.toList = s := (Ck.bs_of rfl).symm
  have hB0 : Below w.heap.size w (w.alloc (.cells #[.string ⟨#[]⟩, .string ⟨#[]⟩, .int .i64 0, .string ⟨#[]⟩, .int .i64 0] 23)) := (Below.refl _ _).alloc (Nat.le_refl _) _
  have hF := Five.new w St.no
  have hN := h.below hB0
  have c0 : (w.alloc (.cells #[.string ⟨#[]⟩, .string ⟨#[]⟩, .int .i64 0, .string ⟨#[]⟩, .int .i64 0] 23)).cell? ⟨N, 0, none⟩ = some (.bool r.a) := hN.cell 0 _ rfl
  cases ha : r.a
  · rw [ha] at c0
    obtain ⟨g, hg⟩ : ∃ g, fiU false s.data.toList = g := ⟨_, rfl⟩
    have hp := fun W => Sr.status_any s W hs
    rw [show Sr.stU s = g by rw [← hg, fiU, if_neg (by decide), hbs]] at hp
    obtain ⟨G, hG⟩ : ∃ G, Sr.gvU g = G := ⟨_, rfl⟩
    obtain ⟨E, hE⟩ : ∃ E, Sr.gvE g = E := ⟨_, rfl⟩
    rw [hG, hE] at hp
    rw [hg, hG, hE]
    clear hg hG hE ha hN
    unfold St.v at hp ⊢
    go_enter Tryz.func80, Tryz.ntmps80
    go_wp2_with fail
    change Five (w.alloc (.cells #[.string ⟨#[]⟩, .string ⟨#[]⟩, .int .i64 0, .string ⟨#[]⟩, .int .i64 0] 23)) w.heap.size St.no at hF
    generalize World.alloc _ _ = W1 at hB0 hF c0 ⊢
    go_wp2_with fail
    refine (hp _).mono ?_
    rintro en w1 ⟨rfl, hb1⟩
    have hF1 := hF.below hb1
    have hB1 := hB0.trans (hb1.mono hB0.size)
    obtain ⟨d0, d1, d2, d3, d4, -, df⟩ := id hF1
    go_wp2_with fail
    refine bodyPost_ret (v := .tuple #[.agg #[.string G.m, .string G.t, .int .i64 G.c, .string G.r, .int .i64 G.n], .int .i64 E]) (by simp [results, Tryz.results80, go_sem, d0, d1, d2, d3, d4, df]) rfl ⟨rfl, ?_⟩
    exact put5_below hB1 (Nat.le_refl _) G
  · rw [ha] at c0
    obtain ⟨g, hg⟩ : ∃ g, fiU true s.data.toList = g := ⟨_, rfl⟩
    have hp := fun W => Sr.parse_any s W hs
    rw [show Sr.psU s = g by rw [← hg, fiU, if_pos rfl, hbs]] at hp
    obtain ⟨G, hG⟩ : ∃ G, Sr.gvU g = G := ⟨_, rfl⟩
    obtain ⟨E, hE⟩ : ∃ E, Sr.gvE g = E := ⟨_, rfl⟩
    rw [hG, hE] at hp
    rw [hg, hG, hE]
    clear hg hG hE ha hN
    unfold St.v at hp ⊢
    go_enter Tryz.func80, Tryz.ntmps80
    go_wp2_with fail
    change Five (w.alloc (.cells #[.string ⟨#[]⟩, .string ⟨#[]⟩, .int .i64 0, .string ⟨#[]⟩, .int .i64 0] 23)) w.heap.size St.no at hF
    generalize World.alloc _ _ = W1 at hB0 hF c0 ⊢
    go_wp2_with fail
    refine (hp _).mono ?_
    rintro en w1 ⟨rfl, hb1⟩
    have hF1 := hF.below hb1
    have hB1 := hB0.trans (hb1.mono hB0.size)
    obtain ⟨d0, d1, d2, d3, d4, -, df⟩ := id hF1
    go_wp2_with fail
    refine bodyPost_ret (v := .tuple #[.agg #[.string G.m, .string G.t, .int .i64 G.c, .string G.r, .int .i64 G.n], .int .i64 E]) (by simp [results, Tryz.results80, go_sem, d0, d1, d2, d3, d4, df]) rfl ⟨rfl, ?_⟩
    exact put5_below hB1 (Nat.le_refl _) G

/-- Without the empty lines ahead. -/
theorem sk_step {l : List UInt8} (h : pre [10] l = true ∨ pre [13, 10] l = true) : ∃ q, (l.dropWhile (Ck.neB 10)).drop 1 = q ∧ skL q = skL l ∧ q.length < l.length := by
  unfold pre at h
  rw [List.isPrefixOf_iff_prefix, List.isPrefixOf_iff_prefix] at h
  rcases h with ⟨q, rfl⟩ | ⟨q, rfl⟩
  · exact ⟨q, rfl, (sk_ten q).symm, by simp⟩
  · exact ⟨q, rfl, (sk_two q).symm, by simp; omega⟩
theorem sk_end {l : List UInt8} (h1 : pre [10] l = false) (h2 : pre [13, 10] l = false) : skL l = l := by
  refine sk_stay ?_
  match l, h1, h2 with
  | [], _, _ => rfl
  | [c], h1, _ =>
    unfold pre at h1
    by_cases hc : c = 10
    · subst hc; exact absurd h1 (by decide)
    · exact decide_eq_false hc
  | c :: d :: r, h1, h2 =>
    show (decide (c = 10) || (decide (c = 13) && decide (d = 10))) = false
    unfold pre at h1 h2
    by_cases hc : c = 10
    · subst hc; exact absurd h1 (by simp)
    · rw [decide_eq_false hc, Bool.false_or]
      by_cases hd : c = 13 ∧ d = 10
      · obtain ⟨rfl, rfl⟩ := hd; exact absurd h2 (by simp)
      · by_cases h13 : c = 13
        · rw [decide_eq_false (fun e => hd ⟨h13, e⟩), Bool.and_false]
        · rw [decide_eq_false h13, Bool.false_and]

end Go.Proofs.YtmpijlaidnhpnaaGreat

namespace Go.Proofs.YtmpijlaidnhpnaaGreat
set_option linter.unusedVariables false
set_option linter.unusedSimpArgs false
set_option maxRecDepth 100000
open Go.RowKit Ck

def strN : Value → Nat
  | .string s => s.size
  | _ => 0
theorem skip_any (l : List UInt8) (w : World) (hl : l.length ≤ 1000000) :
    Calls Tryz.prog 61 #[.string (Ck.bs l)] w fun e w' => e = .returned (.string (Ck.bs (skL l))) ∧ Below w.heap.size w w' := by
  go_enter Tryz.func61, Tryz.ntmps61
  go_wp2_with fail
  go_loopw [0] (fun x wr => ∃ q, x = .string (Ck.bs q) ∧ Hid (skL q = skL l) ∧ q.length ≤ l.length ∧ Below w.heap.size w wr) (fun x _ => strN x)
  case atStart => exact ⟨l, rfl, rfl, Nat.le_refl _, Below.refl _ _⟩
  case round =>
    obtain ⟨q, rfl, hq, hlq, hB⟩ := hrel
    have hbl := Ck.bs_list q
    have hsz := Ck.bs_size q
    cases h1 : pre [10] q
    · cases h2 : pre [13, 10] q
      · have HE := hide (sk_end h1 h2)
        have hp1 := fun W => pre_any (Ck.bs q) ⟨#[10]⟩ false (by rw [hbl]; exact h1) W
        have hp2 := fun W => pre_any (Ck.bs q) ⟨#[13, 10]⟩ false (by rw [hbl]; exact h2) W
        clear h1 h2 hbl hsz
        go_wp2_with fail
        refine (hp1 _).mono ?_
        rintro e w1 ⟨rfl, rfl⟩
        go_wp2_with fail
        refine (hp2 _).mono ?_
        rintro e w1 ⟨rfl, rfl⟩
        go_wp2_with fail
        go_ret
        exact ⟨by rw [← hq.out, HE.out]; rfl, hB⟩
      · obtain ⟨q', e1, e2, e3⟩ := sk_step (Or.inr h2)
        have hp1 := fun W => pre_any (Ck.bs q) ⟨#[10]⟩ false (by rw [hbl]; exact h1) W
        have hp2 := fun W => pre_any (Ck.bs q) ⟨#[13, 10]⟩ true (by rw [hbl]; exact h2) W
        have hcut := fun W => Ck.cut_any (Ck.bs q) 10 W (by omega)
        have ha : Ck.aftS 10 (Ck.bs q) = Ck.bs q' := by apply bytes_ext; rw [Ck.aftS_list, hbl, Ck.bs_list, e1]
        rw [ha] at hcut
        have H2 : Hid (skL q' = skL l) := e2.trans hq.out
        clear h1 h2 hbl hsz ha e1 e2
        have hs' := Ck.bs_size q'
        have hs := Ck.bs_size q
        go_wp2_with fail
        refine (hp1 _).mono ?_
        rintro e w1 ⟨rfl, rfl⟩
        go_wp2_with fail
        refine (hp2 _).mono ?_
        rintro e w1 ⟨rfl, rfl⟩
        go_wp2_with fail
        refine (hcut _).mono ?_
        rintro e w1 ⟨rfl, n, rfl⟩
        have hB1 := hB.trans ((Ck.below_drewN _ n).mono hB.size)
        go_wp2_with fail
        refine ⟨⟨q', rfl, H2, by omega, hB1⟩, by simp only [strN]; omega⟩
    · obtain ⟨q', e1, e2, e3⟩ := sk_step (Or.inl h1)
      have hp1 := fun W => pre_any (Ck.bs q) ⟨#[10]⟩ true (by rw [hbl]; exact h1) W
      have hcut := fun W => Ck.cut_any (Ck.bs q) 10 W (by omega)
      have ha : Ck.aftS 10 (Ck.bs q) = Ck.bs q' := by apply bytes_ext; rw [Ck.aftS_list, hbl, Ck.bs_list, e1]
      rw [ha] at hcut
      have H2 : Hid (skL q' = skL l) := e2.trans hq.out
      clear h1 hbl hsz ha e1 e2
      have hs' := Ck.bs_size q'
      have hs := Ck.bs_size q
      go_wp2_with fail
      refine (hp1 _).mono ?_
      rintro e w1 ⟨rfl, rfl⟩
      go_wp2_with fail
      refine (hcut _).mono ?_
      rintro e w1 ⟨rfl, n, rfl⟩
      have hB1 := hB.trans ((Ck.below_drewN _ n).mono hB.size)
      go_wp2_with fail
      refine ⟨⟨q', rfl, H2, by omega, hB1⟩, by simp only [strN]; omega⟩

/-- All that is there. -/
theorem all_bad (r : Rr) (v u : Value) (N : Nat) (w : World) (h : Blk w N 58 (r.gs v u)) (hb : r.m.b.length ≤ 20000) (hq : 20000 < r.m.b.length + r.buf.length) (hbl : r.buf.length ≤ 1000000) :
    Calls Tryz.prog 76 #[.pointer (some ⟨N, 0, none⟩)] w fun en w' => en = .returned (.int .i64 2) ∧ Below w.heap.size w w' := by
  obtain ⟨a, t, buf, i, ⟨⟨sm, st, sc, sr, sn⟩, L, b⟩, k, z, ⟨cst, cln, clf, csz⟩, e⟩ := r
  simp only at hb hbl hq
  have c10 : w.cell? ⟨N, 10, none⟩ = some (.string (Ck.bs b)) := h.cell 10 _ rfl
  have c2 : w.cell? ⟨N, 2, none⟩ = some (.string (Ck.bs buf)) := h.cell 2 _ rfl
  have s1 := Ck.bs_size b
  have s3 := Ck.bs_size buf
  have hcd : decide (20000 - (b.length : Int) < (buf.length : Int)) = true := decide_eq_true (by omega)
  have hlz : 20000 - (b.length : Int) < (buf.length : Int) := by omega
  clear h hq
  go_enter Tryz.func76, Tryz.ntmps76
  go_wp2_with fail
  go_quiet (fail)
  go_wp2_with fail
  go_ret
  exact ⟨rfl, Ck.below_drewN _ _⟩

/-- As many bytes as the size still asks. -/
theorem sized_any (r : Rr) (v u : Value) (N : Nat) (w : World) (h : Blk w N 58 (r.gs v u)) (hz : (r.m.b.length : Int) ≤ r.z) (hz2 : r.z ≤ 20000) (hbl : r.buf.length ≤ 1000000) :
    Calls Tryz.prog 74 #[.pointer (some ⟨N, 0, none⟩)] w fun en w' => en = .returned (.bool (decide ((r.m.b.length + cnt r : Int) = r.z))) ∧ Blk w' N 58 (Rr.gs { r with m := r.m.more (r.buf.take (cnt r)), buf := r.buf.drop (cnt r) } v u) ∧ w.grownBy w' (some N) := by
  obtain ⟨n, hn⟩ : ∃ n, cnt r = n := ⟨_, rfl⟩
  have hcl := cnt_le r
  have hcz : (r.m.b.length + n : Int) ≤ r.z := by rw [← hn]; unfold cnt; omega
  have hmin : min (r.z - (r.m.b.length : Int)) (r.buf.length : Int) = (n : Int) := by rw [← hn]; unfold cnt; omega
  rw [hn] at hcl ⊢
  have htk := take_any r v u N (r.buf.take n) n
  rw [List.length_take] at htk
  clear hn
  obtain ⟨a, t, buf, i, ⟨⟨sm, st, sc, sr, sn⟩, L, b⟩, k, z, ⟨cst, cln, clf, csz⟩, e⟩ := r
  simp only at hz hz2 hbl hcl hcz hmin htk ⊢
  have c10 : w.cell? ⟨N, 10, none⟩ = some (.string (Ck.bs b)) := h.cell 10 _ rfl
  have c12 : w.cell? ⟨N, 12, none⟩ = some (.int .i64 z) := h.cell 12 _ rfl
  have c2 : w.cell? ⟨N, 2, none⟩ = some (.string (Ck.bs buf)) := h.cell 2 _ rfl
  have s1 := Ck.bs_size b
  have s3 := Ck.bs_size buf
  have hx := bs_take buf n
  have hnz : (n : Int) ≤ (buf.length : Int) := by omega
  have HH := hide h
  clear h
  go_enter Tryz.func74, Tryz.ntmps74
  go_wp2_with fail
  go_quiet (fail)
  go_wp2_with fail
  have B1 := Ck.below_drewN w nq
  refine (htk _ (HH.out.below B1) hcl (by omega) (by omega) hbl).mono ?_
  rintro en w1 ⟨rfl, hb1, ho1⟩
  have HB := hide hb1
  have HO : Hid (w.grownBy w1 (some N)) := only_trans (only_below (only_refl w N) B1) ho1
  have d10 : w1.cell? ⟨N, 10, none⟩ = some (.string (Ck.bs (b ++ buf.take n))) := hb1.cell 10 _ rfl
  have d12 : w1.cell? ⟨N, 12, none⟩ = some (.int .i64 z) := hb1.cell 12 _ rfl
  have s4 : (Ck.bs (b ++ buf.take n)).size = b.length + n := by rw [Ck.bs_size, List.length_append, List.length_take, Nat.min_eq_left hcl]
  clear hb1 ho1 c10 c12 c2 B1 HH htk hx
  go_wp2_with fail
  go_quiet (fail)
  go_wp2_with fail
  have B2 := Ck.below_drewN w1 nq
  refine bodyPost_ret (v := .bool (decide ((b.length + n : Int) = z))) (by simp [results, Tryz.results74, go_sem]; rfl) rfl ⟨rfl, HB.out.below B2, only_below HO.out B2⟩

set_option maxHeartbeats 8000000 in
theorem all_good (r : Rr) (v u : Value) (N : Nat) (w : World) (h : Blk w N 58 (r.gs v u)) (hq : r.m.b.length + r.buf.length ≤ 20000) :
    Calls Tryz.prog 76 #[.pointer (some ⟨N, 0, none⟩)] w fun en w' => en = .returned (.int .i64 0) ∧ Blk w' N 58 (Rr.gs { r with m := r.m.more r.buf, buf := [] } v u) ∧ w.grownBy w' (some N) := by
  have htk := take_any r v u N r.buf r.buf.length
  rw [List.drop_of_length_le (Nat.le_refl _)] at htk
  obtain ⟨a, t, buf, i, ⟨⟨sm, st, sc, sr, sn⟩, L, b⟩, k, z, ⟨cst, cln, clf, csz⟩, e⟩ := r
  simp only at hq htk ⊢
  have c10 : w.cell? ⟨N, 10, none⟩ = some (.string (Ck.bs b)) := h.cell 10 _ rfl
  have c2 : w.cell? ⟨N, 2, none⟩ = some (.string (Ck.bs buf)) := h.cell 2 _ rfl
  have s1 := Ck.bs_size b
  have s3 := Ck.bs_size buf
  have hcd : decide (20000 - (b.length : Int) < (buf.length : Int)) = false := decide_eq_false (by omega)
  have hlz : ¬ 20000 - (b.length : Int) < (buf.length : Int) := by omega
  have HH := hide h
  clear h
  go_enter Tryz.func76, Tryz.ntmps76
  go_wp2_with fail
  go_quiet (fail)
  go_wp2_with fail
  have B1 := Ck.below_drewN w nq
  have h := HH.out.below B1
  have HO : Hid (w.grownBy (w.drewN nq) (some N)) := only_below (only_refl w N) B1
  clear HH c10 c2 hcd hlz B1
  generalize w.drewN nq = W1 at h HO ⊢
  refine region_upTo 12 11 12 (fun w' => Blk w' N 58 (Rr.gs ⟨a, t, buf, i, ⟨⟨sm, st, sc, sr, sn⟩, L, b⟩, k, z, ⟨cst, cln, clf, csz⟩, e⟩ v u)) (fun w' => Blk w' N 58 (Rr.gs ⟨a, t, buf, i, ⟨⟨sm, st, sc, sr, sn⟩, L, b⟩, k, z, ⟨cst, cln, clf, csz⟩, e⟩ v u)) (fun _ => True) (by kernel_rfl) ⟨h.drew, h.drew, trivial⟩ (fun hHeld => ?_)
  refine upTo_take 12 (S := fun _ => True) (i := 0) (oi := _) (v := .pointer (some ⟨N, 0, none⟩)) rfl (by kernel_rfl) (by kernel_rfl) (by kernel_rfl) (fun _ _ _ h => h) (by decide) (by kernel_rfl) (by kernel_rfl) (fun _ _ _ _ => trivial) hHeld (Or.inl ⟨by rfl, fun wS hSw => by go_simp⟩) (fun hHeld => ?_)
  simp only [Act.put, List.getElem_toArray, List.getElem_cons_zero, List.getElem_cons_succ, List.setIfInBounds_toArray, List.set_cons_zero, List.set_cons_succ]
  refine upTo_take 2 (S := fun _ => True) (i := 1) (oi := _) (v := .pointer (some ⟨N, 0, none⟩)) rfl (by kernel_rfl) (by kernel_rfl) (by kernel_rfl) (fun _ _ _ h => h) (by decide) (by kernel_rfl) (by kernel_rfl) (fun _ _ _ _ => trivial) hHeld (Or.inl ⟨by rfl, fun wS hSw => by go_simp⟩) (fun hHeld => ?_)
  simp only [Act.put, List.getElem_toArray, List.getElem_cons_zero, List.getElem_cons_succ, List.setIfInBounds_toArray, List.set_cons_zero, List.set_cons_succ]
  refine upTo_take 3 (S := fun _ => True) (i := 2) (oi := _) (v := .pointer (some ⟨N, 0, none⟩)) rfl (by kernel_rfl) (by kernel_rfl) (by kernel_rfl) (fun _ _ _ h => h) (by decide) (by kernel_rfl) (by kernel_rfl) (fun _ _ _ _ => trivial) hHeld (Or.inl ⟨by rfl, fun wS hSw => by go_simp⟩) (fun hHeld => ?_)
  simp only [Act.put, List.getElem_toArray, List.getElem_cons_zero, List.getElem_cons_succ, List.setIfInBounds_toArray, List.set_cons_zero, List.set_cons_succ]
  refine upTo_take 4 (S := fun _ => True) (i := 3) (oi := _) (v := .pointer (some ⟨N, 0, none⟩)) rfl (by kernel_rfl) (by kernel_rfl) (by kernel_rfl) (fun _ _ _ h => h) (by decide) (by kernel_rfl) (by kernel_rfl) (fun _ _ _ _ => trivial) hHeld (Or.inl ⟨by rfl, fun wS hSw => by go_simp⟩) (fun hHeld => ?_)
  simp only [Act.put, List.getElem_toArray, List.getElem_cons_zero, List.getElem_cons_succ, List.setIfInBounds_toArray, List.set_cons_zero, List.set_cons_succ]
  refine upTo_take 5 (S := fun _ => True) (i := 4) (oi := _) (v := .pointer (some ⟨N, 2, none⟩)) rfl (by kernel_rfl) (by kernel_rfl) (by kernel_rfl) (fun _ _ _ h => h) (by decide) (by kernel_rfl) (by kernel_rfl) (fun _ _ _ _ => trivial) hHeld (Or.inl ⟨by rfl, fun wS hSw => by go_simp⟩) (fun hHeld => ?_)
  simp only [Act.put, List.getElem_toArray, List.getElem_cons_zero, List.getElem_cons_succ, List.setIfInBounds_toArray, List.set_cons_zero, List.set_cons_succ]
  refine upTo_take 12 (S := (fun w' => Blk w' N 58 (Rr.gs ⟨a, t, buf, i, ⟨⟨sm, st, sc, sr, sn⟩, L, b⟩, k, z, ⟨cst, cln, clf, csz⟩, e⟩ v u))) (i := 5) (oi := _) (v := .string (Ck.bs buf)) rfl (by kernel_rfl) (by kernel_rfl) (by kernel_rfl) (fun _ _ _ h => h) (by decide) (by kernel_rfl) (by kernel_rfl) (fun l w1 hh g => hh.h1 g) hHeld (Or.inl ⟨by rfl, fun wS hSw => by have l2 : World.cell? wS ⟨N, 2, none⟩ = some (.string (Ck.bs buf)) := hSw.cell 2 _ rfl; go_simp⟩) (fun hHeld => ?_)
  simp only [Act.put, List.getElem_toArray, List.getElem_cons_zero, List.getElem_cons_succ, List.setIfInBounds_toArray, List.set_cons_zero, List.set_cons_succ]
  refine upTo_take 7 (S := fun _ => True) (i := 6) (oi := _) (v := .pointer (some ⟨N, 0, none⟩)) rfl (by kernel_rfl) (by kernel_rfl) (by kernel_rfl) (fun _ _ _ h => h) (by decide) (by kernel_rfl) (by kernel_rfl) (fun _ _ _ _ => trivial) hHeld (Or.inl ⟨by rfl, fun wS hSw => by go_simp⟩) (fun hHeld => ?_)
  simp only [Act.put, List.getElem_toArray, List.getElem_cons_zero, List.getElem_cons_succ, List.setIfInBounds_toArray, List.set_cons_zero, List.set_cons_succ]
  refine upTo_take 8 (S := fun _ => True) (i := 7) (oi := _) (v := .pointer (some ⟨N, 0, none⟩)) rfl (by kernel_rfl) (by kernel_rfl) (by kernel_rfl) (fun _ _ _ h => h) (by decide) (by kernel_rfl) (by kernel_rfl) (fun _ _ _ _ => trivial) hHeld (Or.inl ⟨by rfl, fun wS hSw => by go_simp⟩) (fun hHeld => ?_)
  simp only [Act.put, List.getElem_toArray, List.getElem_cons_zero, List.getElem_cons_succ, List.setIfInBounds_toArray, List.set_cons_zero, List.set_cons_succ]
  refine upTo_take 9 (S := fun _ => True) (i := 8) (oi := _) (v := .pointer (some ⟨N, 0, none⟩)) rfl (by kernel_rfl) (by kernel_rfl) (by kernel_rfl) (fun _ _ _ h => h) (by decide) (by kernel_rfl) (by kernel_rfl) (fun _ _ _ _ => trivial) hHeld (Or.inl ⟨by rfl, fun wS hSw => by go_simp⟩) (fun hHeld => ?_)
  simp only [Act.put, List.getElem_toArray, List.getElem_cons_zero, List.getElem_cons_succ, List.setIfInBounds_toArray, List.set_cons_zero, List.set_cons_succ]
  refine upTo_take 10 (S := fun _ => True) (i := 9) (oi := _) (v := .pointer (some ⟨N, 2, none⟩)) rfl (by kernel_rfl) (by kernel_rfl) (by kernel_rfl) (fun _ _ _ h => h) (by decide) (by kernel_rfl) (by kernel_rfl) (fun _ _ _ _ => trivial) hHeld (Or.inl ⟨by rfl, fun wS hSw => by go_simp⟩) (fun hHeld => ?_)
  simp only [Act.put, List.getElem_toArray, List.getElem_cons_zero, List.getElem_cons_succ, List.setIfInBounds_toArray, List.set_cons_zero, List.set_cons_succ]
  refine upTo_take 11 (S := (fun w' => Blk w' N 58 (Rr.gs ⟨a, t, buf, i, ⟨⟨sm, st, sc, sr, sn⟩, L, b⟩, k, z, ⟨cst, cln, clf, csz⟩, e⟩ v u))) (i := 10) (oi := _) (v := .string (Ck.bs buf)) rfl (by kernel_rfl) (by kernel_rfl) (by kernel_rfl) (fun _ _ _ h => h) (by decide) (by kernel_rfl) (by kernel_rfl) (fun l w1 hh g => hh.h2 g) hHeld (Or.inl ⟨by rfl, fun wS hSw => by have l2 : World.cell? wS ⟨N, 2, none⟩ = some (.string (Ck.bs buf)) := hSw.cell 2 _ rfl; go_simp⟩) (fun hHeld => ?_)
  simp only [Act.put, List.getElem_toArray, List.getElem_cons_zero, List.getElem_cons_succ, List.setIfInBounds_toArray, List.set_cons_zero, List.set_cons_succ]
  refine upTo_run (i := 11) (o := _) (by kernel_rfl) rfl (fun K hK => ?_)
  go_simp
  refine hK.out _ _ (⟨fun _ => h.drew, fun g => Bool.noConfusion (show true = false from g), fun _ => trivial⟩) (fun hHeld => ?_)
  clear hK K
  refine upTo_run (i := 12) (o := _) (by kernel_rfl) rfl (fun K hK => ?_)
  go_simp
  refine (htk _ h.drew (Nat.le_refl _) (by omega) (by omega) (by omega)).mono ?_
  rintro en w1 ⟨rfl, hb1, ho1⟩
  refine hK.out _ _ ⟨fun g => Bool.noConfusion (show true = false from g), fun g => Bool.noConfusion (show true = false from g), fun _ => trivial⟩ (fun hHeld => ?_)
  clear hK K
  refine upTo_done (by kernel_rfl) ?_ _
  go_wp2_with fail
  go_ret
  exact ⟨rfl, hb1, only_trans (only_below HO.out (Below.refl _ _).drew) ho1⟩

end Go.Proofs.YtmpijlaidnhpnaaGreat
