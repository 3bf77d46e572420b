/- The walk of what bytes are read as, at once, as the document goes. The walk of WireReads. -/
import Derived.Test.YtmpijlaidnhpnaaGreatJZk
import Derived.Test.YtmpijlaidnhpnaaGreatJYa
import Derived.Test.YtmpijlaidnhpnaaGreatJYe
import Derived.Test.YtmpijlaidnhpnaaGreatJXr
namespace Go.Proofs.YtmpijlaidnhpnaaGreat
set_option linter.unusedVariables false
set_option linter.unusedSimpArgs false
set_option maxRecDepth 100000
open Go.RowKit

structure Stp (p : Prop) : Prop where
  out : p
theorem stop_store {P : Program} {ops : Array Oper} {rest : List Oper} {op : Oper} {a : Act} {w : World} {Q : Exit → Act → World → Prop} {t : TypeId} {x y : Operand} (ho : op.op = .store t x y) (h : Stp (wpList P ops Q (op :: rest) a w)) : wpList P ops Q (op :: rest) a w := h.out
/-- Between two rounds, in memory. -/
structure AT (w wr : World) (N : Nat) (τ : Td) (ua : Option Addr) (uc : Nat) (la : Option Addr) (lc : Nat) (lo : List MV) : Prop where
  n : w.heap.size = N
  b : Below N w wr
  z : Blk wr N 39 [.slice none 0 0, .string ⟨#[]⟩, .bool false, .string ⟨#[]⟩, .string ⟨#[]⟩, .int .i64 0, .string ⟨#[]⟩, .int .i64 0, .slice none 0 0, .string ⟨#[]⟩, .int .i64 0, .int .i64 0]
  x : Blk wr (N + 1) 39 (τ.cs (.slice ua lo.length uc) (.slice la τ.last.L.length lc))
  m : MR wr (N + 2) (.slice ua lo.length uc) lo
  o : lo.map Prod.fst = τ.out
  l : FR wr (.slice la τ.last.L.length lc) τ.last.L
theorem AT.below {w W W' : World} {N : Nat} {τ : Td} {ua : Option Addr} {uc : Nat} {la : Option Addr} {lc : Nat} {lo : List MV} (h : AT w W N τ ua uc la lc lo) (hb : Below W.heap.size W W') : AT w W' N τ ua uc la lc lo :=
  ⟨h.n, h.b.trans (hb.mono (Nat.le_of_lt h.z.lt)), h.z.below hb, h.x.below hb, h.m.below hb, h.o, h.l.below hb⟩
theorem AT.alloc {w W : World} {N : Nat} {τ : Td} {ua : Option Addr} {uc : Nat} {la : Option Addr} {lc : Nat} {lo : List MV} (h : AT w W N τ ua uc la lc lo) (o : Obj) : AT w (W.alloc o) N τ ua uc la lc lo := h.below ((Below.refl _ _).alloc (Nat.le_refl _) o)
theorem AT.only {w W : World} {N : Nat} {τ : Td} {ua : Option Addr} {uc : Nat} {la : Option Addr} {lc : Nat} {lo : List MV} (h : AT w W N τ ua uc la lc lo) (vs : List Value) : W.grownBy (W.setCells N 0 vs) (some N) := only_sets vs 0 (only_refl W N)
/-- Another cell, which is no row. -/
theorem AT.put {w W : World} {N : Nat} {τ τ' : Td} {ua : Option Addr} {uc : Nat} {la : Option Addr} {lc : Nat} {lo : List MV} (h : AT w W N τ ua uc la lc lo) (i : Nat) (v : Value) (hi : i < 12)
    (hx : (τ.cs (.slice ua lo.length uc) (.slice la τ.last.L.length lc)).set i v = τ'.cs (.slice ua lo.length uc) (.slice la τ'.last.L.length lc)) (ho : τ'.out = τ.out) (hl : τ'.last = τ.last) : AT w (W.setCell ⟨N + 1, i, none⟩ v) N τ' ua uc la lc lo := by
  have hg := only_set (only_refl W (N + 1)) i v
  have hx2 := h.x.set i hi v
  rw [hx] at hx2
  refine ⟨h.n, h.b.trans (below_only hg (Nat.le_succ _) (Nat.le_of_lt h.z.lt)), h.z.other _ _ _ (by omega), hx2, h.m.only hg (by rw [h.x.ty]; decide) (by rw [h.x.ty]; decide), by rw [ho]; exact h.o, ?_⟩
  rw [hl]
  exact h.l.keep (Kf.only hg (by rw [h.x.ty]; decide))
/-- How much is left to be read. -/
def muT (w : World) (N : Nat) : Nat := match w.cell? ⟨N + 1, 1, none⟩, w.cell? ⟨N + 1, 2, none⟩, w.cell? ⟨N + 1, 11, none⟩ with
  | some (.string s), some (.bool b), some (.int _ e) => if e = 0 ∧ b = false then s.size + 1 else 0
  | _, _, _ => 0
theorem AT.mu {w W : World} {N : Nat} {τ : Td} {ua : Option Addr} {uc : Nat} {la : Option Addr} {lc : Nat} {lo : List MV} (h : AT w W N τ ua uc la lc lo) : muT W N = if τ.e = 0 ∧ τ.i = false then τ.left.length + 1 else 0 := by
  unfold muT
  rw [h.x.cell 1 _ rfl, h.x.cell 2 _ rfl, h.x.cell 11 _ rfl]
  simp only [Ck.bs_size]
/-- What is told of all. -/
def AllP (w : World) (base : Nat) (a : Bool) (t : ByteArray) (s : List UInt8) (en : Ending) : Prop := ∃ τ, BdP w base τ en ∧ Done τ (go (fresh a t s))
set_option maxHeartbeats 16000000 in
theorem refall_any (a : Bool) (t : ByteArray) (s : List UInt8) (w : World) (hs : s.length ≤ 9000) :
    Calls Tryz.prog 9 #[.bool a, .string t, .string (Ck.bs s)] w fun en w' => AllP w' w.heap.size a t s en ∧ Below w.heap.size w w' := by
  obtain ⟨q, hq⟩ : ∃ q, go (fresh a t s) = q := ⟨_, rfl⟩
  have HO := open_start a t s
  unfold AllP
  rw [hq] at HO ⊢
  clear hq
  have hA : AT w ((w.alloc (.cells #[.slice none 0 0, .string ⟨#[]⟩, .bool false, .string ⟨#[]⟩, .string ⟨#[]⟩, .int .i64 0, .string ⟨#[]⟩, .int .i64 0, .slice none 0 0, .string ⟨#[]⟩, .int .i64 0, .int .i64 0] 39)).alloc (.cells #[.slice none 0 0, .string (Ck.bs s), .bool false, .string ⟨#[]⟩, .string ⟨#[]⟩, .int .i64 0, .string ⟨#[]⟩, .int .i64 0, .slice none 0 0, .string ⟨#[]⟩, .int .i64 0, .int .i64 0] 39)) w.heap.size (td0 s) none 0 none 0 [] := by
    have h1 := Blk.new w 39 [.slice none 0 0, .string ⟨#[]⟩, .bool false, .string ⟨#[]⟩, .string ⟨#[]⟩, .int .i64 0, .string ⟨#[]⟩, .int .i64 0, .slice none 0 0, .string ⟨#[]⟩, .int .i64 0, .int .i64 0]
    have h2 := Blk.new (w.alloc (.cells #[.slice none 0 0, .string ⟨#[]⟩, .bool false, .string ⟨#[]⟩, .string ⟨#[]⟩, .int .i64 0, .string ⟨#[]⟩, .int .i64 0, .slice none 0 0, .string ⟨#[]⟩, .int .i64 0, .int .i64 0] 39)) 39 ((td0 s).cs (.slice none 0 0) (.slice none 0 0))
    rw [show (w.alloc (.cells #[.slice none 0 0, .string ⟨#[]⟩, .bool false, .string ⟨#[]⟩, .string ⟨#[]⟩, .int .i64 0, .string ⟨#[]⟩, .int .i64 0, .slice none 0 0, .string ⟨#[]⟩, .int .i64 0, .int .i64 0] 39)).heap.size = w.heap.size + 1 by simp] at h2
    exact ⟨rfl, ((Below.refl _ _).alloc (Nat.le_refl _) _).alloc (by simp) _, h1.alloc _, h2, MR.nil _ _, rfl, FR.nil _⟩
  have hfew : (td0 s).out.length + (td0 s).left.length ≤ 9000 := by show 0 + s.length ≤ 9000; omega
  have HG : Hid (Goes a t (td0 s) q) := Or.inl HO
  clear HO
  generalize td0 s = τ0 at hA hfew HG
  go_enter Tryz.func9, Tryz.ntmps9
  go_upto_region 2 with fail
  generalize World.alloc (World.alloc _ _) _ = V0 at hA ⊢
  generalize hN : w.heap.size = N at hA ⊢
  go_loopw [8, 9, 10, 11, 12] (fun _ _ _ _ _ wr => ∃ (τ : Td) (ua : Option Addr) (uc : Nat) (la : Option Addr) (lc : Nat) (lo : List MV), AT w wr N τ ua uc la lc lo ∧ τ.out.length + τ.left.length ≤ 9000 ∧ Hid (Goes a t τ q)) (fun _ _ _ _ _ wr => muT wr N)
  case atStart => exact ⟨τ0, none, 0, none, 0, [], hA, hfew, HG⟩
  case round =>
    clear hA hfew HG
    obtain ⟨τ, ua, uc, la, lc, lo, hA, hfew, HG⟩ := hrel
    rcases HG.out with HOp | ⟨hne, hDn⟩
    · obtain ⟨out, left, i, last, k, e⟩ := τ
      obtain ⟨he, hi, hla, -⟩ := id HOp
      simp only at he hi hla
      subst he
      subst hi
      have hmu := hA.mu
      rw [if_pos ⟨rfl, rfl⟩] at hmu
      simp only at hmu hfew
      have HOP := hide HOp
      have HLA := hide hla
      have hX : Blk wr (N + 1) 39 [.slice ua lo.length uc, .string (Ck.bs left), .bool false, .string last.s.m, .string last.s.t, .int .i64 last.s.c, .string last.s.r, .int .i64 last.s.n, .slice la last.L.length lc, .string (Ck.bs last.b), .int .i64 k, .int .i64 0] := hA.x
      have hsk := fun W => refskip_any left W (by omega)
      have hls := Ck.bs_size left
      clear HOp hla HG
      have x1 := hX.cell 1 _ rfl
      have x2 := hX.cell 2 _ rfl
      have x11 := hX.cell 11 _ rfl
      have xf := hX.fz
      go_upto_if 23 with fail
      go_cut [8] (fun _ wd => AT w wd N ⟨out, lead a left, false, last, k, 0⟩ ua uc la lc lo)
      case first =>
        cases a
        · go_wp2_with fail
          go_meet
          exact hA
        · go_wp2_with fail
          refine (hsk _).mono ?_
          rintro en w3 ⟨rfl, rfl⟩
          go_wp2_with fail
          go_meet
          exact hA.put 1 _ (by decide) rfl rfl rfl
      case rest =>
        clear hA hX hsk x1 x2 x11 xf hls
        have hA := hcut
        clear hcut
        have hll := lead_le a left
        obtain ⟨l, hl⟩ : ∃ l, lead a left = l := ⟨_, rfl⟩
        rw [hl] at hA hll
        have HL := hide hl
        clear hl
        have hend := fun W => Hd.refend_any (Ck.bs l) W (by rw [Ck.bs_size]; omega)
        rw [Ck.bs_list] at hend
        have hls := Ck.bs_size l
        have hX : Blk wc (N + 1) 39 [.slice ua lo.length uc, .string (Ck.bs l), .bool false, .string last.s.m, .string last.s.t, .int .i64 last.s.c, .string last.s.r, .int .i64 last.s.n, .slice la last.L.length lc, .string (Ck.bs last.b), .int .i64 k, .int .i64 0] := hA.x
        have x1 := hX.cell 1 _ rfl
        have x2 := hX.cell 2 _ rfl
        have x11 := hX.cell 11 _ rfl
        have xf := hX.fz
        rcases en_three l with ⟨n, h, h1, h2, h3, -⟩ | ⟨h, -⟩ | ⟨-, h⟩
        · obtain ⟨p, b, hpb, hb, hp⟩ := en_form h
          have hpl : (p ++ b).length ≤ 4000 := by rw [← hpb, List.length_take]; omega
          have hhd := fun W => refhead_any a t p b W hp hb hpl
          rw [← hpb] at hhd
          have hxa := ext_take_bs l n
          have hxb := ext_drop_bs l n
          have hgo := hh_good (a := a) (t := t) (l := l.take n)
          have HE := hide h
          have HHD := hide (And.intro (fun hb => open_head HOP.out (n := n) (by rw [HL.out]; exact h) hb) (And.intro (fun hb hc => open_over HOP.out (n := n) (by rw [HL.out]; exact h) hb hc) (fun hb hc => open_body HOP.out (n := n) (by rw [HL.out]; exact h) hb hc)))
          simp only [HL.out] at HHD
          have hld : (l.drop n).length + 1 ≤ left.length := by rw [List.length_drop]; omega
          simp only [h] at hend
          generalize l.take n = tk at hhd hxa HHD hgo
          generalize l.drop n = dr at hxb HHD hld
          generalize hhF a t tk = H at hhd HHD hgo
          have hni : (n : Int) ≤ ((Ck.bs l).size : Int) := by omega
          have hls2 : ((Ck.bs l).size : Int) ≤ 9000 := by omega
          clear hpb hb hp hpl h h1 h2 h3 HE hls
          go_wp2_with fail
          refine (hend _).mono ?_
          rintro en w3 ⟨rfl, rfl⟩
          go_wp2_with fail
          refine (hhd _).mono ?_
          rintro en w4 ⟨⟨m, va, vn, vc, K, Z, rfl, hgd⟩, hb4⟩
          replace hA := hA.below hb4
          clear hend hhd hb4 x1 x2 x11 xf hX
          unfold Ms.v
          go_upto_region 12 with fail
          have hNM : N + 1 < w4.heap.size := hA.x.lt
          have hMb : Blk ((w4.alloc (.cells #[.string m.s.m, .string m.s.t, .int .i64 m.s.c, .string m.s.r, .int .i64 m.s.n, .slice va vn vc, .string (Ck.bs m.b)] 26)).alloc (.cells #[.int .i64 K, .int .i64 Z] 28)) w4.heap.size 26 [.string m.s.m, .string m.s.t, .int .i64 m.s.c, .string m.s.r, .int .i64 m.s.n, .slice va vn vc, .string (Ck.bs m.b)] := (Blk.new w4 26 [.string m.s.m, .string m.s.t, .int .i64 m.s.c, .string m.s.r, .int .i64 m.s.n, .slice va vn vc, .string (Ck.bs m.b)]).alloc _
          have hKb : Blk ((w4.alloc (.cells #[.string m.s.m, .string m.s.t, .int .i64 m.s.c, .string m.s.r, .int .i64 m.s.n, .slice va vn vc, .string (Ck.bs m.b)] 26)).alloc (.cells #[.int .i64 K, .int .i64 Z] 28)) (w4.heap.size + 1) 28 [.int .i64 K, .int .i64 Z] := by
            have := Blk.new (w4.alloc (.cells #[.string m.s.m, .string m.s.t, .int .i64 m.s.c, .string m.s.r, .int .i64 m.s.n, .slice va vn vc, .string (Ck.bs m.b)] 26)) 28 [.int .i64 K, .int .i64 Z]
            rwa [show (w4.alloc (.cells #[.string m.s.m, .string m.s.t, .int .i64 m.s.c, .string m.s.r, .int .i64 m.s.n, .slice va vn vc, .string (Ck.bs m.b)] 26)).heap.size = w4.heap.size + 1 by simp] at this
          have hFm : H.e = 0 → FR ((w4.alloc (.cells #[.string m.s.m, .string m.s.t, .int .i64 m.s.c, .string m.s.r, .int .i64 m.s.n, .slice va vn vc, .string (Ck.bs m.b)] 26)).alloc (.cells #[.int .i64 K, .int .i64 Z] 28)) (.slice va vn vc) m.L := fun e => (hgd e).2.2.2.below (((Below.refl _ _).alloc (Nat.le_refl _) _).alloc (by simp) _)
          replace hA := (hA.alloc (.cells #[.string m.s.m, .string m.s.t, .int .i64 m.s.c, .string m.s.r, .int .i64 m.s.n, .slice va vn vc, .string (Ck.bs m.b)] 26)).alloc (.cells #[.int .i64 K, .int .i64 Z] 28)
          generalize World.alloc (World.alloc w4 _) _ = V1 at hA hMb hKb hFm ⊢
          generalize w4.heap.size = M at hNM hMb hKb ⊢
          have hX : Blk V1 (N + 1) 39 [.slice ua lo.length uc, .string (Ck.bs l), .bool false, .string last.s.m, .string last.s.t, .int .i64 last.s.c, .string last.s.r, .int .i64 last.s.n, .slice la last.L.length lc, .string (Ck.bs last.b), .int .i64 k, .int .i64 0] := hA.x
          have x1 := hX.cell 1 _ rfl
          have x2 := hX.cell 2 _ rfl
          have x11 := hX.cell 11 _ rfl
          have xf := hX.fz
          replace hA : AT w (V1.setCell ⟨N + 1, 1, none⟩ (.string (Ck.bs dr))) N ⟨out, dr, false, last, k, 0⟩ ua uc la lc lo := hA.put 1 _ (by decide) rfl rfl rfl
          replace hMb := hMb.other (N + 1) 1 (.string (Ck.bs dr)) (by omega)
          replace hKb := hKb.other (N + 1) 1 (.string (Ck.bs dr)) (by omega)
          replace hFm : H.e = 0 → FR (V1.setCell ⟨N + 1, 1, none⟩ (.string (Ck.bs dr))) (.slice va vn vc) m.L := fun e => (hFm e).keep (Kf.only (only_set (only_refl V1 (N + 1)) 1 (.string (Ck.bs dr))) (by rw [hX.ty]; decide))
          go_upto_region 13 with fail
          clear x1 x2 x11 xf hX
          generalize World.setCell _ _ _ = V2 at hA hMb hKb hFm ⊢
          have hX : Blk V2 (N + 1) 39 [.slice ua lo.length uc, .string (Ck.bs dr), .bool false, .string last.s.m, .string last.s.t, .int .i64 last.s.c, .string last.s.r, .int .i64 last.s.n, .slice la last.L.length lc, .string (Ck.bs last.b), .int .i64 k, .int .i64 0] := hA.x
          have x1 := hX.cell 1 _ rfl
          have x2 := hX.cell 2 _ rfl
          have x11 := hX.cell 11 _ rfl
          have xf := hX.fz
          replace hA : AT w (V2.setCell ⟨N + 1, 11, none⟩ (.int .i64 H.e)) N ⟨out, dr, false, last, k, H.e⟩ ua uc la lc lo := hA.put 11 _ (by decide) rfl rfl rfl
          replace hMb := hMb.other (N + 1) 11 (.int .i64 H.e) (by omega)
          replace hKb := hKb.other (N + 1) 11 (.int .i64 H.e) (by omega)
          replace hFm : H.e = 0 → FR (V2.setCell ⟨N + 1, 11, none⟩ (.int .i64 H.e)) (.slice va vn vc) m.L := fun e => (hFm e).keep (Kf.only (only_set (only_refl V2 (N + 1)) 11 (.int .i64 H.e)) (by rw [hX.ty]; decide))
          go_upto_region 14 with fail
          clear x1 x2 x11 xf hX hxa hxb
          generalize World.setCell _ _ _ = V3 at hA hMb hKb hFm ⊢
          by_cases hHe : H.e = 0
          · have heb : ((0 : Int) == 0) = true := rfl
            obtain ⟨rfl, rfl, rfl, -⟩ := hgd hHe
            replace hFm := hFm hHe
            obtain ⟨a', c', e'⟩ := hFm.row.slice
            injection e' with e1 e2 e3
            subst e1 e2 e3
            have hlg := (hgo hHe).2.2
            have hz := lg_size hlg
            have hL := (hgo hHe).2.1
            rw [hHe] at hA
            have HHE := hide hHe
            clear hgd hgo hlg
            have hX : Blk V3 (N + 1) 39 [.slice ua lo.length uc, .string (Ck.bs dr), .bool false, .string last.s.m, .string last.s.t, .int .i64 last.s.c, .string last.s.r, .int .i64 last.s.n, .slice la last.L.length lc, .string (Ck.bs last.b), .int .i64 k, .int .i64 0] := hA.x
            have m2 := hMb.cell 2 _ rfl
            have mf := hMb.fz
            rw [hHe]
            clear hHe
            have hllo : lo.length ≤ 9000 := by have := congrArg List.length hA.o; rw [List.length_map] at this; simp only at this; omega
            have hbd := refbody_any out dr last k H.s H.L H.k H.z ua la va uc lc vc lo (N + 2) V3 hz (by omega) hA.m hA.o hllo hA.l hFm (by have := hA.x.lt; omega)
            unfold Td.v Ms.v at hbd
            dsimp only at hbd
            have HBD := hide hbd
            clear hbd
            cases a
            · by_cases hc : 200 ≤ H.s.c
              · have hG5 := hide (HHD.out.2.2 HHE.out (Or.inr hc))
                go_wp2_with (first | (refine wpList_load_mid rfl 39 (.tmp 7) rfl (N + 1) 0 rfl [.slice ua lo.length uc, .string (Ck.bs dr), .bool false, .string last.s.m, .string last.s.t, .int .i64 last.s.c, .string last.s.r, .int .i64 last.s.n, .slice la last.L.length lc, .string (Ck.bs last.b), .int .i64 k, .int .i64 0] _ (hX.range 0 12) Tryz.underlying39 rfl (by kernel_rfl) ?_) | (refine wpList_load_mid rfl 26 (.tmp 10) rfl M 0 rfl [.string H.s.m, .string H.s.t, .int .i64 H.s.c, .string H.s.r, .int .i64 H.s.n, .slice va H.L.length vc, .string (Ck.bs [])] _ (hMb.range 0 7) Tryz.underlying26 rfl (by kernel_rfl) ?_) | (refine wpList_load_mid rfl 28 (.tmp 11) rfl (M + 1) 0 rfl [.int .i64 H.k, .int .i64 H.z] _ (hKb.range 0 2) Tryz.underlying28 rfl (by kernel_rfl) ?_))
                refine HBD.out.mono ?_
                rintro en w5 ⟨⟨uo, vl, lo5, rfl, hM5, ho5, hF5⟩, hb5⟩
                obtain ⟨ua5, uc5, rfl, -, -⟩ := hM5.mrow
                obtain ⟨la5, lc5, rfl⟩ := hF5.row.slice
                have hfw := body_few ⟨out, dr, false, last, k, 0⟩ ⟨H.s, H.L, []⟩ H.k H.z
                simp only at hfw
                generalize bodyT ⟨out, dr, false, last, k, 0⟩ ⟨H.s, H.L, []⟩ H.k H.z = τ5 at hM5 ho5 hF5 hfw hG5 ⊢
                have hx5 := hX.keep (hb5.block (N + 1) (by omega))
                have hz5 := hA.z.keep (hb5.block N (by omega))
                have hB5 := hA.b.trans (hb5.mono (by omega))
                have hg6 := only_sets [.slice ua5 lo5.length uc5, .string (Ck.bs τ5.left), .bool τ5.i, .string τ5.last.s.m, .string τ5.last.s.t, .int .i64 τ5.last.s.c, .string τ5.last.s.r, .int .i64 τ5.last.s.n, .slice la5 τ5.last.L.length lc5, .string (Ck.bs τ5.last.b), .int .i64 τ5.k, .int .i64 τ5.e] 0 (only_refl w5 (N + 1))
                have hA6 : AT w (w5.setCells (N + 1) 0 [.slice ua5 lo5.length uc5, .string (Ck.bs τ5.left), .bool τ5.i, .string τ5.last.s.m, .string τ5.last.s.t, .int .i64 τ5.last.s.c, .string τ5.last.s.r, .int .i64 τ5.last.s.n, .slice la5 τ5.last.L.length lc5, .string (Ck.bs τ5.last.b), .int .i64 τ5.k, .int .i64 τ5.e]) N τ5 ua5 uc5 la5 lc5 lo5 :=
                  ⟨hA.n, hB5.trans (below_only hg6 (Nat.le_succ _) (Nat.le_of_lt hz5.lt)), hz5.keep (hg6.block N hz5.lt (by simp)), hx5.sets [.slice ua5 lo5.length uc5, .string (Ck.bs τ5.left), .bool τ5.i, .string τ5.last.s.m, .string τ5.last.s.t, .int .i64 τ5.last.s.c, .string τ5.last.s.r, .int .i64 τ5.last.s.n, .slice la5 τ5.last.L.length lc5, .string (Ck.bs τ5.last.b), .int .i64 τ5.k, .int .i64 τ5.e] 0 (show 0 + 12 ≤ 12 by decide), hM5.only hg6 (by rw [hx5.ty]; decide) (by rw [hx5.ty]; decide), ho5, hF5.keep (Kf.only hg6 (by rw [hx5.ty]; decide))⟩
                have hth := hx5.there 0 12 (show 0 + 12 ≤ 12 by decide)
                have HQ := hide hA6
                clear hA6 hg6 hB5 hz5 hx5 hM5 ho5 hF5 hb5 HBD
                clear hX hMb hKb hFm m2 mf hA
                go_wp2_with (refine stop_store (t := 39) rfl ?_)
                refine ⟨?_⟩
                refine wpList_store_mid rfl 39 (.tmp 7) (.tmp 74) rfl (N + 1) 0 #[.slice ua5 lo5.length uc5, .string (Ck.bs τ5.left), .bool τ5.i, .string τ5.last.s.m, .string τ5.last.s.t, .int .i64 τ5.last.s.c, .string τ5.last.s.r, .int .i64 τ5.last.s.n, .slice la5 τ5.last.L.length lc5, .string (Ck.bs τ5.last.b), .int .i64 τ5.k, .int .i64 τ5.e] rfl rfl hth (by kernel_rfl) (by simp [Value.oneCell']) ?_
                have hA := HQ.out
                generalize World.setCells _ _ _ _ = W8 at hA ⊢
                clear HQ hth
                simp only [Act.put]
                go_wp2_with fail
                refine ⟨⟨τ5, ua5, uc5, la5, lc5, lo5, hA, by omega, hG5⟩, ?_⟩
                rw [hA.mu, hmu]
                split
                · omega
                · omega
              · have hG5 := HHD.out.2.1 HHE.out (by rintro (e | e); exact absurd e (by decide); exact hc e)
                have hcd : decide ((200 : Int) ≤ H.s.c) = false := decide_eq_false hc
                clear hc
                go_wp2_with fail
                refine ⟨⟨_, ua, uc, la, lc, lo, hA, ?_, hG5⟩, ?_⟩
                · show out.length + dr.length ≤ 9000
                  omega
                · rw [hA.mu, hmu, if_pos ⟨rfl, rfl⟩]; show dr.length + 1 < _; omega
            · have hG5 := hide (HHD.out.2.2 HHE.out (Or.inl rfl))
              go_wp2_with (first | (refine wpList_load_mid rfl 39 (.tmp 7) rfl (N + 1) 0 rfl [.slice ua lo.length uc, .string (Ck.bs dr), .bool false, .string last.s.m, .string last.s.t, .int .i64 last.s.c, .string last.s.r, .int .i64 last.s.n, .slice la last.L.length lc, .string (Ck.bs last.b), .int .i64 k, .int .i64 0] _ (hX.range 0 12) Tryz.underlying39 rfl (by kernel_rfl) ?_) | (refine wpList_load_mid rfl 26 (.tmp 10) rfl M 0 rfl [.string H.s.m, .string H.s.t, .int .i64 H.s.c, .string H.s.r, .int .i64 H.s.n, .slice va H.L.length vc, .string (Ck.bs [])] _ (hMb.range 0 7) Tryz.underlying26 rfl (by kernel_rfl) ?_) | (refine wpList_load_mid rfl 28 (.tmp 11) rfl (M + 1) 0 rfl [.int .i64 H.k, .int .i64 H.z] _ (hKb.range 0 2) Tryz.underlying28 rfl (by kernel_rfl) ?_))
              refine HBD.out.mono ?_
              rintro en w5 ⟨⟨uo, vl, lo5, rfl, hM5, ho5, hF5⟩, hb5⟩
              obtain ⟨ua5, uc5, rfl, -, -⟩ := hM5.mrow
              obtain ⟨la5, lc5, rfl⟩ := hF5.row.slice
              have hfw := body_few ⟨out, dr, false, last, k, 0⟩ ⟨H.s, H.L, []⟩ H.k H.z
              simp only at hfw
              generalize bodyT ⟨out, dr, false, last, k, 0⟩ ⟨H.s, H.L, []⟩ H.k H.z = τ5 at hM5 ho5 hF5 hfw hG5 ⊢
              have hx5 := hX.keep (hb5.block (N + 1) (by omega))
              have hz5 := hA.z.keep (hb5.block N (by omega))
              have hB5 := hA.b.trans (hb5.mono (by omega))
              have hg6 := only_sets [.slice ua5 lo5.length uc5, .string (Ck.bs τ5.left), .bool τ5.i, .string τ5.last.s.m, .string τ5.last.s.t, .int .i64 τ5.last.s.c, .string τ5.last.s.r, .int .i64 τ5.last.s.n, .slice la5 τ5.last.L.length lc5, .string (Ck.bs τ5.last.b), .int .i64 τ5.k, .int .i64 τ5.e] 0 (only_refl w5 (N + 1))
              have hA6 : AT w (w5.setCells (N + 1) 0 [.slice ua5 lo5.length uc5, .string (Ck.bs τ5.left), .bool τ5.i, .string τ5.last.s.m, .string τ5.last.s.t, .int .i64 τ5.last.s.c, .string τ5.last.s.r, .int .i64 τ5.last.s.n, .slice la5 τ5.last.L.length lc5, .string (Ck.bs τ5.last.b), .int .i64 τ5.k, .int .i64 τ5.e]) N τ5 ua5 uc5 la5 lc5 lo5 :=
                ⟨hA.n, hB5.trans (below_only hg6 (Nat.le_succ _) (Nat.le_of_lt hz5.lt)), hz5.keep (hg6.block N hz5.lt (by simp)), hx5.sets [.slice ua5 lo5.length uc5, .string (Ck.bs τ5.left), .bool τ5.i, .string τ5.last.s.m, .string τ5.last.s.t, .int .i64 τ5.last.s.c, .string τ5.last.s.r, .int .i64 τ5.last.s.n, .slice la5 τ5.last.L.length lc5, .string (Ck.bs τ5.last.b), .int .i64 τ5.k, .int .i64 τ5.e] 0 (show 0 + 12 ≤ 12 by decide), hM5.only hg6 (by rw [hx5.ty]; decide) (by rw [hx5.ty]; decide), ho5, hF5.keep (Kf.only hg6 (by rw [hx5.ty]; decide))⟩
              have hth := hx5.there 0 12 (show 0 + 12 ≤ 12 by decide)
              have HQ := hide hA6
              clear hA6 hg6 hB5 hz5 hx5 hM5 ho5 hF5 hb5 HBD
              clear hX hMb hKb hFm m2 mf hA
              go_wp2_with (refine stop_store (t := 39) rfl ?_)
              refine ⟨?_⟩
              refine wpList_store_mid rfl 39 (.tmp 7) (.tmp 74) rfl (N + 1) 0 #[.slice ua5 lo5.length uc5, .string (Ck.bs τ5.left), .bool τ5.i, .string τ5.last.s.m, .string τ5.last.s.t, .int .i64 τ5.last.s.c, .string τ5.last.s.r, .int .i64 τ5.last.s.n, .slice la5 τ5.last.L.length lc5, .string (Ck.bs τ5.last.b), .int .i64 τ5.k, .int .i64 τ5.e] rfl rfl hth (by kernel_rfl) (by simp [Value.oneCell']) ?_
              have hA := HQ.out
              generalize World.setCells _ _ _ _ = W8 at hA ⊢
              clear HQ hth
              simp only [Act.put]
              go_wp2_with fail
              refine ⟨⟨τ5, ua5, uc5, la5, lc5, lo5, hA, by omega, hG5⟩, ?_⟩
              rw [hA.mu, hmu]
              split
              · omega
              · omega
          · have heb : (H.e == 0) = false := by simpa using hHe
            have HG2 := hide (HHD.out.1 hHe)
            clear hFm hgd hgo
            go_wp2_with fail
            refine ⟨⟨_, ua, uc, la, lc, lo, hA, ?_, HG2⟩, ?_⟩
            · show out.length + dr.length ≤ 9000
              omega
            · rw [hA.mu, hmu, if_neg (fun e => hHe e.1)]; omega
        · have HD := hide (open_wait HOP.out (by rw [HL.out, h]))
          rw [HL.out] at HD
          simp only [h] at hend
          go_wp2_with fail
          refine (hend _).mono ?_
          rintro en w3 ⟨rfl, rfl⟩
          clear x1 x2 x11
          have hW := hA.z.lt
          have hO8 := hA.z.sets [.slice ua lo.length uc, .string (Ck.bs l), .bool false, .string last.s.m, .string last.s.t, .int .i64 last.s.c, .string last.s.r, .int .i64 last.s.n, .slice la last.L.length lc, .string (Ck.bs last.b), .int .i64 k, .int .i64 0] 0 (show 0 + 12 ≤ 12 by decide)
          have hg8 := hA.only [.slice ua lo.length uc, .string (Ck.bs l), .bool false, .string last.s.m, .string last.s.t, .int .i64 last.s.c, .string last.s.r, .int .i64 last.s.n, .slice la last.L.length lc, .string (Ck.bs last.b), .int .i64 k, .int .i64 0]
          have hth := hA.z.there 0 12 (show 0 + 12 ≤ 12 by decide)
          have HQ := hide (And.intro hO8 hg8)
          clear hO8 hg8
          go_wp2_with (first | (refine wpList_load_mid rfl 39 (.tmp 7) rfl (N + 1) 0 rfl [.slice ua lo.length uc, .string (Ck.bs l), .bool false, .string last.s.m, .string last.s.t, .int .i64 last.s.c, .string last.s.r, .int .i64 last.s.n, .slice la last.L.length lc, .string (Ck.bs last.b), .int .i64 k, .int .i64 0] _ (hX.range 0 12) Tryz.underlying39 rfl (by kernel_rfl) ?_) | (refine wpList_store_mid rfl 39 (.tmp 6) (.tmp 36) rfl N 0 #[.slice ua lo.length uc, .string (Ck.bs l), .bool false, .string last.s.m, .string last.s.t, .int .i64 last.s.c, .string last.s.r, .int .i64 last.s.n, .slice la last.L.length lc, .string (Ck.bs last.b), .int .i64 k, .int .i64 0] rfl rfl hth (by kernel_rfl) (by simp [Value.oneCell']) ?_; obtain ⟨hO9, hg9⟩ := HQ.out; generalize World.setCells _ _ _ _ = W8 at hO9 hg9 ⊢; clear HQ hth))
          have o0 := hO9.cell 0 _ rfl
          have o1 := hO9.cell 1 _ rfl
          have o2 := hO9.cell 2 _ rfl
          have o3 := hO9.cell 3 _ rfl
          have o4 := hO9.cell 4 _ rfl
          have o5 := hO9.cell 5 _ rfl
          have o6 := hO9.cell 6 _ rfl
          have o7 := hO9.cell 7 _ rfl
          have o8 := hO9.cell 8 _ rfl
          have o9 := hO9.cell 9 _ rfl
          have o10 := hO9.cell 10 _ rfl
          have o11 := hO9.cell 11 _ rfl
          have hM9 := (hA.m.only hg9 (by rw [hA.z.ty]; decide) (by rw [hA.z.ty]; decide)).lower (b' := N) (by omega)
          have hF9 := hA.l.keep (Kf.only hg9 (by rw [hA.z.ty]; decide))
          have hB9 : Below N w W8 := hA.b.trans (below_only hg9 (Nat.le_refl _) (Nat.le_of_lt hW))
          rw [← hN] at hM9 hB9
          refine bodyPost_ret (v := .agg #[.slice ua lo.length uc, .string (Ck.bs l), .bool false, .string last.s.m, .string last.s.t, .int .i64 last.s.c, .string last.s.r, .int .i64 last.s.n, .slice la last.L.length lc, .string (Ck.bs last.b), .int .i64 k, .int .i64 0]) (by simp [results, Tryz.results9, go_sem, o0, o1, o2, o3, o4, o5, o6, o7, o8, o9, o10, o11]) rfl ⟨⟨⟨out, l, false, last, k, 0⟩, ⟨.slice ua lo.length uc, _, lo, rfl, hM9, hA.o, hF9⟩, HD.out⟩, hB9⟩
        · have HD := hide (open_stop HOP.out (by rw [HL.out, h]; decide) (by rw [HL.out, h]; decide))
          rw [HL.out] at HD
          simp only [h] at hend HD
          go_wp2_with fail
          refine (hend _).mono ?_
          rintro en w3 ⟨rfl, rfl⟩
          clear x1 x2
          replace hA : AT w (w3.setCell ⟨N + 1, 11, none⟩ (.int .i64 2)) N ⟨out, l, false, last, k, 2⟩ ua uc la lc lo := hA.put 11 _ (by decide) rfl rfl rfl
          go_upto_region 10 with fail
          generalize World.setCell _ _ _ = V at hA ⊢
          clear hX x11 xf
          have hX : Blk V (N + 1) 39 [.slice ua lo.length uc, .string (Ck.bs l), .bool false, .string last.s.m, .string last.s.t, .int .i64 last.s.c, .string last.s.r, .int .i64 last.s.n, .slice la last.L.length lc, .string (Ck.bs last.b), .int .i64 k, .int .i64 2] := hA.x
          have hW := hA.z.lt
          have hO8 := hA.z.sets [.slice ua lo.length uc, .string (Ck.bs l), .bool false, .string last.s.m, .string last.s.t, .int .i64 last.s.c, .string last.s.r, .int .i64 last.s.n, .slice la last.L.length lc, .string (Ck.bs last.b), .int .i64 k, .int .i64 2] 0 (show 0 + 12 ≤ 12 by decide)
          have hg8 := hA.only [.slice ua lo.length uc, .string (Ck.bs l), .bool false, .string last.s.m, .string last.s.t, .int .i64 last.s.c, .string last.s.r, .int .i64 last.s.n, .slice la last.L.length lc, .string (Ck.bs last.b), .int .i64 k, .int .i64 2]
          have hth := hA.z.there 0 12 (show 0 + 12 ≤ 12 by decide)
          have HQ := hide (And.intro hO8 hg8)
          clear hO8 hg8
          go_wp2_with (first | (refine wpList_load_mid rfl 39 (.tmp 7) rfl (N + 1) 0 rfl [.slice ua lo.length uc, .string (Ck.bs l), .bool false, .string last.s.m, .string last.s.t, .int .i64 last.s.c, .string last.s.r, .int .i64 last.s.n, .slice la last.L.length lc, .string (Ck.bs last.b), .int .i64 k, .int .i64 2] _ (hX.range 0 12) Tryz.underlying39 rfl (by kernel_rfl) ?_) | (refine wpList_store_mid rfl 39 (.tmp 6) (.tmp 41) rfl N 0 #[.slice ua lo.length uc, .string (Ck.bs l), .bool false, .string last.s.m, .string last.s.t, .int .i64 last.s.c, .string last.s.r, .int .i64 last.s.n, .slice la last.L.length lc, .string (Ck.bs last.b), .int .i64 k, .int .i64 2] rfl rfl hth (by kernel_rfl) (by simp [Value.oneCell']) ?_; obtain ⟨hO9, hg9⟩ := HQ.out; generalize World.setCells _ _ _ _ = W8 at hO9 hg9 ⊢; clear HQ hth))
          have o0 := hO9.cell 0 _ rfl
          have o1 := hO9.cell 1 _ rfl
          have o2 := hO9.cell 2 _ rfl
          have o3 := hO9.cell 3 _ rfl
          have o4 := hO9.cell 4 _ rfl
          have o5 := hO9.cell 5 _ rfl
          have o6 := hO9.cell 6 _ rfl
          have o7 := hO9.cell 7 _ rfl
          have o8 := hO9.cell 8 _ rfl
          have o9 := hO9.cell 9 _ rfl
          have o10 := hO9.cell 10 _ rfl
          have o11 := hO9.cell 11 _ rfl
          have hM9 := (hA.m.only hg9 (by rw [hA.z.ty]; decide) (by rw [hA.z.ty]; decide)).lower (b' := N) (by omega)
          have hF9 := hA.l.keep (Kf.only hg9 (by rw [hA.z.ty]; decide))
          have hB9 : Below N w W8 := hA.b.trans (below_only hg9 (Nat.le_refl _) (Nat.le_of_lt hW))
          rw [← hN] at hM9 hB9
          refine bodyPost_ret (v := .agg #[.slice ua lo.length uc, .string (Ck.bs l), .bool false, .string last.s.m, .string last.s.t, .int .i64 last.s.c, .string last.s.r, .int .i64 last.s.n, .slice la last.L.length lc, .string (Ck.bs last.b), .int .i64 k, .int .i64 2]) (by simp [results, Tryz.results9, go_sem, o0, o1, o2, o3, o4, o5, o6, o7, o8, o9, o10, o11]) rfl ⟨⟨⟨out, l, false, last, k, 2⟩, ⟨.slice ua lo.length uc, _, lo, rfl, hM9, hA.o, hF9⟩, HD.out⟩, hB9⟩
    · have hX : Blk wr (N + 1) 39 [.slice ua lo.length uc, .string (Ck.bs τ.left), .bool τ.i, .string τ.last.s.m, .string τ.last.s.t, .int .i64 τ.last.s.c, .string τ.last.s.r, .int .i64 τ.last.s.n, .slice la τ.last.L.length lc, .string (Ck.bs τ.last.b), .int .i64 τ.k, .int .i64 τ.e] := hA.x
      have x1 := hX.cell 1 _ rfl
      have x2 := hX.cell 2 _ rfl
      have x11 := hX.cell 11 _ rfl
      have xf := hX.fz
      clear x1
      by_cases he : τ.e = 0
      · have hi : τ.i = true := by
          rcases hne with h | h
          · exact absurd he h
          · exact h
        have heb : (τ.e == 0) = true := by simpa using he
        rw [hi] at x2
        have HDN := hide hDn
        clear hDn hne he hi HG hfew
        have hW := hA.z.lt
        have hO8 := hA.z.sets [.slice ua lo.length uc, .string (Ck.bs τ.left), .bool τ.i, .string τ.last.s.m, .string τ.last.s.t, .int .i64 τ.last.s.c, .string τ.last.s.r, .int .i64 τ.last.s.n, .slice la τ.last.L.length lc, .string (Ck.bs τ.last.b), .int .i64 τ.k, .int .i64 τ.e] 0 (show 0 + 12 ≤ 12 by decide)
        have hg8 := hA.only [.slice ua lo.length uc, .string (Ck.bs τ.left), .bool τ.i, .string τ.last.s.m, .string τ.last.s.t, .int .i64 τ.last.s.c, .string τ.last.s.r, .int .i64 τ.last.s.n, .slice la τ.last.L.length lc, .string (Ck.bs τ.last.b), .int .i64 τ.k, .int .i64 τ.e]
        have hth := hA.z.there 0 12 (show 0 + 12 ≤ 12 by decide)
        have HQ := hide (And.intro hO8 hg8)
        clear hO8 hg8
        go_wp2_with (first | (refine wpList_load_mid rfl 39 (.tmp 7) rfl (N + 1) 0 rfl [.slice ua lo.length uc, .string (Ck.bs τ.left), .bool τ.i, .string τ.last.s.m, .string τ.last.s.t, .int .i64 τ.last.s.c, .string τ.last.s.r, .int .i64 τ.last.s.n, .slice la τ.last.L.length lc, .string (Ck.bs τ.last.b), .int .i64 τ.k, .int .i64 τ.e] _ (hX.range 0 12) Tryz.underlying39 rfl (by kernel_rfl) ?_) | (refine wpList_store_mid rfl 39 (.tmp 6) (.tmp 75) rfl N 0 #[.slice ua lo.length uc, .string (Ck.bs τ.left), .bool τ.i, .string τ.last.s.m, .string τ.last.s.t, .int .i64 τ.last.s.c, .string τ.last.s.r, .int .i64 τ.last.s.n, .slice la τ.last.L.length lc, .string (Ck.bs τ.last.b), .int .i64 τ.k, .int .i64 τ.e] rfl rfl hth (by kernel_rfl) (by simp [Value.oneCell']) ?_; obtain ⟨hO9, hg9⟩ := HQ.out; generalize World.setCells _ _ _ _ = W8 at hO9 hg9 ⊢; clear HQ hth))
        have o0 := hO9.cell 0 _ rfl
        have o1 := hO9.cell 1 _ rfl
        have o2 := hO9.cell 2 _ rfl
        have o3 := hO9.cell 3 _ rfl
        have o4 := hO9.cell 4 _ rfl
        have o5 := hO9.cell 5 _ rfl
        have o6 := hO9.cell 6 _ rfl
        have o7 := hO9.cell 7 _ rfl
        have o8 := hO9.cell 8 _ rfl
        have o9 := hO9.cell 9 _ rfl
        have o10 := hO9.cell 10 _ rfl
        have o11 := hO9.cell 11 _ rfl
        have hM9 := (hA.m.only hg9 (by rw [hA.z.ty]; decide) (by rw [hA.z.ty]; decide)).lower (b' := N) (by omega)
        have hF9 := hA.l.keep (Kf.only hg9 (by rw [hA.z.ty]; decide))
        have hB9 : Below N w W8 := hA.b.trans (below_only hg9 (Nat.le_refl _) (Nat.le_of_lt hW))
        rw [← hN] at hM9 hB9
        refine bodyPost_ret (v := .agg #[.slice ua lo.length uc, .string (Ck.bs τ.left), .bool τ.i, .string τ.last.s.m, .string τ.last.s.t, .int .i64 τ.last.s.c, .string τ.last.s.r, .int .i64 τ.last.s.n, .slice la τ.last.L.length lc, .string (Ck.bs τ.last.b), .int .i64 τ.k, .int .i64 τ.e]) (by simp [results, Tryz.results9, go_sem, o0, o1, o2, o3, o4, o5, o6, o7, o8, o9, o10, o11]) rfl ⟨⟨τ, ⟨.slice ua lo.length uc, _, lo, rfl, hM9, hA.o, hF9⟩, HDN.out⟩, hB9⟩
      · have heb : (τ.e == 0) = false := by simpa using he
        have HDN := hide hDn
        clear hDn hne he HG hfew
        have hW := hA.z.lt
        have hO8 := hA.z.sets [.slice ua lo.length uc, .string (Ck.bs τ.left), .bool τ.i, .string τ.last.s.m, .string τ.last.s.t, .int .i64 τ.last.s.c, .string τ.last.s.r, .int .i64 τ.last.s.n, .slice la τ.last.L.length lc, .string (Ck.bs τ.last.b), .int .i64 τ.k, .int .i64 τ.e] 0 (show 0 + 12 ≤ 12 by decide)
        have hg8 := hA.only [.slice ua lo.length uc, .string (Ck.bs τ.left), .bool τ.i, .string τ.last.s.m, .string τ.last.s.t, .int .i64 τ.last.s.c, .string τ.last.s.r, .int .i64 τ.last.s.n, .slice la τ.last.L.length lc, .string (Ck.bs τ.last.b), .int .i64 τ.k, .int .i64 τ.e]
        have hth := hA.z.there 0 12 (show 0 + 12 ≤ 12 by decide)
        have HQ := hide (And.intro hO8 hg8)
        clear hO8 hg8
        go_wp2_with (first | (refine wpList_load_mid rfl 39 (.tmp 7) rfl (N + 1) 0 rfl [.slice ua lo.length uc, .string (Ck.bs τ.left), .bool τ.i, .string τ.last.s.m, .string τ.last.s.t, .int .i64 τ.last.s.c, .string τ.last.s.r, .int .i64 τ.last.s.n, .slice la τ.last.L.length lc, .string (Ck.bs τ.last.b), .int .i64 τ.k, .int .i64 τ.e] _ (hX.range 0 12) Tryz.underlying39 rfl (by kernel_rfl) ?_) | (refine wpList_store_mid rfl 39 (.tmp 6) (.tmp 75) rfl N 0 #[.slice ua lo.length uc, .string (Ck.bs τ.left), .bool τ.i, .string τ.last.s.m, .string τ.last.s.t, .int .i64 τ.last.s.c, .string τ.last.s.r, .int .i64 τ.last.s.n, .slice la τ.last.L.length lc, .string (Ck.bs τ.last.b), .int .i64 τ.k, .int .i64 τ.e] rfl rfl hth (by kernel_rfl) (by simp [Value.oneCell']) ?_; obtain ⟨hO9, hg9⟩ := HQ.out; generalize World.setCells _ _ _ _ = W8 at hO9 hg9 ⊢; clear HQ hth))
        have o0 := hO9.cell 0 _ rfl
        have o1 := hO9.cell 1 _ rfl
        have o2 := hO9.cell 2 _ rfl
        have o3 := hO9.cell 3 _ rfl
        have o4 := hO9.cell 4 _ rfl
        have o5 := hO9.cell 5 _ rfl
        have o6 := hO9.cell 6 _ rfl
        have o7 := hO9.cell 7 _ rfl
        have o8 := hO9.cell 8 _ rfl
        have o9 := hO9.cell 9 _ rfl
        have o10 := hO9.cell 10 _ rfl
        have o11 := hO9.cell 11 _ rfl
        have hM9 := (hA.m.only hg9 (by rw [hA.z.ty]; decide) (by rw [hA.z.ty]; decide)).lower (b' := N) (by omega)
        have hF9 := hA.l.keep (Kf.only hg9 (by rw [hA.z.ty]; decide))
        have hB9 : Below N w W8 := hA.b.trans (below_only hg9 (Nat.le_refl _) (Nat.le_of_lt hW))
        rw [← hN] at hM9 hB9
        refine bodyPost_ret (v := .agg #[.slice ua lo.length uc, .string (Ck.bs τ.left), .bool τ.i, .string τ.last.s.m, .string τ.last.s.t, .int .i64 τ.last.s.c, .string τ.last.s.r, .int .i64 τ.last.s.n, .slice la τ.last.L.length lc, .string (Ck.bs τ.last.b), .int .i64 τ.k, .int .i64 τ.e]) (by simp [results, Tryz.results9, go_sem, o0, o1, o2, o3, o4, o5, o6, o7, o8, o9, o10, o11]) rfl ⟨⟨τ, ⟨.slice ua lo.length uc, _, lo, rfl, hM9, hA.o, hF9⟩, HDN.out⟩, hB9⟩

end Go.Proofs.YtmpijlaidnhpnaaGreat

namespace Go.Proofs.YtmpijlaidnhpnaaGreat
set_option linter.unusedVariables false
set_option linter.unusedSimpArgs false
set_option maxRecDepth 100000
open Go.RowKit Go.Great

theorem sizeZ (B : ByteArray) : B.data.toList.length = B.size := by simp
theorem backZ (B : ByteArray) : Ck.bs B.data.toList = B := bytes_ext (by rw [Ck.bs_list])
theorem rgZ (a : Bool) (t : ByteArray) : rgB (fresh a t []) = true := rg_wait ⟨mid_fresh _ _ _, fun _ => Nat.zero_le _, fun h => nope h⟩
theorem fdZ (a : Bool) (t : ByteArray) (s : List UInt8) : fdG (fresh a t []) s = go (fresh a t s) := by
  unfold fdG
  rw [if_neg (show ¬ (fresh a t []).e ≠ 0 from fun e => e rfl), fresh_app, List.nil_append]
/-- A load under a guard that holds. -/
theorem wantZ {P : Program} {ops : Array Oper} {rest : List Oper} {op : Oper} {a : Act} {w : World} {Q : Exit → Act → World → Prop} (hw : Region.wanted op (yielded ops a.tmps) = true) (ty : TypeId) (x : Operand) (ho : op.op = .load ty x)
    (b o : Nat) (hx : a.eval x = .pointer (some ⟨b, o, none⟩)) (cs : List Value) (d : TypeDesc) (hc : w.rangeAt b o cs) (hu : P.underlying ty = some d) (hd : d.isRow = true) (hi : (P.info? ty).map (·.size) = some cs.length)
    (h : wpList P ops Q rest (a.put op.dst (.agg cs.toArray)) w) : wpList P ops Q (op :: rest) a w := by
  unfold wpList
  rw [if_pos hw]
  exact Or.inl (wp_load_mid ty x ho b o hx cs d hc hu hd hi h)
theorem wantBZ {P : Program} {ops : Array Oper} {rest : List Oper} {o : Oper} {a : Act} {w : World} {Q : Exit → Act → World → Prop} (hg : Region.wanted o (yielded ops a.tmps) = true) (t : TypeId) (parts : Array (Nat × Operand)) (ho : o.op = .build t parts) (cells : Array Value)
    (hv : P.built t (parts.map fun (i, x) => (i, a.eval x)).toList = some cells)
    (h : wpList P ops Q rest (a.put o.dst (.agg cells)) w) : wpList P ops Q (o :: rest) a w := by
  unfold wpList
  rw [if_pos hg]
  refine Or.inl (wp_build t parts ho (by rw [hv]; rfl) ?_)
  rw [hv]
  exact h
/-- What was read so far, laid and written at once. -/
theorem boxedT {ops : Array Oper} {rest : List Oper} {o p : Oper} {a : Act} {w : World} {Q : Exit → Act → World → Prop} (hg : o.guard = none) (ho : o.op = .alloc 39) (dst : Tmp) (hd : o.dst = some dst)
    (gg : p.guard = none) (y : Operand) (hp : p.op = .store 39 (.tmp dst) y) (hpd : p.dst = none) (cs : List Value) (hl : cs.length = 12) (h1 : cs.toArray.all (·.oneCell') = true) (ha : (a.put (some dst) (.pointer (some ⟨w.heap.size, 0, none⟩))).eval (.tmp dst) = .pointer (some ⟨w.heap.size, 0, none⟩))
    (hy : (a.put (some dst) (.pointer (some ⟨w.heap.size, 0, none⟩))).eval y = .agg cs.toArray)
    (h : ∀ W, Blk W w.heap.size 39 cs → Below w.heap.size w W → wpList Tryz.prog ops Q rest (a.put (some dst) (.pointer (some ⟨w.heap.size, 0, none⟩))) W) : wpList Tryz.prog ops Q (o :: p :: rest) a w := by
  have hZ := Blk.new w 39 [.slice none 0 0, .string ⟨#[]⟩, .bool false, .string ⟨#[]⟩, .string ⟨#[]⟩, .int .i64 0, .string ⟨#[]⟩, .int .i64 0, .slice none 0 0, .string ⟨#[]⟩, .int .i64 0, .int .i64 0]
  have hB : Below w.heap.size w (w.alloc (.cells #[.slice none 0 0, .string ⟨#[]⟩, .bool false, .string ⟨#[]⟩, .string ⟨#[]⟩, .int .i64 0, .string ⟨#[]⟩, .int .i64 0, .slice none 0 0, .string ⟨#[]⟩, .int .i64 0, .int .i64 0] 39)) := (Below.refl _ _).alloc (Nat.le_refl _) _
  refine wpList_allocTo hg (some dst) hd (.pointer (some ⟨w.heap.size, 0, none⟩)) (.cells #[.slice none 0 0, .string ⟨#[]⟩, .bool false, .string ⟨#[]⟩, .string ⟨#[]⟩, .int .i64 0, .string ⟨#[]⟩, .int .i64 0, .slice none 0 0, .string ⟨#[]⟩, .int .i64 0, .int .i64 0] 39) ?_ ?_
  · unfold execOp
    rw [ho]
    go_simp
  · refine wpList_store_mid gg 39 (.tmp dst) y hp w.heap.size 0 cs.toArray ha hy (hZ.there 0 _ (by simp [hl])) (by rw [List.size_toArray, hl]; kernel_rfl) h1 ?_
    rw [hpd]
    refine h _ ?_ (hB.trans (below_only (only_sets _ 0 (only_refl _ _)) (Nat.le_refl _) hB.size))
    have := hZ.sets cs 0 (by simp [hl])
    rw [sets_whole (by simp [hl])] at this
    exact this
/-- What lies in memory behind both readings. -/
structure Two (w W : World) (N P : Nat) (r : Rr) (va : Option Addr) (vc : Nat) (τ : Td) (uo : Value) (la : Option Addr) (lc : Nat) : Prop where
  b : Below w.heap.size w W
  x : Blk W N 33 (r.cs (.slice va r.m.L.length vc))
  f : FR W (.slice va r.m.L.length vc) r.m.L
  t : Blk W P 39 (τ.cs uo (.slice la τ.last.L.length lc))
  g : FR W (.slice la τ.last.L.length lc) τ.last.L
theorem Two.below {w W W' : World} {N P : Nat} {r : Rr} {va : Option Addr} {vc : Nat} {τ : Td} {uo : Value} {la : Option Addr} {lc : Nat} (h : Two w W N P r va vc τ uo la lc) (hb : Below W.heap.size W W') : Two w W' N P r va vc τ uo la lc :=
  ⟨h.b.trans (hb.mono h.b.size), h.x.below hb, h.f.below hb, h.t.below hb, h.g.below hb⟩

set_option maxHeartbeats 16000000 in
theorem reads_walk (a : Bool) (method s : ByteArray) (w : World) (hm0 : method.size ≤ maxLen) (hs : s.size ≤ maxLen) :
    Calls Tryz.prog 3 #[.bool a, .string method, .string s] w fun e w' => e = .returned (.bool true) ∧ Below w.heap.size w w' := by
  unfold maxLen at hs hm0
  obtain ⟨m, hm, hm2, hm3⟩ : ∃ m : Nat, min (method.size : Int) 20 = (m : Int) ∧ m ≤ 20 ∧ m ≤ method.size := ⟨(min (method.size : Int) 20).toNat, by omega, by omega, by omega⟩
  have hmi : (m : Int) ≤ (method.size : Int) := by omega
  obtain ⟨n, hn, hn2, hn3⟩ : ∃ n : Nat, min (s.size : Int) 9000 = (n : Int) ∧ n ≤ 9000 ∧ n ≤ s.size := ⟨(min (s.size : Int) 9000).toNat, by omega, by omega, by omega⟩
  have hni : (n : Int) ≤ (s.size : Int) := by omega
  have hns : (s.extract 0 n).size ≤ 9000 := by rw [ByteArray.size_extract]; omega
  go_enter Tryz.func3, Tryz.ntmps3
  go_wp2_with fail
  go_quiet (fail)
  generalize method.extract 0 m = T
  generalize s.extract 0 n = S at hns ⊢
  have hSl : S.data.toList.length ≤ 9000 := by rw [sizeZ]; exact hns
  obtain ⟨q, hq⟩ : ∃ q, fdG (fresh a T []) S.data.toList = q := ⟨_, rfl⟩
  have hf1 := fun W => feed_fresh a T S.data.toList W (by omega)
  have hall := fun W => refall_any a T S.data.toList W hSl
  have hrg := fd_right (rgZ a T) S.data.toList
  have hlim := fd_lim (rgZ a T) (show Sh (fresh a T []).m.L from sh_nil) S.data.toList
  have hgl := go_last (mid_fresh a T S.data.toList)
  have hfew := fd_few (rgZ a T) S.data.toList
  have hsh := (fd_sh (rgZ a T) (show Sh (fresh a T []).m.L from sh_nil) S.data.toList).2
  unfold AllP at hall
  rw [← fdZ] at hgl
  simp only [← fdZ] at hall
  rw [hq, backZ] at hf1
  simp only [hq, backZ] at hall
  rw [hq] at hrg hlim hgl hfew hsh
  have hB0 := Ck.below_drewN w nq
  clear hq hm hm2 hm3 hmi hn hn2 hn3 hni hs hm0
  obtain ⟨r, ms⟩ := q
  simp only at hrg hlim hgl hfew hsh
  have hml : ms.length ≤ 18001 := by
    have h2 : (fresh a T []).buf.length = 0 := rfl
    omega
  have hwr := fun va vc W hW => wright_any r (.slice va r.m.L.length vc) W hW hlim.s (Nat.le_trans hlim.l (by decide)) hlim.f (Nat.le_trans hlim.b (by decide)) (Nat.le_trans hlim.c (by decide)) (Nat.le_trans hlim.u (by decide))
  have hcl := fun va vc W hW => close_any r (.slice va r.m.L.length vc) W hW hlim.s (Nat.le_trans hlim.l (by decide)) hlim.f (Nat.le_trans hlim.b (by decide)) (Nat.le_trans hlim.c (by decide)) (Nat.le_trans hlim.u (by decide))
  rw [hrg] at hwr
  have HF := hide hf1
  have HA := hide hall
  have HW := hide hwr
  have HC := hide hcl
  have HG := hide hgl
  have HRG := hide hrg
  have hrl := hlim.l
  clear hf1 hall hwr hcl hrg hgl hlim hfew
  go_wp2_with fail
  refine (new_any a T _).mono ?_
  rintro en w2 ⟨rfl, hb2⟩
  go_wp2_with fail
  refine (HF.out _).mono ?_
  rintro en w3 ⟨⟨va, vc, uq, lq, rfl, hFR, hM, hlq⟩, hb3⟩
  have hB3 := hB0.trans ((hb2.trans (hb3.mono hb2.size)).mono hB0.size)
  have hMr := hM.mrow
  obtain ⟨uqa, uqc, hue, -, -⟩ := hM.mrow
  subst hue
  clear hb2 hb3 hB0 HF hM
  go_upto_region 3 with (refine boxed rfl rfl _ rfl rfl _ rfl rfl (r.cs (.slice va r.m.L.length vc)) rfl (by kernel_rfl) rfl rfl ?_; intro W4 hX hBW)
  replace hMr := hMr.below hBW
  replace hFR := hFR.below hBW
  replace hB3 := hB3.trans (hBW.mono hB3.size)
  clear hBW
  generalize w3.heap.size = N at hX ⊢
  go_wp2_with fail
  refine (HA.out _).mono ?_
  rintro en w5 ⟨⟨τ, ⟨uo, vl, lo, rfl, hMo, hlo, hFo⟩, hDn⟩, hb5⟩
  have hMr2 := hMo.mrow
  obtain ⟨oa, oc, rfl, -, -⟩ := hMo.mrow
  obtain ⟨la, lc, rfl⟩ := hFo.row.slice
  replace hMr := hMr.below hb5
  replace hFR := hFR.below hb5
  replace hX := hX.below hb5
  replace hB3 := hB3.trans (hb5.mono hB3.size)
  clear hb5 hMo HA
  unfold Td.v
  go_upto_region 4 with (refine boxedT rfl rfl _ rfl rfl _ rfl rfl [.slice oa lo.length oc, .string (Ck.bs τ.left), .bool τ.i, .string τ.last.s.m, .string τ.last.s.t, .int .i64 τ.last.s.c, .string τ.last.s.r, .int .i64 τ.last.s.n, .slice la τ.last.L.length lc, .string (Ck.bs τ.last.b), .int .i64 τ.k, .int .i64 τ.e] rfl (by kernel_rfl) rfl rfl ?_; intro W6 hY hBW)
  have h2 : Two w W6 N w5.heap.size r va vc τ (.slice oa lo.length oc) la lc := ⟨hB3.trans (hBW.mono hB3.size), hX.below hBW, hFR.below hBW, hY, hFo.below hBW⟩
  replace hMr := hMr.below hBW
  replace hMr2 := hMr2.below hBW
  clear hBW hX hY hFR hFo hB3
  generalize w5.heap.size = P at h2 ⊢
  have hra : r.a = a := HG.out.2.2.1
  have hrt : r.t = T := HG.out.2.2.2
  have HQL := hide (show lq.map Prod.fst = lo.map Prod.fst from hlq.trans (hDn.out.trans hlo.symm))
  have HLL := hide (show lq.length ≤ 1000000 ∧ ∀ x ∈ lq, x.1.L.length ≤ 1000000 from ⟨by have := congrArg List.length hlq; rw [List.length_map] at this; omega, fun x hx => by have h := hsh x.1 (by rw [← hlq]; exact List.mem_map_of_mem hx); omega⟩)
  have HRA := hide (And.intro hra hrt)
  have HDN := hide hDn
  have hbad := hDn.bad
  clear hlq hlo hDn hsh hra hrt hml
  have c0 := h2.x.cell 0 _ rfl
  have c1 := h2.x.cell 1 _ rfl
  have c17 := h2.x.cell 17 _ rfl
  have t0 := h2.t.cell 0 _ rfl
  have t11 := h2.t.cell 11 _ rfl
  rw [HRA.out.1] at c0
  rw [HRA.out.2] at c1
  rw [← hbad] at t11
  clear hbad
  go_wp2_with fail
  refine (sameM_any lq lo _ _ _ hMr hMr2 HQL.out HLL.out.1 HLL.out.2).mono ?_
  rintro en w7 ⟨rfl, hb7⟩
  replace h2 := h2.below hb7
  clear hb7 hMr hMr2 HQL HLL c0 c1 c17 t0 t11
  have c0 := h2.x.cell 0 _ rfl
  have c1 := h2.x.cell 1 _ rfl
  have c17 := h2.x.cell 17 _ rfl
  have t11 := h2.t.cell 11 _ rfl
  rw [HRA.out.1] at c0
  rw [HRA.out.2] at c1
  rw [← HDN.out.bad] at t11
  go_wp2_with (refine wantZ (by kernel_rfl) 33 (.tmp 7) rfl N 0 rfl [.bool r.a, .string r.t, .string (Ck.bs r.buf), .bool r.i, .string r.m.s.m, .string r.m.s.t, .int .i64 r.m.s.c, .string r.m.s.r, .int .i64 r.m.s.n, .slice va r.m.L.length vc, .string (Ck.bs r.m.b), .int .i64 r.k, .int .i64 r.z, .int .i64 r.c.st, .string r.c.line, .int .i64 r.c.left, .int .i64 r.c.size, .int .i64 r.e] _ (h2.x.range 0 18) Tryz.underlying33 rfl (by kernel_rfl) ?_)
  refine (HW.out va vc _ h2.f.row).mono ?_
  rintro en w8 ⟨rfl, hb8⟩
  replace h2 := h2.below hb8
  clear hb8 c0 c1 c17 t11 HW
  go_wp2_with fail
  refine (alive_any _).mono ?_
  rintro en w9 ⟨rfl, hb9⟩
  replace h2 := h2.below hb9
  clear hb9
  go_wp2_with (refine wpList_load_mid rfl 33 (.tmp 7) rfl N 0 rfl [.bool r.a, .string r.t, .string (Ck.bs r.buf), .bool r.i, .string r.m.s.m, .string r.m.s.t, .int .i64 r.m.s.c, .string r.m.s.r, .int .i64 r.m.s.n, .slice va r.m.L.length vc, .string (Ck.bs r.m.b), .int .i64 r.k, .int .i64 r.z, .int .i64 r.c.st, .string r.c.line, .int .i64 r.c.left, .int .i64 r.c.size, .int .i64 r.e] _ (h2.x.range 0 18) Tryz.underlying33 rfl (by kernel_rfl) ?_)
  refine (HC.out va vc _ h2.f.row).mono ?_
  rintro en w10 ⟨⟨u10, l10, rfl, hM10, hl10⟩, hb10⟩
  replace h2 := h2.below hb10
  clear hb10 HC
  have hMr10 := hM10.mrow
  obtain ⟨ea, ec, rfl, -, -⟩ := hM10.mrow
  clear hM10
  have c17 := h2.x.cell 17 _ rfl
  have t11 := h2.t.cell 11 _ rfl
  rw [← HDN.out.bad] at t11
  by_cases he : r.e = 0
  · obtain ⟨o1, o2, o3, o4⟩ := HDN.out.ok (by rw [← HDN.out.bad]; exact he)
    have heb : (r.e != 0) = false := by rw [he]; decide
    clear HDN HG
    obtain ⟨out, left, i, last, k, e⟩ := τ
    simp only at o1 o2 o3 o4
    subst o1
    subst o2
    subst o3
    have hE : clE r = if r.i = true ∧ r.k = 3 then 0 else if r.i = true ∨ r.buf ≠ [] then 3 else 0 := by
      unfold clE
      rw [if_neg (by rw [HRG.out]; decide), if_neg (by rw [he]; decide)]
    have hO : clO r = if r.i = true ∧ r.k = 3 then [r.m] else [] := by
      unfold clO
      by_cases h : r.i = true ∧ r.k = 3
      · rw [if_pos ⟨HRG.out, he, h.1, h.2⟩, if_pos h]
      · rw [if_neg (fun g => h ⟨g.2.2.1, g.2.2.2⟩), if_neg h]
    clear he
    have c2 : w10.cell? ⟨N, 2, none⟩ = some (.string (Ck.bs r.buf)) := h2.x.cell 2 _ rfl
    have c3 : w10.cell? ⟨N, 3, none⟩ = some (.bool r.i) := h2.x.cell 3 _ rfl
    have t1 : w10.cell? ⟨P, 1, none⟩ = some (.string (Ck.bs r.buf)) := h2.t.cell 1 _ rfl
    have t2 : w10.cell? ⟨P, 2, none⟩ = some (.bool r.i) := h2.t.cell 2 _ rfl
    have HE := hide hE
    have HOO := hide hO
    clear hE hO
    generalize clE r = CE at HE ⊢
    go_wp2_with (first | (refine wantZ (by kernel_rfl) 26 (.tmp 113) rfl N 4 rfl [.string r.m.s.m, .string r.m.s.t, .int .i64 r.m.s.c, .string r.m.s.r, .int .i64 r.m.s.n, .slice va r.m.L.length vc, .string (Ck.bs r.m.b)] _ (h2.x.range 4 7) Tryz.underlying26 rfl (by kernel_rfl) ?_) | (refine wantZ (by kernel_rfl) 26 (.tmp 115) rfl P 3 rfl [.string r.m.s.m, .string r.m.s.t, .int .i64 r.m.s.c, .string r.m.s.r, .int .i64 r.m.s.n, .slice la r.m.L.length lc, .string (Ck.bs r.m.b)] _ (h2.t.range 3 7) Tryz.underlying26 rfl (by kernel_rfl) ?_))
    refine (likeM_any r.m (.slice va r.m.L.length vc) (.slice la r.m.L.length lc) _ h2.f.row h2.g.row (by omega)).mono ?_
    rintro en w11 ⟨rfl, hb11⟩
    replace h2 := h2.below hb11
    replace hMr10 := hMr10.below hb11
    clear hb11 c2 c3 t1 t2 c17 t11
    have t1 : w11.cell? ⟨P, 1, none⟩ = some (.string (Ck.bs r.buf)) := h2.t.cell 1 _ rfl
    have t2 : w11.cell? ⟨P, 2, none⟩ = some (.bool r.i) := h2.t.cell 2 _ rfl
    have t10 : w11.cell? ⟨P, 10, none⟩ = some (.int .i64 k) := h2.t.cell 10 _ rfl
    cases hi : r.i
    · rw [hi] at t2
      have hO : l10 = [] := by
        have := hl10
        rw [HOO.out, if_neg (by rw [hi]; rintro ⟨g, -⟩; exact absurd g (by decide))] at this
        simpa using this
      by_cases hbu : r.buf = []
      · have hce : CE = 0 := by rw [HE.out, if_neg (by rw [hi]; rintro ⟨g, -⟩; exact absurd g (by decide)), if_neg (by rw [hi, hbu]; simp)]
        have hem := empty_of (s := Ck.bs r.buf) (by rw [Ck.bs_list]; exact hbu)
        subst hce
        subst hO
        clear hbu hi HE HOO hl10 hMr10
        go_wp2_with fail
        go_ret
        exact ⟨rfl, h2.b⟩
      · have hce : CE = 3 := by rw [HE.out, if_neg (by rw [hi]; rintro ⟨g, -⟩; exact absurd g (by decide)), if_pos (Or.inr hbu)]
        have hem := empty_not (s := Ck.bs r.buf) (by rw [Ck.bs_list]; exact hbu)
        subst hce
        subst hO
        clear hbu hi HE HOO hl10 hMr10
        go_wp2_with fail
        go_ret
        exact ⟨rfl, h2.b⟩
    · rw [hi] at t2
      have hk : r.k = k := o4 hi
      by_cases h3 : k = 3
      · have hk3 : (k == 3) = true := by rw [h3]; decide
        have hce : CE = 0 := by rw [HE.out, if_pos ⟨hi, hk.trans h3⟩]
        have hO : l10.map Prod.fst = [r.m] := by rw [hl10, HOO.out, if_pos ⟨hi, hk.trans h3⟩]
        subst hce
        have HO := hide hO
        have HLN : Hid (l10.length = 1) := by unfold Hid; have := congrArg List.length hO; simpa using this
        clear h3 hk hi HE HOO hl10 o4 hO
        go_wp2_with (first | (refine wantZ (by kernel_rfl) 26 (.tmp 131) rfl P 3 rfl [.string r.m.s.m, .string r.m.s.t, .int .i64 r.m.s.c, .string r.m.s.r, .int .i64 r.m.s.n, .slice la r.m.L.length lc, .string (Ck.bs r.m.b)] _ (h2.t.range 3 7) Tryz.underlying26 rfl (by kernel_rfl) ?_))
        have hA := (Below.refl w11.heap.size w11).alloc (Nat.le_refl _) (.cells #[.string r.m.s.m, .string r.m.s.t, .int .i64 r.m.s.c, .string r.m.s.r, .int .i64 r.m.s.n, .slice la r.m.L.length lc, .string (Ck.bs r.m.b)] 26)
        refine (sameM_any l10 [(r.m, Value.slice la r.m.L.length lc)] _ _ _ (hMr10.below hA) (mrow_one w11 r.m (.slice la r.m.L.length lc) h2.g) HO.out (by have := HLN.out; omega) (fun x hx => by
          obtain ⟨x1, x2⟩ := x
          have h := HO.out
          have h3 : x1 ∈ l10.map Prod.fst := List.mem_map_of_mem (f := Prod.fst) hx
          rw [h] at h3
          have : x1 = r.m := by simpa using h3
          subst this
          show r.m.L.length ≤ 1000000
          omega)).mono ?_
        rintro en w12 ⟨rfl, hb12⟩
        go_wp2_with fail
        go_ret
        exact ⟨rfl, (h2.b.trans (hA.mono h2.b.size)).trans (hb12.mono (by have := h2.b.size; have h3 := hA.size; omega))⟩
      · have hk3 : (k == 3) = false := by simpa using h3
        have hn : ¬ (r.i = true ∧ r.k = 3) := fun g => h3 (hk.symm.trans g.2)
        have hce : CE = 3 := by rw [HE.out, if_neg hn, if_pos (Or.inl hi)]
        have hO : l10 = [] := by
          have := hl10
          rw [HOO.out, if_neg hn] at this
          simpa using this
        subst hce
        subst hO
        clear h3 hk hi HE HOO hl10 o4 hn hMr10
        go_wp2_with fail
        go_ret
        exact ⟨rfl, h2.b⟩
  · have heb : (r.e != 0) = true := by simpa using he
    have hst : r = stopR a T r.e := HG.out.2.1 he
    have hce : clE r = r.e := by unfold clE; rw [if_neg (by rw [HRG.out]; decide), if_pos he]
    have hO : l10 = [] := by
      have := hl10
      rw [show clO r = [] by unfold clO; rw [if_neg (by rintro ⟨-, g, -⟩; exact he g)]] at this
      simpa using this
    rw [hce]
    subst hO
    have HTE0 : Hid (r.e = τ.e) := HDN.out.bad
    clear hce hl10 hMr10 HG HDN HRA he hrl HRG
    obtain ⟨E, hE⟩ : ∃ E, r.e = E := ⟨_, rfl⟩
    have HTE : Hid (τ.e = E) := HTE0.out.symm.trans hE
    clear HTE0
    rw [hE] at hst c17 t11 heb ⊢
    clear hE
    subst hst
    go_wp2_with (first | (refine wpList_load_mid rfl 33 (.tmp 7) rfl N 0 rfl ((stopR a T E).cs (.slice va 0 vc)) _ (h2.x.range 0 18) Tryz.underlying33 rfl (by kernel_rfl) ?_) | (refine wantBZ (by kernel_rfl) 33 _ rfl #[.bool a, .string T, .string ⟨#[]⟩, .bool false, .string ⟨#[]⟩, .string ⟨#[]⟩, .int .i64 0, .string ⟨#[]⟩, .int .i64 0, .slice none 0 0, .string ⟨#[]⟩, .int .i64 0, .int .i64 0, .int .i64 0, .string ⟨#[]⟩, .int .i64 0, .int .i64 0, .int .i64 E] (by kernel_rfl) ?_))
    refine (likeR_any (stopR a T E) (.slice va 0 vc) (.slice none 0 0) _ h2.f.row (Row.nil _) (show 0 ≤ 1000000 by decide)).mono ?_
    rintro en w11 ⟨rfl, hb11⟩
    replace h2 := h2.below hb11
    clear hb11 c17 t11
    have t11 := h2.t.cell 11 _ rfl
    rw [HTE.out] at t11
    go_wp2_with fail
    go_ret
    exact ⟨rfl, h2.b⟩

end Go.Proofs.YtmpijlaidnhpnaaGreat
