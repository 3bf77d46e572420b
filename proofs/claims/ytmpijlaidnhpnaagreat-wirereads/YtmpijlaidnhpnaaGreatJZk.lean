/- The walk of what puts a body to a message, as the document goes. -/
import Derived.Test.YtmpijlaidnhpnaaGreatJZf
import Derived.Test.YtmpijlaidnhpnaaGreatJZc
import Derived.Test.YtmpijlaidnhpnaaGreatJZr
import Derived.Test.YtmpijlaidnhpnaaGreatJCi
namespace Go.Proofs.YtmpijlaidnhpnaaGreat
set_option linter.unusedVariables false
set_option linter.unusedSimpArgs false
set_option maxRecDepth 100000
open Go.RowKit

theorem unhid2 {p : Prop} (h : Hid p) : p := h.out
theorem ext_take_bs (l : List UInt8) (n : Nat) : (Ck.bs l).extract 0 n = Ck.bs (l.take n) := by
  apply bytes_ext
  rw [Ck.bs_list, ByteArray.data_extract]
  simp [Ck.bs, List.extract_eq_take_drop]
theorem ext_drop_bs (l : List UInt8) (n : Nat) : (Ck.bs l).extract n (Ck.bs l).size = Ck.bs (l.drop n) := by
  apply bytes_ext
  rw [Ck.bs_list, ByteArray.data_extract, Ck.bs_size]
  simp [Ck.bs, List.extract_eq_take_drop]
  exact List.take_of_length_le (by simp)
theorem wpList_append_MR {w : World} {ops : Array Oper} {rest : List Oper} {o : Oper} {a : Act} {Q : Exit → Act → World → Prop} (hgd : o.guard = none) (s x : Operand)
    (ho : o.op = .call { callee := .builtin .append, args := #[s, x], argTypes := #[34, 34] }) (base : Nat) (v vx : Value) (l lx : List MV) (hs : a.eval s = v) (hx : a.eval x = vx)
    (hown : MR w base v l) (hrow : MRow w vx lx) (hl : l.length + lx.length ≤ 1000000) (hbase : base ≤ w.heap.size)
    (h : ∀ v' w', MR w' base v' (l ++ lx) → w.grownBy w' v.ownBlock → wpList Tryz.prog ops Q rest (a.put o.dst v') w') : wpList Tryz.prog ops Q (o :: rest) a w :=
  wpList_plain hgd fun K hK => op_append_MR s x ho base v vx l lx hs hx hown hrow hl hbase fun v' w' h1 h2 => hK _ _ (h v' w' h1 h2)

/-- What was read so far, as a value. -/
def Td.cs (t : Td) (uo vl : Value) : List Value := [uo, .string (Ck.bs t.left), .bool t.i, .string t.last.s.m, .string t.last.s.t, .int .i64 t.last.s.c, .string t.last.s.r, .int .i64 t.last.s.n, vl, .string (Ck.bs t.last.b), .int .i64 t.k, .int .i64 t.e]
def Td.v (t : Td) (uo vl : Value) : Value := .agg #[uo, .string (Ck.bs t.left), .bool t.i, .string t.last.s.m, .string t.last.s.t, .int .i64 t.last.s.c, .string t.last.s.r, .int .i64 t.last.s.n, vl, .string (Ck.bs t.last.b), .int .i64 t.k, .int .i64 t.e]
/-- The four blocks. -/
structure Bd (w W : World) (N : Nat) (T M B : List Value) : Prop where
  n : w.heap.size = N
  b : Below N w W
  x : Blk W N 39 T
  y : Blk W (N + 1) 26 M
  q : Blk W (N + 2) 28 B
  o : Blk W (N + 3) 39 [.slice none 0 0, .string ⟨#[]⟩, .bool false, .string ⟨#[]⟩, .string ⟨#[]⟩, .int .i64 0, .string ⟨#[]⟩, .int .i64 0, .slice none 0 0, .string ⟨#[]⟩, .int .i64 0, .int .i64 0]
theorem Bd.below {w W W' : World} {N : Nat} {T M B : List Value} (h : Bd w W N T M B) (hb : Below W.heap.size W W') : Bd w W' N T M B :=
  ⟨h.n, h.b.trans (hb.mono (Nat.le_of_lt h.x.lt)), h.x.below hb, h.y.below hb, h.q.below hb, h.o.below hb⟩
theorem Bd.alloc {w W : World} {N : Nat} {T M B : List Value} (h : Bd w W N T M B) (o : Obj) : Bd w (W.alloc o) N T M B := h.below ((Below.refl _ _).alloc (Nat.le_refl _) o)
theorem Bd.tx {w W : World} {N : Nat} {T M B : List Value} (h : Bd w W N T M B) (i : Nat) (hi : i < T.length) (v : Value) : Bd w (W.setCell ⟨N, i, none⟩ v) N (T.set i v) M B :=
  ⟨h.n, h.b.setCell (Nat.le_refl _) _, h.x.set i hi v, h.y.other _ _ _ (by omega), h.q.other _ _ _ (by omega), h.o.other _ _ _ (by omega)⟩
theorem Bd.my {w W : World} {N : Nat} {T M B : List Value} (h : Bd w W N T M B) (i : Nat) (hi : i < M.length) (v : Value) : Bd w (W.setCell ⟨N + 1, i, none⟩ v) N T (M.set i v) B :=
  ⟨h.n, h.b.setCell (Nat.le_succ _) _, h.x.other _ _ _ (by omega), h.y.set i hi v, h.q.other _ _ _ (by omega), h.o.other _ _ _ (by omega)⟩
theorem bd_new (w : World) (T M : List Value) (k z : Int) : Bd w ((((w.alloc (.cells T.toArray 39)).alloc (.cells M.toArray 26)).alloc (.cells #[.int .i64 k, .int .i64 z] 28)).alloc (.cells #[.slice none 0 0, .string ⟨#[]⟩, .bool false, .string ⟨#[]⟩, .string ⟨#[]⟩, .int .i64 0, .string ⟨#[]⟩, .int .i64 0, .slice none 0 0, .string ⟨#[]⟩, .int .i64 0, .int .i64 0] 39)) w.heap.size T M [.int .i64 k, .int .i64 z] := by
  have s1 : (w.alloc (.cells T.toArray 39)).heap.size = w.heap.size + 1 := by simp
  have s2 : ((w.alloc (.cells T.toArray 39)).alloc (.cells M.toArray 26)).heap.size = w.heap.size + 2 := by simp
  have s3 : (((w.alloc (.cells T.toArray 39)).alloc (.cells M.toArray 26)).alloc (.cells #[.int .i64 k, .int .i64 z] 28)).heap.size = w.heap.size + 3 := by simp
  have h1 := Blk.new w 39 T
  have h2 := Blk.new (w.alloc (.cells T.toArray 39)) 26 M
  have h3 := Blk.new ((w.alloc (.cells T.toArray 39)).alloc (.cells M.toArray 26)) 28 [.int .i64 k, .int .i64 z]
  have h4 := Blk.new (((w.alloc (.cells T.toArray 39)).alloc (.cells M.toArray 26)).alloc (.cells #[.int .i64 k, .int .i64 z] 28)) 39 [.slice none 0 0, .string ⟨#[]⟩, .bool false, .string ⟨#[]⟩, .string ⟨#[]⟩, .int .i64 0, .string ⟨#[]⟩, .int .i64 0, .slice none 0 0, .string ⟨#[]⟩, .int .i64 0, .int .i64 0]
  rw [s1] at h2
  rw [s2] at h3
  rw [s3] at h4
  exact ⟨rfl, (((((Below.refl w.heap.size w).alloc (Nat.le_refl _) _).alloc (by omega) _).alloc (by omega) _).alloc (by omega) _), ((h1.alloc _).alloc _).alloc _, (h2.alloc _).alloc _, h3.alloc _, h4⟩

/-- What putting a body to a message tells. -/
def BdP (w : World) (base : Nat) (t : Td) (en : Ending) : Prop := ∃ (uo vl : Value) (lo : List MV), en = .returned (t.v uo vl) ∧ MR w base uo lo ∧ lo.map Prod.fst = t.out ∧ FR w vl t.last.L
theorem mrow_one (w : World) (m : Ms) (v : Value) (h : FR w v m.L) : MRow (w.alloc (.cells (m.cs v).toArray 26)) (.slice (some ⟨w.heap.size, 0, none⟩) 1 1) [(m, v)] := by
  refine ⟨_, 1, rfl, Nat.le_refl _, fun k hk => ⟨w.heap.size, rfl, by simp, ?_, ?_⟩⟩
  · obtain rfl : k = 0 := by simp at hk; exact hk
    exact (Blk.new w 26 (m.cs v)).range 0 7
  · obtain rfl : k = 0 := by simp at hk; exact hk
    exact h.below ((Below.refl _ _).alloc (Nat.le_refl _) _)

set_option maxHeartbeats 16000000 in
theorem refbody_any (out : List Ms) (left : List UInt8) (last : Ms) (tk : Int) (s : St) (L : List Fd) (k z : Int) (ua la va : Option Addr) (uc lc vc : Nat) (lo : List MV) (base : Nat) (w : World)
    (hz : 0 ≤ z) (hleft : left.length ≤ 9000) (hMR : MR w base (.slice ua lo.length uc) lo) (hlo : lo.map Prod.fst = out) (hll : lo.length ≤ 9000)
    (hFl : FR w (.slice la last.L.length lc) last.L) (hFm : FR w (.slice va L.length vc) L) (hbase : base ≤ w.heap.size) :
    Calls Tryz.prog 24 #[(Td.mk out left false last tk 0).v (.slice ua lo.length uc) (.slice la last.L.length lc), (Ms.mk s L []).v (.slice va L.length vc), .agg #[.int .i64 k, .int .i64 z]] w fun en w' => BdP w' base (bodyT ⟨out, left, false, last, tk, 0⟩ ⟨s, L, []⟩ k z) en ∧ Below base w w' := by
  have hD : Bd w ((((w.alloc (.cells #[.slice ua lo.length uc, .string (Ck.bs left), .bool false, .string last.s.m, .string last.s.t, .int .i64 last.s.c, .string last.s.r, .int .i64 last.s.n, .slice la last.L.length lc, .string (Ck.bs last.b), .int .i64 tk, .int .i64 0] 39)).alloc (.cells #[.string s.m, .string s.t, .int .i64 s.c, .string s.r, .int .i64 s.n, .slice va L.length vc, .string ⟨#[]⟩] 26)).alloc (.cells #[.int .i64 k, .int .i64 z] 28)).alloc (.cells #[.slice none 0 0, .string ⟨#[]⟩, .bool false, .string ⟨#[]⟩, .string ⟨#[]⟩, .int .i64 0, .string ⟨#[]⟩, .int .i64 0, .slice none 0 0, .string ⟨#[]⟩, .int .i64 0, .int .i64 0] 39)) w.heap.size [.slice ua lo.length uc, .string (Ck.bs left), .bool false, .string last.s.m, .string last.s.t, .int .i64 last.s.c, .string last.s.r, .int .i64 last.s.n, .slice la last.L.length lc, .string (Ck.bs last.b), .int .i64 tk, .int .i64 0] [.string s.m, .string s.t, .int .i64 s.c, .string s.r, .int .i64 s.n, .slice va L.length vc, .string ⟨#[]⟩] [.int .i64 k, .int .i64 z] := bd_new w [.slice ua lo.length uc, .string (Ck.bs left), .bool false, .string last.s.m, .string last.s.t, .int .i64 last.s.c, .string last.s.r, .int .i64 last.s.n, .slice la last.L.length lc, .string (Ck.bs last.b), .int .i64 tk, .int .i64 0] [.string s.m, .string s.t, .int .i64 s.c, .string s.r, .int .i64 s.n, .slice va L.length vc, .string ⟨#[]⟩] k z
  have hls := Ck.bs_size left
  obtain ⟨zn, rfl⟩ : ∃ zn : Nat, z = (zn : Int) := ⟨z.toNat, by omega⟩
  obtain ⟨R, hR⟩ : ∃ R, bodyT ⟨out, left, false, last, tk, 0⟩ ⟨s, L, []⟩ k (zn : Int) = R := ⟨_, rfl⟩
  rw [hR]
  unfold Td.v Ms.v
  simp only
  rw [show Ck.bs [] = (⟨#[]⟩ : ByteArray) from rfl]
  have HM := hide (And.intro hMR (And.intro hlo (And.intro hFl (And.intro hFm (And.intro hbase hll)))))
  clear hMR hlo hFl hFm hbase hll hz
  go_enter Tryz.func24, Tryz.ntmps24
  go_upto_region 1 with fail
  generalize World.alloc (World.alloc _ _) _ = V0 at hD ⊢
  generalize hN : w.heap.size = N at hD ⊢
  have x0 := hD.x.cell 0 _ rfl
  have x1 := hD.x.cell 1 _ rfl
  have x2 := hD.x.cell 2 _ rfl
  have x3 := hD.x.cell 3 _ rfl
  have x4 := hD.x.cell 4 _ rfl
  have x5 := hD.x.cell 5 _ rfl
  have x6 := hD.x.cell 6 _ rfl
  have x7 := hD.x.cell 7 _ rfl
  have x8 := hD.x.cell 8 _ rfl
  have x9 := hD.x.cell 9 _ rfl
  have x10 := hD.x.cell 10 _ rfl
  have x11 := hD.x.cell 11 _ rfl
  have xf := hD.x.fz
  have y0 := hD.y.cell 0 _ rfl
  have y1 := hD.y.cell 1 _ rfl
  have y2 := hD.y.cell 2 _ rfl
  have y3 := hD.y.cell 3 _ rfl
  have y4 := hD.y.cell 4 _ rfl
  have y5 := hD.y.cell 5 _ rfl
  have y6 := hD.y.cell 6 _ rfl
  have yf := hD.y.fz
  have q0 := hD.q.cell 0 _ rfl
  have q1 := hD.q.cell 1 _ rfl
  have hD1 : Bd w (V0.setCell ⟨N, 10, none⟩ (.int .i64 k)) N [.slice ua lo.length uc, .string (Ck.bs left), .bool false, .string last.s.m, .string last.s.t, .int .i64 last.s.c, .string last.s.r, .int .i64 last.s.n, .slice la last.L.length lc, .string (Ck.bs last.b), .int .i64 k, .int .i64 0] [.string s.m, .string s.t, .int .i64 s.c, .string s.r, .int .i64 s.n, .slice va L.length vc, .string ⟨#[]⟩] [.int .i64 k, .int .i64 (zn : Int)] := hD.tx 10 (show 10 < 12 by decide) _
  go_upto_region 2 with fail
  generalize World.setCell _ _ _ = V1 at hD1 ⊢
  clear x0 x1 x2 x3 x4 x5 x6 x7 x8 x9 x10 x11 xf y0 y1 y2 y3 y4 y5 y6 yf q0 q1
  clear hD
  have hD := hD1
  clear hD1
  have x0 := hD.x.cell 0 _ rfl
  have x1 := hD.x.cell 1 _ rfl
  have x2 := hD.x.cell 2 _ rfl
  have x3 := hD.x.cell 3 _ rfl
  have x4 := hD.x.cell 4 _ rfl
  have x5 := hD.x.cell 5 _ rfl
  have x6 := hD.x.cell 6 _ rfl
  have x7 := hD.x.cell 7 _ rfl
  have x8 := hD.x.cell 8 _ rfl
  have x9 := hD.x.cell 9 _ rfl
  have x10 := hD.x.cell 10 _ rfl
  have x11 := hD.x.cell 11 _ rfl
  have xf := hD.x.fz
  have y0 := hD.y.cell 0 _ rfl
  have y1 := hD.y.cell 1 _ rfl
  have y2 := hD.y.cell 2 _ rfl
  have y3 := hD.y.cell 3 _ rfl
  have y4 := hD.y.cell 4 _ rfl
  have y5 := hD.y.cell 5 _ rfl
  have y6 := hD.y.cell 6 _ rfl
  have yf := hD.y.fz
  have q0 := hD.q.cell 0 _ rfl
  have q1 := hD.q.cell 1 _ rfl
  by_cases k1 : k = 1
  · have kb1 : (k == 1) = true := by rw [k1]; decide
    have hD2 : Bd w (V1.setCell ⟨N + 1, 6, none⟩ (.string (Ck.bs left))) N [.slice ua lo.length uc, .string (Ck.bs left), .bool false, .string last.s.m, .string last.s.t, .int .i64 last.s.c, .string last.s.r, .int .i64 last.s.n, .slice la last.L.length lc, .string (Ck.bs last.b), .int .i64 k, .int .i64 0] [.string s.m, .string s.t, .int .i64 s.c, .string s.r, .int .i64 s.n, .slice va L.length vc, .string (Ck.bs left)] [.int .i64 k, .int .i64 (zn : Int)] := hD.my 6 (show 6 < 7 by decide) _
    unfold bodyT at hR
    rw [if_pos k1] at hR
    have HK := hide k1
    clear k1
    go_upto_region 7 with fail
    generalize World.setCell _ _ _ = V2 at hD2 ⊢
    clear x0 x1 x2 x3 x4 x5 x6 x7 x8 x9 x10 x11 xf y0 y1 y2 y3 y4 y5 y6 yf q0 q1
    clear hD
    have hD := hD2
    clear hD2
    have x0 := hD.x.cell 0 _ rfl
    have x1 := hD.x.cell 1 _ rfl
    have x2 := hD.x.cell 2 _ rfl
    have x3 := hD.x.cell 3 _ rfl
    have x4 := hD.x.cell 4 _ rfl
    have x5 := hD.x.cell 5 _ rfl
    have x6 := hD.x.cell 6 _ rfl
    have x7 := hD.x.cell 7 _ rfl
    have x8 := hD.x.cell 8 _ rfl
    have x9 := hD.x.cell 9 _ rfl
    have x10 := hD.x.cell 10 _ rfl
    have x11 := hD.x.cell 11 _ rfl
    have xf := hD.x.fz
    have y0 := hD.y.cell 0 _ rfl
    have y1 := hD.y.cell 1 _ rfl
    have y2 := hD.y.cell 2 _ rfl
    have y3 := hD.y.cell 3 _ rfl
    have y4 := hD.y.cell 4 _ rfl
    have y5 := hD.y.cell 5 _ rfl
    have y6 := hD.y.cell 6 _ rfl
    have yf := hD.y.fz
    have q0 := hD.q.cell 0 _ rfl
    have q1 := hD.q.cell 1 _ rfl
    by_cases hle : (zn : Int) ≤ (left.length : Int)
    · rw [if_pos hle] at hR
      simp only [Int.toNat_natCast] at hR
      have hle2 : (zn : Int) ≤ ((Ck.bs left).size : Int) := by omega
      have hls2 : ((Ck.bs left).size : Int) ≤ 9000 := by omega
      have hxa := ext_take_bs left zn
      have hxb := ext_drop_bs left zn
      have HR := hide hR
      clear hR hle hls hleft
      generalize left.take zn = body at hxa HR
      generalize left.drop zn = rest at hxb HR
      have hD3 : Bd w (V2.setCell ⟨N + 1, 6, none⟩ (.string (Ck.bs body))) N [.slice ua lo.length uc, .string (Ck.bs left), .bool false, .string last.s.m, .string last.s.t, .int .i64 last.s.c, .string last.s.r, .int .i64 last.s.n, .slice la last.L.length lc, .string (Ck.bs last.b), .int .i64 k, .int .i64 0] [.string s.m, .string s.t, .int .i64 s.c, .string s.r, .int .i64 s.n, .slice va L.length vc, .string (Ck.bs body)] [.int .i64 k, .int .i64 (zn : Int)] := hD.my 6 (show 6 < 7 by decide) _
      go_upto_region 21 with fail
      generalize World.setCell _ _ _ = V at hD3 ⊢
      clear x0 x1 x2 x3 x4 x5 x6 x7 x8 x9 x10 x11 xf y0 y1 y2 y3 y4 y5 y6 yf q0 q1
      clear hD
      have hD := hD3
      clear hD3
      have x0 := hD.x.cell 0 _ rfl
      have x1 := hD.x.cell 1 _ rfl
      have x2 := hD.x.cell 2 _ rfl
      have x3 := hD.x.cell 3 _ rfl
      have x4 := hD.x.cell 4 _ rfl
      have x5 := hD.x.cell 5 _ rfl
      have x6 := hD.x.cell 6 _ rfl
      have x7 := hD.x.cell 7 _ rfl
      have x8 := hD.x.cell 8 _ rfl
      have x9 := hD.x.cell 9 _ rfl
      have x10 := hD.x.cell 10 _ rfl
      have x11 := hD.x.cell 11 _ rfl
      have xf := hD.x.fz
      have y0 := hD.y.cell 0 _ rfl
      have y1 := hD.y.cell 1 _ rfl
      have y2 := hD.y.cell 2 _ rfl
      have y3 := hD.y.cell 3 _ rfl
      have y4 := hD.y.cell 4 _ rfl
      have y5 := hD.y.cell 5 _ rfl
      have y6 := hD.y.cell 6 _ rfl
      have yf := hD.y.fz
      have q0 := hD.q.cell 0 _ rfl
      have q1 := hD.q.cell 1 _ rfl
      have hMa : MR (V.alloc (.cells #[.string s.m, .string s.t, .int .i64 s.c, .string s.r, .int .i64 s.n, .slice va L.length vc, .string (Ck.bs body)] 26)) base (.slice ua lo.length uc) lo := HM.out.1.below ((by have := hD.b; rw [← hN] at this; exact this : Below w.heap.size w V).alloc (by have := hD.b.size; omega) _)
      have hFa := HM.out.2.2.2.1.below (by have := hD.b; rw [← hN] at this; exact this : Below w.heap.size w V)
      have hma : MRow (V.alloc (.cells #[.string s.m, .string s.t, .int .i64 s.c, .string s.r, .int .i64 s.n, .slice va L.length vc, .string (Ck.bs body)] 26)) (.slice (some ⟨V.heap.size, 0, none⟩) 1 1) [((⟨s, L, body⟩ : Ms), Value.slice va L.length vc)] := mrow_one V ⟨s, L, body⟩ (.slice va L.length vc) hFa
      have hxa2 := hD.x.alloc (.cells #[.string s.m, .string s.t, .int .i64 s.c, .string s.r, .int .i64 s.n, .slice va L.length vc, .string (Ck.bs body)] 26)
      have hoa2 := hD.o.alloc (.cells #[.string s.m, .string s.t, .int .i64 s.c, .string s.r, .int .i64 s.n, .slice va L.length vc, .string (Ck.bs body)] 26)
      have hBa : Below base w (V.alloc (.cells #[.string s.m, .string s.t, .int .i64 s.c, .string s.r, .int .i64 s.n, .slice va L.length vc, .string (Ck.bs body)] 26)) := (hD.b.mono (by have := HM.out.2.2.2.2.1; omega)).alloc (by have := HM.out.2.2.2.2.1; have := hD.x.lt; omega) _
      have hFl := HM.out.2.2.1.below ((by have := hD.b; rw [← hN] at this; exact this : Below w.heap.size w V).alloc (by have := hD.b.size; omega) (.cells #[.string s.m, .string s.t, .int .i64 s.c, .string s.r, .int .i64 s.n, .slice va L.length vc, .string (Ck.bs body)] 26))
      have HX := hide (And.intro hMa (And.intro hma (And.intro hxa2 (And.intro hoa2 (And.intro hBa hFl)))))
      clear hMa hma hxa2 hoa2 hBa hFl hFa
      go_wp2_with (first | (at_builtin; refine unhid2 ?_))
      unfold Hid
      refine wpList_append_MR rfl (.tmp 77) (.tmp 79) rfl base (.slice ua lo.length uc) (.slice (some ⟨V.heap.size, 0, none⟩) 1 1) lo [((⟨s, L, body⟩ : Ms), Value.slice va L.length vc)] rfl rfl HX.out.1 HX.out.2.1 (by have := HM.out.2.2.2.2.2; simp; omega) (Nat.le_trans HM.out.2.2.2.2.1 HX.out.2.2.2.2.1.size) ?_
      intro v5 w5 ho5 hg5
      generalize hlo2 : lo ++ [((⟨s, L, body⟩ : Ms), Value.slice va L.length vc)] = lo2 at ho5
      have HL2 := hide hlo2
      clear hlo2
      obtain ⟨hMa, -, hxa2, hoa2, hBa, hFl⟩ := HX.out
      have hown : ∀ g, (Value.slice ua lo.length uc).ownBlock = some g → ty (V.alloc (.cells #[.string s.m, .string s.t, .int .i64 s.c, .string s.r, .int .i64 s.n, .slice va L.length vc, .string (Ck.bs body)] 26)) g = some 26 ∧ base ≤ g := fun g e => own_block7 hMa.own e
      have hk5 : Kf (V.alloc (.cells #[.string s.m, .string s.t, .int .i64 s.c, .string s.r, .int .i64 s.n, .slice va L.length vc, .string (Ck.bs body)] 26)) w5 := Kf.grown hg5 (fun g e => by rw [(hown g e).1]; decide)
      have hx5 := hxa2.keep (hg5.block N hxa2.lt (fun e => by have h1 := (hown N e.symm).1; rw [hxa2.ty] at h1; exact absurd h1 (by decide)))
      have hq5 := hoa2.keep (hg5.block (N + 3) hoa2.lt (fun e => by have h1 := (hown (N + 3) e.symm).1; rw [hoa2.ty] at h1; exact absurd h1 (by decide)))
      have hFl5 := hFl.keep hk5
      have hBe := hBa.grown hg5 (Nat.le_trans HM.out.2.2.2.2.1 hBa.size) (fun k e => (hown k e).2)
      clear hMa hxa2 hoa2 hBa hFl hown hk5 hg5 HX
      obtain ⟨gb, gd, hv5⟩ := owns_form ho5.own
      subst hv5
      clear x0 x1 x2 x3 x4 x5 x6 x7 x8 x9 x10 x11 xf y0 y1 y2 y3 y4 y5 y6 yf q0 q1
      have hX6 : Blk (w5.setCell ⟨N, 0, none⟩ (.slice gb lo2.length gd)) N 39 [.slice gb lo2.length gd, .string (Ck.bs left), .bool false, .string last.s.m, .string last.s.t, .int .i64 last.s.c, .string last.s.r, .int .i64 last.s.n, .slice la last.L.length lc, .string (Ck.bs last.b), .int .i64 k, .int .i64 0] := hx5.set 0 (show 0 < 12 by decide) _
      have hQ6 := hq5.other N 0 (.slice gb lo2.length gd) (by omega)
      have hg6 := only_set (only_refl w5 N) 0 (.slice gb lo2.length gd)
      have hM6 := ho5.only hg6 (by rw [hx5.ty]; decide) (by rw [hx5.ty]; decide)
      have hFl6 := hFl5.keep (Kf.only hg6 (by rw [hx5.ty]; decide))
      have hB6 := hBe.trans (below_only hg6 (by have := HM.out.2.2.2.2.1; omega) (Nat.le_trans HM.out.2.2.2.2.1 hBe.size))
      clear hg6 ho5 hFl5 hBe hq5
      have z0 := hx5.cell 0 _ rfl
      have zf := hx5.fz
      go_upto_region 28 with fail
      clear z0 zf hx5
      generalize World.setCell _ _ _ = W6 at hX6 hQ6 hM6 hFl6 hB6 ⊢
      have hX7 : Blk (W6.setCell ⟨N, 1, none⟩ (.string (Ck.bs rest))) N 39 [.slice gb lo2.length gd, .string (Ck.bs rest), .bool false, .string last.s.m, .string last.s.t, .int .i64 last.s.c, .string last.s.r, .int .i64 last.s.n, .slice la last.L.length lc, .string (Ck.bs last.b), .int .i64 k, .int .i64 0] := hX6.set 1 (show 1 < 12 by decide) _
      have hQ7 := hQ6.other N 1 (.string (Ck.bs rest)) (by omega)
      have hg7 := only_set (only_refl W6 N) 1 (.string (Ck.bs rest))
      have hM7 := hM6.only hg7 (by rw [hX6.ty]; decide) (by rw [hX6.ty]; decide)
      have hFl7 := hFl6.keep (Kf.only hg7 (by rw [hX6.ty]; decide))
      have hB7 := hB6.trans (below_only hg7 (by have := HM.out.2.2.2.2.1; omega) (Nat.le_trans HM.out.2.2.2.2.1 hB6.size))
      clear hg7
      have z1 := hX6.cell 1 _ rfl
      have zf := hX6.fz
      go_upto_region 29 with fail
      clear z1 zf hX6 hQ6 hM6 hFl6 hB6
      generalize World.setCell _ _ _ = W7 at hX7 hQ7 hM7 hFl7 hB7 ⊢
      have hO8 : Blk (W7.setCells (N + 3) 0 [.slice gb lo2.length gd, .string (Ck.bs rest), .bool false, .string last.s.m, .string last.s.t, .int .i64 last.s.c, .string last.s.r, .int .i64 last.s.n, .slice la last.L.length lc, .string (Ck.bs last.b), .int .i64 k, .int .i64 0]) (N + 3) 39 [.slice gb lo2.length gd, .string (Ck.bs rest), .bool false, .string last.s.m, .string last.s.t, .int .i64 last.s.c, .string last.s.r, .int .i64 last.s.n, .slice la last.L.length lc, .string (Ck.bs last.b), .int .i64 k, .int .i64 0] := hQ7.sets [.slice gb lo2.length gd, .string (Ck.bs rest), .bool false, .string last.s.m, .string last.s.t, .int .i64 last.s.c, .string last.s.r, .int .i64 last.s.n, .slice la last.L.length lc, .string (Ck.bs last.b), .int .i64 k, .int .i64 0] 0 (show 0 + 12 ≤ 12 by decide)
      have hg8 := only_sets [.slice gb lo2.length gd, .string (Ck.bs rest), .bool false, .string last.s.m, .string last.s.t, .int .i64 last.s.c, .string last.s.r, .int .i64 last.s.n, .slice la last.L.length lc, .string (Ck.bs last.b), .int .i64 k, .int .i64 0] 0 (only_refl W7 (N + 3))
      have hth := hQ7.there 0 12 (show 0 + 12 ≤ 12 by decide)
      have HQ := hide (And.intro hO8 hg8)
      clear hO8 hg8
      go_wp2_with (first | (refine wpList_load_mid rfl 39 (.tmp 3) rfl N 0 rfl [.slice gb lo2.length gd, .string (Ck.bs rest), .bool false, .string last.s.m, .string last.s.t, .int .i64 last.s.c, .string last.s.r, .int .i64 last.s.n, .slice la last.L.length lc, .string (Ck.bs last.b), .int .i64 k, .int .i64 0] _ (hX7.range 0 12) Tryz.underlying39 rfl (by kernel_rfl) ?_) | (refine wpList_store_mid rfl 39 (.tmp 6) (.tmp 87) rfl (N + 3) 0 #[.slice gb lo2.length gd, .string (Ck.bs rest), .bool false, .string last.s.m, .string last.s.t, .int .i64 last.s.c, .string last.s.r, .int .i64 last.s.n, .slice la last.L.length lc, .string (Ck.bs last.b), .int .i64 k, .int .i64 0] rfl rfl hth (by kernel_rfl) (by simp [Value.oneCell']) ?_; obtain ⟨hO9, hg9⟩ := HQ.out; generalize World.setCells _ _ _ _ = W8 at hO9 hg9 ⊢; clear HQ hth))
      have o0 := hO9.cell 0 _ rfl
      have o1 := hO9.cell 1 _ rfl
      have o2 := hO9.cell 2 _ rfl
      have o3 := hO9.cell 3 _ rfl
      have o4 := hO9.cell 4 _ rfl
      have o5 := hO9.cell 5 _ rfl
      have o6 := hO9.cell 6 _ rfl
      have o7 := hO9.cell 7 _ rfl
      have o8 := hO9.cell 8 _ rfl
      have o9 := hO9.cell 9 _ rfl
      have o10 := hO9.cell 10 _ rfl
      have o11 := hO9.cell 11 _ rfl
      have hM9 := hM7.only hg9 (by rw [hQ7.ty]; decide) (by rw [hQ7.ty]; decide)
      have hFl9 := hFl7.keep (Kf.only hg9 (by rw [hQ7.ty]; decide))
      have hB9 := hB7.trans (below_only hg9 (by have := HM.out.2.2.2.2.1; omega) (Nat.le_trans HM.out.2.2.2.2.1 hB7.size))
      refine bodyPost_ret (v := .agg #[.slice gb lo2.length gd, .string (Ck.bs rest), .bool false, .string last.s.m, .string last.s.t, .int .i64 last.s.c, .string last.s.r, .int .i64 last.s.n, .slice la last.L.length lc, .string (Ck.bs last.b), .int .i64 k, .int .i64 0]) (by simp [results, Tryz.results24, go_sem, o0, o1, o2, o3, o4, o5, o6, o7, o8, o9, o10, o11]) rfl ⟨⟨.slice gb lo2.length gd, .slice la last.L.length lc, lo2, ?_, hM9, ?_, ?_⟩, hB9⟩
      · rw [← HR.out, HK.out]; rfl
      · rw [← HR.out, ← HL2.out, List.map_append, HM.out.2.1]; rfl
      · rw [← HR.out]; exact hFl9
    · rw [if_neg hle] at hR
      have hle2 : ¬ (zn : Int) ≤ ((Ck.bs left).size : Int) := by omega
      have hls2 : ((Ck.bs left).size : Int) ≤ 9000 := by omega
      have HR := hide hR
      clear hR hle hls hleft
      have hD3 : Bd w (V2.setCell ⟨N, 2, none⟩ (.bool true)) N [.slice ua lo.length uc, .string (Ck.bs left), .bool true, .string last.s.m, .string last.s.t, .int .i64 last.s.c, .string last.s.r, .int .i64 last.s.n, .slice la last.L.length lc, .string (Ck.bs last.b), .int .i64 k, .int .i64 0] [.string s.m, .string s.t, .int .i64 s.c, .string s.r, .int .i64 s.n, .slice va L.length vc, .string (Ck.bs left)] [.int .i64 k, .int .i64 (zn : Int)] := hD.tx 2 (show 2 < 12 by decide) _
      go_upto_region 21 with fail
      generalize World.setCell _ _ _ = V at hD3 ⊢
      clear x0 x1 x2 x3 x4 x5 x6 x7 x8 x9 x10 x11 xf y0 y1 y2 y3 y4 y5 y6 yf q0 q1
      clear hD
      have hD := hD3
      clear hD3
      have x0 := hD.x.cell 0 _ rfl
      have x1 := hD.x.cell 1 _ rfl
      have x2 := hD.x.cell 2 _ rfl
      have x3 := hD.x.cell 3 _ rfl
      have x4 := hD.x.cell 4 _ rfl
      have x5 := hD.x.cell 5 _ rfl
      have x6 := hD.x.cell 6 _ rfl
      have x7 := hD.x.cell 7 _ rfl
      have x8 := hD.x.cell 8 _ rfl
      have x9 := hD.x.cell 9 _ rfl
      have x10 := hD.x.cell 10 _ rfl
      have x11 := hD.x.cell 11 _ rfl
      have xf := hD.x.fz
      have y0 := hD.y.cell 0 _ rfl
      have y1 := hD.y.cell 1 _ rfl
      have y2 := hD.y.cell 2 _ rfl
      have y3 := hD.y.cell 3 _ rfl
      have y4 := hD.y.cell 4 _ rfl
      have y5 := hD.y.cell 5 _ rfl
      have y6 := hD.y.cell 6 _ rfl
      have yf := hD.y.fz
      have q0 := hD.q.cell 0 _ rfl
      have q1 := hD.q.cell 1 _ rfl
      have hD3 : Bd w (V.setCells N 3 [.string s.m, .string s.t, .int .i64 s.c, .string s.r, .int .i64 s.n, .slice va L.length vc, .string (Ck.bs left)]) N [.slice ua lo.length uc, .string (Ck.bs left), .bool true, .string s.m, .string s.t, .int .i64 s.c, .string s.r, .int .i64 s.n, .slice va L.length vc, .string (Ck.bs left), .int .i64 k, .int .i64 0] [.string s.m, .string s.t, .int .i64 s.c, .string s.r, .int .i64 s.n, .slice va L.length vc, .string (Ck.bs left)] [.int .i64 k, .int .i64 (zn : Int)] :=
        have hg := only_sets [.string s.m, .string s.t, .int .i64 s.c, .string s.r, .int .i64 s.n, .slice va L.length vc, .string (Ck.bs left)] 3 (only_refl V N)
        ⟨hD.n, hD.b.trans (below_only hg (Nat.le_refl _) (Nat.le_of_lt hD.x.lt)), hD.x.sets [.string s.m, .string s.t, .int .i64 s.c, .string s.r, .int .i64 s.n, .slice va L.length vc, .string (Ck.bs left)] 3 (show 3 + 7 ≤ 12 by decide), hD.y.keep (hg.block _ hD.y.lt (by simp)), hD.q.keep (hg.block _ hD.q.lt (by simp)), hD.o.keep (hg.block _ hD.o.lt (by simp))⟩
      have hth := hD.x.there 3 7 (show 3 + 7 ≤ 12 by decide)
      have HQ := hide hD3
      clear hD3
      go_upto_region 25 with (first | (refine wpList_load_mid rfl 26 (.tmp 4) rfl (N + 1) 0 rfl [.string s.m, .string s.t, .int .i64 s.c, .string s.r, .int .i64 s.n, .slice va L.length vc, .string (Ck.bs left)] _ (hD.y.range 0 7) Tryz.underlying26 rfl (by kernel_rfl) ?_) | (refine wpList_store_mid rfl 26 (.tmp 73) (.tmp 72) rfl N 3 #[.string s.m, .string s.t, .int .i64 s.c, .string s.r, .int .i64 s.n, .slice va L.length vc, .string (Ck.bs left)] rfl rfl hth (by kernel_rfl) (by simp [Value.oneCell']) ?_; have hD3 := HQ.out; generalize World.setCells _ _ _ _ = V3 at hD3 ⊢; clear HQ hth))
      clear x0 x1 x2 x3 x4 x5 x6 x7 x8 x9 x10 x11 xf y0 y1 y2 y3 y4 y5 y6 yf q0 q1
      clear hD
      have hD := hD3
      clear hD3
      have x0 := hD.x.cell 0 _ rfl
      have x1 := hD.x.cell 1 _ rfl
      have x2 := hD.x.cell 2 _ rfl
      have x3 := hD.x.cell 3 _ rfl
      have x4 := hD.x.cell 4 _ rfl
      have x5 := hD.x.cell 5 _ rfl
      have x6 := hD.x.cell 6 _ rfl
      have x7 := hD.x.cell 7 _ rfl
      have x8 := hD.x.cell 8 _ rfl
      have x9 := hD.x.cell 9 _ rfl
      have x10 := hD.x.cell 10 _ rfl
      have x11 := hD.x.cell 11 _ rfl
      have xf := hD.x.fz
      have y0 := hD.y.cell 0 _ rfl
      have y1 := hD.y.cell 1 _ rfl
      have y2 := hD.y.cell 2 _ rfl
      have y3 := hD.y.cell 3 _ rfl
      have y4 := hD.y.cell 4 _ rfl
      have y5 := hD.y.cell 5 _ rfl
      have y6 := hD.y.cell 6 _ rfl
      have yf := hD.y.fz
      have q0 := hD.q.cell 0 _ rfl
      have q1 := hD.q.cell 1 _ rfl
      have hD4 : Bd w (V3.setCell ⟨N, 1, none⟩ (.string ⟨#[]⟩)) N [.slice ua lo.length uc, .string ⟨#[]⟩, .bool true, .string s.m, .string s.t, .int .i64 s.c, .string s.r, .int .i64 s.n, .slice va L.length vc, .string (Ck.bs left), .int .i64 k, .int .i64 0] [.string s.m, .string s.t, .int .i64 s.c, .string s.r, .int .i64 s.n, .slice va L.length vc, .string (Ck.bs left)] [.int .i64 k, .int .i64 (zn : Int)] := hD.tx 1 (show 1 < 12 by decide) _
      go_upto_region 26 with fail
      generalize World.setCell _ _ _ = V4 at hD4 ⊢
      clear x0 x1 x2 x3 x4 x5 x6 x7 x8 x9 x10 x11 xf y0 y1 y2 y3 y4 y5 y6 yf q0 q1
      clear hD
      have hX7 := hD4.x
      have hQ7 := hD4.o
      have hb4 := hD4.b
      clear hD4
      have hO8 : Blk (V4.setCells (N + 3) 0 [.slice ua lo.length uc, .string ⟨#[]⟩, .bool true, .string s.m, .string s.t, .int .i64 s.c, .string s.r, .int .i64 s.n, .slice va L.length vc, .string (Ck.bs left), .int .i64 k, .int .i64 0]) (N + 3) 39 [.slice ua lo.length uc, .string ⟨#[]⟩, .bool true, .string s.m, .string s.t, .int .i64 s.c, .string s.r, .int .i64 s.n, .slice va L.length vc, .string (Ck.bs left), .int .i64 k, .int .i64 0] := hQ7.sets [.slice ua lo.length uc, .string ⟨#[]⟩, .bool true, .string s.m, .string s.t, .int .i64 s.c, .string s.r, .int .i64 s.n, .slice va L.length vc, .string (Ck.bs left), .int .i64 k, .int .i64 0] 0 (show 0 + 12 ≤ 12 by decide)
      have hg8 := only_sets [.slice ua lo.length uc, .string ⟨#[]⟩, .bool true, .string s.m, .string s.t, .int .i64 s.c, .string s.r, .int .i64 s.n, .slice va L.length vc, .string (Ck.bs left), .int .i64 k, .int .i64 0] 0 (only_refl V4 (N + 3))
      have hth := hQ7.there 0 12 (show 0 + 12 ≤ 12 by decide)
      have HQ := hide (And.intro hO8 hg8)
      clear hO8 hg8
      go_wp2_with (first | (refine wpList_load_mid rfl 39 (.tmp 3) rfl N 0 rfl [.slice ua lo.length uc, .string ⟨#[]⟩, .bool true, .string s.m, .string s.t, .int .i64 s.c, .string s.r, .int .i64 s.n, .slice va L.length vc, .string (Ck.bs left), .int .i64 k, .int .i64 0] _ (hX7.range 0 12) Tryz.underlying39 rfl (by kernel_rfl) ?_) | (refine wpList_store_mid rfl 39 (.tmp 6) (.tmp 75) rfl (N + 3) 0 #[.slice ua lo.length uc, .string ⟨#[]⟩, .bool true, .string s.m, .string s.t, .int .i64 s.c, .string s.r, .int .i64 s.n, .slice va L.length vc, .string (Ck.bs left), .int .i64 k, .int .i64 0] rfl rfl hth (by kernel_rfl) (by simp [Value.oneCell']) ?_; obtain ⟨hO9, hg9⟩ := HQ.out; generalize World.setCells _ _ _ _ = W8 at hO9 hg9 ⊢; clear HQ hth))
      have o0 := hO9.cell 0 _ rfl
      have o1 := hO9.cell 1 _ rfl
      have o2 := hO9.cell 2 _ rfl
      have o3 := hO9.cell 3 _ rfl
      have o4 := hO9.cell 4 _ rfl
      have o5 := hO9.cell 5 _ rfl
      have o6 := hO9.cell 6 _ rfl
      have o7 := hO9.cell 7 _ rfl
      have o8 := hO9.cell 8 _ rfl
      have o9 := hO9.cell 9 _ rfl
      have o10 := hO9.cell 10 _ rfl
      have o11 := hO9.cell 11 _ rfl
      have hb9 : Below w.heap.size w W8 := by rw [hN]; exact hb4.trans (below_only hg9 (by omega) (Nat.le_of_lt hX7.lt))
      refine bodyPost_ret (v := .agg #[.slice ua lo.length uc, .string ⟨#[]⟩, .bool true, .string s.m, .string s.t, .int .i64 s.c, .string s.r, .int .i64 s.n, .slice va L.length vc, .string (Ck.bs left), .int .i64 k, .int .i64 0]) (by simp [results, Tryz.results24, go_sem, o0, o1, o2, o3, o4, o5, o6, o7, o8, o9, o10, o11]) rfl ⟨⟨.slice ua lo.length uc, .slice va L.length vc, lo, ?_, HM.out.1.below hb9, ?_, ?_⟩, hb9.mono HM.out.2.2.2.2.1⟩
      · rw [← HR.out, HK.out]; rfl
      · rw [← HR.out, HM.out.2.1]
      · rw [← HR.out]; exact HM.out.2.2.2.1.below hb9
  · have kb1 : (k == 1) = false := by simpa using k1
    unfold bodyT at hR
    rw [if_neg k1] at hR
    have hls2 : ((Ck.bs left).size : Int) ≤ 9000 := by omega
    by_cases k2 : k = 2
    · have kb2 : (k == 2) = true := by rw [k2]; decide
      rw [if_pos k2] at hR
      have hfd := fun W => Ck.reffeed8_any left W (by omega)
      have hr0 := Ck.fd0 left
      have HK := hide k2
      clear k1 k2
      simp only at hR
      by_cases he : (Ck.run Ck.k0 left).e = 0
      · rw [if_neg (by simpa using he)] at hR
        obtain ⟨x, hxr, -⟩ := Ck.run_part left Ck.k0 he
        obtain ⟨q, d, r, hrun⟩ : ∃ q d r, Ck.run Ck.k0 left = ⟨0, q, d, r⟩ := by
          generalize Ck.run Ck.k0 left = G at he
          obtain ⟨e, q, d, r⟩ := G
          exact ⟨q, d, r, by simp at he; rw [he]⟩
        rw [hrun] at hxr hR
        simp only at hxr hR
        have e2 := Ck.fdV_good (hr0.trans hrun)
        obtain ⟨nn, hnn, hn2⟩ : ∃ nn : Nat, (left.length : Int) - (r.length : Int) = (nn : Int) ∧ nn + r.length = left.length := ⟨x.length, by have := congrArg List.length hxr; rw [List.length_append] at this; omega, by have := congrArg List.length hxr; rw [List.length_append] at this; omega⟩
        rw [hnn] at e2
        simp only [e2] at hfd
        unfold Ck.K.v Ck.k0 at hfd
        simp only at hfd
        have hxb : (Ck.bs left).extract nn (Ck.bs left).size = Ck.bs r := by
          rw [ext_drop_bs]
          congr 1
          have h1 := congrArg List.length hxr
          rw [List.length_append] at h1
          rw [hxr, show nn = x.length by omega, List.drop_left]
        have hnle : (nn : Int) ≤ ((Ck.bs left).size : Int) := by omega
        clear e2 hr0 he hrun hxr hnn hn2 hleft hls
        go_wp2_with fail
        refine (hfd _).mono ?_
        rintro en w3 ⟨rfl, hb3⟩
        clear x0 x1 x2 x3 x4 x5 x6 x7 x8 x9 x10 x11 xf y0 y1 y2 y3 y4 y5 y6 yf q0 q1
        replace hD := hD.below hb3
        clear hb3 hfd
        go_upto_region 12 with fail
        have hC := Ck.Four.new w3 q
        unfold Ck.K.cs at hC
        have hPN : N + 3 < w3.heap.size := hD.o.lt
        replace hD := hD.alloc (.cells [.int .i64 q.st, .string q.line, .int .i64 q.left, .int .i64 q.size].toArray 30)
        generalize World.alloc w3 _ = V2 at hC hD ⊢
        generalize w3.heap.size = P at hC hPN ⊢
        have x0 := hD.x.cell 0 _ rfl
        have x1 := hD.x.cell 1 _ rfl
        have x2 := hD.x.cell 2 _ rfl
        have x3 := hD.x.cell 3 _ rfl
        have x4 := hD.x.cell 4 _ rfl
        have x5 := hD.x.cell 5 _ rfl
        have x6 := hD.x.cell 6 _ rfl
        have x7 := hD.x.cell 7 _ rfl
        have x8 := hD.x.cell 8 _ rfl
        have x9 := hD.x.cell 9 _ rfl
        have x10 := hD.x.cell 10 _ rfl
        have x11 := hD.x.cell 11 _ rfl
        have xf := hD.x.fz
        have y0 := hD.y.cell 0 _ rfl
        have y1 := hD.y.cell 1 _ rfl
        have y2 := hD.y.cell 2 _ rfl
        have y3 := hD.y.cell 3 _ rfl
        have y4 := hD.y.cell 4 _ rfl
        have y5 := hD.y.cell 5 _ rfl
        have y6 := hD.y.cell 6 _ rfl
        have yf := hD.y.fz
        have q0 := hD.q.cell 0 _ rfl
        have q1 := hD.q.cell 1 _ rfl
        have hD2 : Bd w (V2.setCell ⟨N, 11, none⟩ (.int .i64 0)) N [.slice ua lo.length uc, .string (Ck.bs left), .bool false, .string last.s.m, .string last.s.t, .int .i64 last.s.c, .string last.s.r, .int .i64 last.s.n, .slice la last.L.length lc, .string (Ck.bs last.b), .int .i64 k, .int .i64 0] [.string s.m, .string s.t, .int .i64 s.c, .string s.r, .int .i64 s.n, .slice va L.length vc, .string ⟨#[]⟩] [.int .i64 k, .int .i64 (zn : Int)] := hD.tx 11 (show 11 < 12 by decide) _
        have hC2 := hC.other N 11 (.int .i64 0) (by omega)
        go_upto_region 13 with fail
        generalize World.setCell _ _ _ = V3 at hD2 hC2 ⊢
        clear x0 x1 x2 x3 x4 x5 x6 x7 x8 x9 x10 x11 xf y0 y1 y2 y3 y4 y5 y6 yf q0 q1
        clear hD hC
        have hD := hD2
        clear hD2
        have x0 := hD.x.cell 0 _ rfl
        have x1 := hD.x.cell 1 _ rfl
        have x2 := hD.x.cell 2 _ rfl
        have x3 := hD.x.cell 3 _ rfl
        have x4 := hD.x.cell 4 _ rfl
        have x5 := hD.x.cell 5 _ rfl
        have x6 := hD.x.cell 6 _ rfl
        have x7 := hD.x.cell 7 _ rfl
        have x8 := hD.x.cell 8 _ rfl
        have x9 := hD.x.cell 9 _ rfl
        have x10 := hD.x.cell 10 _ rfl
        have x11 := hD.x.cell 11 _ rfl
        have xf := hD.x.fz
        have y0 := hD.y.cell 0 _ rfl
        have y1 := hD.y.cell 1 _ rfl
        have y2 := hD.y.cell 2 _ rfl
        have y3 := hD.y.cell 3 _ rfl
        have y4 := hD.y.cell 4 _ rfl
        have y5 := hD.y.cell 5 _ rfl
        have y6 := hD.y.cell 6 _ rfl
        have yf := hD.y.fz
        have q0 := hD.q.cell 0 _ rfl
        have q1 := hD.q.cell 1 _ rfl
        have hD2 : Bd w (V3.setCell ⟨N + 1, 6, none⟩ (.string (Ck.bs d))) N [.slice ua lo.length uc, .string (Ck.bs left), .bool false, .string last.s.m, .string last.s.t, .int .i64 last.s.c, .string last.s.r, .int .i64 last.s.n, .slice la last.L.length lc, .string (Ck.bs last.b), .int .i64 k, .int .i64 0] [.string s.m, .string s.t, .int .i64 s.c, .string s.r, .int .i64 s.n, .slice va L.length vc, .string (Ck.bs d)] [.int .i64 k, .int .i64 (zn : Int)] := hD.my 6 (show 6 < 7 by decide) _
        have hC3 := hC2.other (N + 1) 6 (.string (Ck.bs d)) (by omega)
        go_upto_region 15 with fail
        generalize World.setCell _ _ _ = V4 at hD2 hC3 ⊢
        clear x0 x1 x2 x3 x4 x5 x6 x7 x8 x9 x10 x11 xf y0 y1 y2 y3 y4 y5 y6 yf q0 q1
        clear hD hC2
        have hD := hD2
        clear hD2
        have x0 := hD.x.cell 0 _ rfl
        have x1 := hD.x.cell 1 _ rfl
        have x2 := hD.x.cell 2 _ rfl
        have x3 := hD.x.cell 3 _ rfl
        have x4 := hD.x.cell 4 _ rfl
        have x5 := hD.x.cell 5 _ rfl
        have x6 := hD.x.cell 6 _ rfl
        have x7 := hD.x.cell 7 _ rfl
        have x8 := hD.x.cell 8 _ rfl
        have x9 := hD.x.cell 9 _ rfl
        have x10 := hD.x.cell 10 _ rfl
        have x11 := hD.x.cell 11 _ rfl
        have xf := hD.x.fz
        have y0 := hD.y.cell 0 _ rfl
        have y1 := hD.y.cell 1 _ rfl
        have y2 := hD.y.cell 2 _ rfl
        have y3 := hD.y.cell 3 _ rfl
        have y4 := hD.y.cell 4 _ rfl
        have y5 := hD.y.cell 5 _ rfl
        have y6 := hD.y.cell 6 _ rfl
        have yf := hD.y.fz
        have q0 := hD.q.cell 0 _ rfl
        have q1 := hD.q.cell 1 _ rfl
        have c0 := hC3.c0
        by_cases h4 : q.st = 4
        · rw [if_pos h4] at hR
          have HR := hide hR
          have s4 : (q.st != 4) = false := by rw [h4]; decide
          clear hR h4
          have hD2 : Bd w (V4.setCell ⟨N, 2, none⟩ (.bool false)) N [.slice ua lo.length uc, .string (Ck.bs left), .bool false, .string last.s.m, .string last.s.t, .int .i64 last.s.c, .string last.s.r, .int .i64 last.s.n, .slice la last.L.length lc, .string (Ck.bs last.b), .int .i64 k, .int .i64 0] [.string s.m, .string s.t, .int .i64 s.c, .string s.r, .int .i64 s.n, .slice va L.length vc, .string (Ck.bs d)] [.int .i64 k, .int .i64 (zn : Int)] := hD.tx 2 (show 2 < 12 by decide) _
          go_upto_region 21 with fail
          generalize World.setCell _ _ _ = V at hD2 ⊢
          clear x0 x1 x2 x3 x4 x5 x6 x7 x8 x9 x10 x11 xf y0 y1 y2 y3 y4 y5 y6 yf q0 q1
          clear hD hC3 c0
          have hD := hD2
          clear hD2
          obtain ⟨body, hbo⟩ : ∃ body, body = d := ⟨_, rfl⟩
          subst hbo
          have x0 := hD.x.cell 0 _ rfl
          have x1 := hD.x.cell 1 _ rfl
          have x2 := hD.x.cell 2 _ rfl
          have x3 := hD.x.cell 3 _ rfl
          have x4 := hD.x.cell 4 _ rfl
          have x5 := hD.x.cell 5 _ rfl
          have x6 := hD.x.cell 6 _ rfl
          have x7 := hD.x.cell 7 _ rfl
          have x8 := hD.x.cell 8 _ rfl
          have x9 := hD.x.cell 9 _ rfl
          have x10 := hD.x.cell 10 _ rfl
          have x11 := hD.x.cell 11 _ rfl
          have xf := hD.x.fz
          have y0 := hD.y.cell 0 _ rfl
          have y1 := hD.y.cell 1 _ rfl
          have y2 := hD.y.cell 2 _ rfl
          have y3 := hD.y.cell 3 _ rfl
          have y4 := hD.y.cell 4 _ rfl
          have y5 := hD.y.cell 5 _ rfl
          have y6 := hD.y.cell 6 _ rfl
          have yf := hD.y.fz
          have q0 := hD.q.cell 0 _ rfl
          have q1 := hD.q.cell 1 _ rfl
          have hMa : MR (V.alloc (.cells #[.string s.m, .string s.t, .int .i64 s.c, .string s.r, .int .i64 s.n, .slice va L.length vc, .string (Ck.bs body)] 26)) base (.slice ua lo.length uc) lo := HM.out.1.below ((by have := hD.b; rw [← hN] at this; exact this : Below w.heap.size w V).alloc (by have := hD.b.size; omega) _)
          have hFa := HM.out.2.2.2.1.below (by have := hD.b; rw [← hN] at this; exact this : Below w.heap.size w V)
          have hma : MRow (V.alloc (.cells #[.string s.m, .string s.t, .int .i64 s.c, .string s.r, .int .i64 s.n, .slice va L.length vc, .string (Ck.bs body)] 26)) (.slice (some ⟨V.heap.size, 0, none⟩) 1 1) [((⟨s, L, body⟩ : Ms), Value.slice va L.length vc)] := mrow_one V ⟨s, L, body⟩ (.slice va L.length vc) hFa
          have hxa2 := hD.x.alloc (.cells #[.string s.m, .string s.t, .int .i64 s.c, .string s.r, .int .i64 s.n, .slice va L.length vc, .string (Ck.bs body)] 26)
          have hoa2 := hD.o.alloc (.cells #[.string s.m, .string s.t, .int .i64 s.c, .string s.r, .int .i64 s.n, .slice va L.length vc, .string (Ck.bs body)] 26)
          have hBa : Below base w (V.alloc (.cells #[.string s.m, .string s.t, .int .i64 s.c, .string s.r, .int .i64 s.n, .slice va L.length vc, .string (Ck.bs body)] 26)) := (hD.b.mono (by have := HM.out.2.2.2.2.1; omega)).alloc (by have := HM.out.2.2.2.2.1; have := hD.x.lt; omega) _
          have hFl := HM.out.2.2.1.below ((by have := hD.b; rw [← hN] at this; exact this : Below w.heap.size w V).alloc (by have := hD.b.size; omega) (.cells #[.string s.m, .string s.t, .int .i64 s.c, .string s.r, .int .i64 s.n, .slice va L.length vc, .string (Ck.bs body)] 26))
          have HX := hide (And.intro hMa (And.intro hma (And.intro hxa2 (And.intro hoa2 (And.intro hBa hFl)))))
          clear hMa hma hxa2 hoa2 hBa hFl hFa
          go_wp2_with (first | (at_builtin; refine unhid2 ?_))
          unfold Hid
          refine wpList_append_MR rfl (.tmp 77) (.tmp 79) rfl base (.slice ua lo.length uc) (.slice (some ⟨V.heap.size, 0, none⟩) 1 1) lo [((⟨s, L, body⟩ : Ms), Value.slice va L.length vc)] rfl rfl HX.out.1 HX.out.2.1 (by have := HM.out.2.2.2.2.2; simp; omega) (Nat.le_trans HM.out.2.2.2.2.1 HX.out.2.2.2.2.1.size) ?_
          intro v5 w5 ho5 hg5
          generalize hlo2 : lo ++ [((⟨s, L, body⟩ : Ms), Value.slice va L.length vc)] = lo2 at ho5
          have HL2 := hide hlo2
          clear hlo2
          obtain ⟨hMa, -, hxa2, hoa2, hBa, hFl⟩ := HX.out
          have hown : ∀ g, (Value.slice ua lo.length uc).ownBlock = some g → ty (V.alloc (.cells #[.string s.m, .string s.t, .int .i64 s.c, .string s.r, .int .i64 s.n, .slice va L.length vc, .string (Ck.bs body)] 26)) g = some 26 ∧ base ≤ g := fun g e => own_block7 hMa.own e
          have hk5 : Kf (V.alloc (.cells #[.string s.m, .string s.t, .int .i64 s.c, .string s.r, .int .i64 s.n, .slice va L.length vc, .string (Ck.bs body)] 26)) w5 := Kf.grown hg5 (fun g e => by rw [(hown g e).1]; decide)
          have hx5 := hxa2.keep (hg5.block N hxa2.lt (fun e => by have h1 := (hown N e.symm).1; rw [hxa2.ty] at h1; exact absurd h1 (by decide)))
          have hq5 := hoa2.keep (hg5.block (N + 3) hoa2.lt (fun e => by have h1 := (hown (N + 3) e.symm).1; rw [hoa2.ty] at h1; exact absurd h1 (by decide)))
          have hFl5 := hFl.keep hk5
          have hBe := hBa.grown hg5 (Nat.le_trans HM.out.2.2.2.2.1 hBa.size) (fun k e => (hown k e).2)
          clear hMa hxa2 hoa2 hBa hFl hown hk5 hg5 HX
          obtain ⟨gb, gd, hv5⟩ := owns_form ho5.own
          subst hv5
          clear x0 x1 x2 x3 x4 x5 x6 x7 x8 x9 x10 x11 xf y0 y1 y2 y3 y4 y5 y6 yf q0 q1
          have hX6 : Blk (w5.setCell ⟨N, 0, none⟩ (.slice gb lo2.length gd)) N 39 [.slice gb lo2.length gd, .string (Ck.bs left), .bool false, .string last.s.m, .string last.s.t, .int .i64 last.s.c, .string last.s.r, .int .i64 last.s.n, .slice la last.L.length lc, .string (Ck.bs last.b), .int .i64 k, .int .i64 0] := hx5.set 0 (show 0 < 12 by decide) _
          have hQ6 := hq5.other N 0 (.slice gb lo2.length gd) (by omega)
          have hg6 := only_set (only_refl w5 N) 0 (.slice gb lo2.length gd)
          have hM6 := ho5.only hg6 (by rw [hx5.ty]; decide) (by rw [hx5.ty]; decide)
          have hFl6 := hFl5.keep (Kf.only hg6 (by rw [hx5.ty]; decide))
          have hB6 := hBe.trans (below_only hg6 (by have := HM.out.2.2.2.2.1; omega) (Nat.le_trans HM.out.2.2.2.2.1 hBe.size))
          clear hg6 ho5 hFl5 hBe hq5
          have z0 := hx5.cell 0 _ rfl
          have zf := hx5.fz
          go_upto_region 28 with fail
          clear z0 zf hx5
          generalize World.setCell _ _ _ = W6 at hX6 hQ6 hM6 hFl6 hB6 ⊢
          have hX7 : Blk (W6.setCell ⟨N, 1, none⟩ (.string (Ck.bs r))) N 39 [.slice gb lo2.length gd, .string (Ck.bs r), .bool false, .string last.s.m, .string last.s.t, .int .i64 last.s.c, .string last.s.r, .int .i64 last.s.n, .slice la last.L.length lc, .string (Ck.bs last.b), .int .i64 k, .int .i64 0] := hX6.set 1 (show 1 < 12 by decide) _
          have hQ7 := hQ6.other N 1 (.string (Ck.bs r)) (by omega)
          have hg7 := only_set (only_refl W6 N) 1 (.string (Ck.bs r))
          have hM7 := hM6.only hg7 (by rw [hX6.ty]; decide) (by rw [hX6.ty]; decide)
          have hFl7 := hFl6.keep (Kf.only hg7 (by rw [hX6.ty]; decide))
          have hB7 := hB6.trans (below_only hg7 (by have := HM.out.2.2.2.2.1; omega) (Nat.le_trans HM.out.2.2.2.2.1 hB6.size))
          clear hg7
          have z1 := hX6.cell 1 _ rfl
          have zf := hX6.fz
          go_upto_region 29 with fail
          clear z1 zf hX6 hQ6 hM6 hFl6 hB6
          generalize World.setCell _ _ _ = W7 at hX7 hQ7 hM7 hFl7 hB7 ⊢
          have hO8 : Blk (W7.setCells (N + 3) 0 [.slice gb lo2.length gd, .string (Ck.bs r), .bool false, .string last.s.m, .string last.s.t, .int .i64 last.s.c, .string last.s.r, .int .i64 last.s.n, .slice la last.L.length lc, .string (Ck.bs last.b), .int .i64 k, .int .i64 0]) (N + 3) 39 [.slice gb lo2.length gd, .string (Ck.bs r), .bool false, .string last.s.m, .string last.s.t, .int .i64 last.s.c, .string last.s.r, .int .i64 last.s.n, .slice la last.L.length lc, .string (Ck.bs last.b), .int .i64 k, .int .i64 0] := hQ7.sets [.slice gb lo2.length gd, .string (Ck.bs r), .bool false, .string last.s.m, .string last.s.t, .int .i64 last.s.c, .string last.s.r, .int .i64 last.s.n, .slice la last.L.length lc, .string (Ck.bs last.b), .int .i64 k, .int .i64 0] 0 (show 0 + 12 ≤ 12 by decide)
          have hg8 := only_sets [.slice gb lo2.length gd, .string (Ck.bs r), .bool false, .string last.s.m, .string last.s.t, .int .i64 last.s.c, .string last.s.r, .int .i64 last.s.n, .slice la last.L.length lc, .string (Ck.bs last.b), .int .i64 k, .int .i64 0] 0 (only_refl W7 (N + 3))
          have hth := hQ7.there 0 12 (show 0 + 12 ≤ 12 by decide)
          have HQ := hide (And.intro hO8 hg8)
          clear hO8 hg8
          go_wp2_with (first | (refine wpList_load_mid rfl 39 (.tmp 3) rfl N 0 rfl [.slice gb lo2.length gd, .string (Ck.bs r), .bool false, .string last.s.m, .string last.s.t, .int .i64 last.s.c, .string last.s.r, .int .i64 last.s.n, .slice la last.L.length lc, .string (Ck.bs last.b), .int .i64 k, .int .i64 0] _ (hX7.range 0 12) Tryz.underlying39 rfl (by kernel_rfl) ?_) | (refine wpList_store_mid rfl 39 (.tmp 6) (.tmp 87) rfl (N + 3) 0 #[.slice gb lo2.length gd, .string (Ck.bs r), .bool false, .string last.s.m, .string last.s.t, .int .i64 last.s.c, .string last.s.r, .int .i64 last.s.n, .slice la last.L.length lc, .string (Ck.bs last.b), .int .i64 k, .int .i64 0] rfl rfl hth (by kernel_rfl) (by simp [Value.oneCell']) ?_; obtain ⟨hO9, hg9⟩ := HQ.out; generalize World.setCells _ _ _ _ = W8 at hO9 hg9 ⊢; clear HQ hth))
          have o0 := hO9.cell 0 _ rfl
          have o1 := hO9.cell 1 _ rfl
          have o2 := hO9.cell 2 _ rfl
          have o3 := hO9.cell 3 _ rfl
          have o4 := hO9.cell 4 _ rfl
          have o5 := hO9.cell 5 _ rfl
          have o6 := hO9.cell 6 _ rfl
          have o7 := hO9.cell 7 _ rfl
          have o8 := hO9.cell 8 _ rfl
          have o9 := hO9.cell 9 _ rfl
          have o10 := hO9.cell 10 _ rfl
          have o11 := hO9.cell 11 _ rfl
          have hM9 := hM7.only hg9 (by rw [hQ7.ty]; decide) (by rw [hQ7.ty]; decide)
          have hFl9 := hFl7.keep (Kf.only hg9 (by rw [hQ7.ty]; decide))
          have hB9 := hB7.trans (below_only hg9 (by have := HM.out.2.2.2.2.1; omega) (Nat.le_trans HM.out.2.2.2.2.1 hB7.size))
          refine bodyPost_ret (v := .agg #[.slice gb lo2.length gd, .string (Ck.bs r), .bool false, .string last.s.m, .string last.s.t, .int .i64 last.s.c, .string last.s.r, .int .i64 last.s.n, .slice la last.L.length lc, .string (Ck.bs last.b), .int .i64 k, .int .i64 0]) (by simp [results, Tryz.results24, go_sem, o0, o1, o2, o3, o4, o5, o6, o7, o8, o9, o10, o11]) rfl ⟨⟨.slice gb lo2.length gd, .slice la last.L.length lc, lo2, ?_, hM9, ?_, ?_⟩, hB9⟩
          · rw [← HR.out, HK.out]; rfl
          · rw [← HR.out, ← HL2.out, List.map_append, HM.out.2.1]; rfl
          · rw [← HR.out]; exact hFl9
        · rw [if_neg h4] at hR
          have HR := hide hR
          have s4 : (q.st != 4) = true := by simpa using h4
          clear hR h4
          have hD2 : Bd w (V4.setCell ⟨N, 2, none⟩ (.bool true)) N [.slice ua lo.length uc, .string (Ck.bs left), .bool true, .string last.s.m, .string last.s.t, .int .i64 last.s.c, .string last.s.r, .int .i64 last.s.n, .slice la last.L.length lc, .string (Ck.bs last.b), .int .i64 k, .int .i64 0] [.string s.m, .string s.t, .int .i64 s.c, .string s.r, .int .i64 s.n, .slice va L.length vc, .string (Ck.bs d)] [.int .i64 k, .int .i64 (zn : Int)] := hD.tx 2 (show 2 < 12 by decide) _
          go_upto_region 21 with fail
          generalize World.setCell _ _ _ = V at hD2 ⊢
          clear x0 x1 x2 x3 x4 x5 x6 x7 x8 x9 x10 x11 xf y0 y1 y2 y3 y4 y5 y6 yf q0 q1
          clear hD hC3 c0
          have hD := hD2
          clear hD2
          have x0 := hD.x.cell 0 _ rfl
          have x1 := hD.x.cell 1 _ rfl
          have x2 := hD.x.cell 2 _ rfl
          have x3 := hD.x.cell 3 _ rfl
          have x4 := hD.x.cell 4 _ rfl
          have x5 := hD.x.cell 5 _ rfl
          have x6 := hD.x.cell 6 _ rfl
          have x7 := hD.x.cell 7 _ rfl
          have x8 := hD.x.cell 8 _ rfl
          have x9 := hD.x.cell 9 _ rfl
          have x10 := hD.x.cell 10 _ rfl
          have x11 := hD.x.cell 11 _ rfl
          have xf := hD.x.fz
          have y0 := hD.y.cell 0 _ rfl
          have y1 := hD.y.cell 1 _ rfl
          have y2 := hD.y.cell 2 _ rfl
          have y3 := hD.y.cell 3 _ rfl
          have y4 := hD.y.cell 4 _ rfl
          have y5 := hD.y.cell 5 _ rfl
          have y6 := hD.y.cell 6 _ rfl
          have yf := hD.y.fz
          have q0 := hD.q.cell 0 _ rfl
          have q1 := hD.q.cell 1 _ rfl
          have hD3 : Bd w (V.setCells N 3 [.string s.m, .string s.t, .int .i64 s.c, .string s.r, .int .i64 s.n, .slice va L.length vc, .string (Ck.bs d)]) N [.slice ua lo.length uc, .string (Ck.bs left), .bool true, .string s.m, .string s.t, .int .i64 s.c, .string s.r, .int .i64 s.n, .slice va L.length vc, .string (Ck.bs d), .int .i64 k, .int .i64 0] [.string s.m, .string s.t, .int .i64 s.c, .string s.r, .int .i64 s.n, .slice va L.length vc, .string (Ck.bs d)] [.int .i64 k, .int .i64 (zn : Int)] :=
            have hg := only_sets [.string s.m, .string s.t, .int .i64 s.c, .string s.r, .int .i64 s.n, .slice va L.length vc, .string (Ck.bs d)] 3 (only_refl V N)
            ⟨hD.n, hD.b.trans (below_only hg (Nat.le_refl _) (Nat.le_of_lt hD.x.lt)), hD.x.sets [.string s.m, .string s.t, .int .i64 s.c, .string s.r, .int .i64 s.n, .slice va L.length vc, .string (Ck.bs d)] 3 (show 3 + 7 ≤ 12 by decide), hD.y.keep (hg.block _ hD.y.lt (by simp)), hD.q.keep (hg.block _ hD.q.lt (by simp)), hD.o.keep (hg.block _ hD.o.lt (by simp))⟩
          have hth := hD.x.there 3 7 (show 3 + 7 ≤ 12 by decide)
          have HQ := hide hD3
          clear hD3
          go_upto_region 25 with (first | (refine wpList_load_mid rfl 26 (.tmp 4) rfl (N + 1) 0 rfl [.string s.m, .string s.t, .int .i64 s.c, .string s.r, .int .i64 s.n, .slice va L.length vc, .string (Ck.bs d)] _ (hD.y.range 0 7) Tryz.underlying26 rfl (by kernel_rfl) ?_) | (refine wpList_store_mid rfl 26 (.tmp 73) (.tmp 72) rfl N 3 #[.string s.m, .string s.t, .int .i64 s.c, .string s.r, .int .i64 s.n, .slice va L.length vc, .string (Ck.bs d)] rfl rfl hth (by kernel_rfl) (by simp [Value.oneCell']) ?_; have hD3 := HQ.out; generalize World.setCells _ _ _ _ = V3 at hD3 ⊢; clear HQ hth))
          clear x0 x1 x2 x3 x4 x5 x6 x7 x8 x9 x10 x11 xf y0 y1 y2 y3 y4 y5 y6 yf q0 q1
          clear hD
          have hD := hD3
          clear hD3
          have x0 := hD.x.cell 0 _ rfl
          have x1 := hD.x.cell 1 _ rfl
          have x2 := hD.x.cell 2 _ rfl
          have x3 := hD.x.cell 3 _ rfl
          have x4 := hD.x.cell 4 _ rfl
          have x5 := hD.x.cell 5 _ rfl
          have x6 := hD.x.cell 6 _ rfl
          have x7 := hD.x.cell 7 _ rfl
          have x8 := hD.x.cell 8 _ rfl
          have x9 := hD.x.cell 9 _ rfl
          have x10 := hD.x.cell 10 _ rfl
          have x11 := hD.x.cell 11 _ rfl
          have xf := hD.x.fz
          have y0 := hD.y.cell 0 _ rfl
          have y1 := hD.y.cell 1 _ rfl
          have y2 := hD.y.cell 2 _ rfl
          have y3 := hD.y.cell 3 _ rfl
          have y4 := hD.y.cell 4 _ rfl
          have y5 := hD.y.cell 5 _ rfl
          have y6 := hD.y.cell 6 _ rfl
          have yf := hD.y.fz
          have q0 := hD.q.cell 0 _ rfl
          have q1 := hD.q.cell 1 _ rfl
          have hD4 : Bd w (V3.setCell ⟨N, 1, none⟩ (.string ⟨#[]⟩)) N [.slice ua lo.length uc, .string ⟨#[]⟩, .bool true, .string s.m, .string s.t, .int .i64 s.c, .string s.r, .int .i64 s.n, .slice va L.length vc, .string (Ck.bs d), .int .i64 k, .int .i64 0] [.string s.m, .string s.t, .int .i64 s.c, .string s.r, .int .i64 s.n, .slice va L.length vc, .string (Ck.bs d)] [.int .i64 k, .int .i64 (zn : Int)] := hD.tx 1 (show 1 < 12 by decide) _
          go_upto_region 26 with fail
          generalize World.setCell _ _ _ = V4 at hD4 ⊢
          clear x0 x1 x2 x3 x4 x5 x6 x7 x8 x9 x10 x11 xf y0 y1 y2 y3 y4 y5 y6 yf q0 q1
          clear hD
          have hX7 := hD4.x
          have hQ7 := hD4.o
          have hb4 := hD4.b
          clear hD4
          have hO8 : Blk (V4.setCells (N + 3) 0 [.slice ua lo.length uc, .string ⟨#[]⟩, .bool true, .string s.m, .string s.t, .int .i64 s.c, .string s.r, .int .i64 s.n, .slice va L.length vc, .string (Ck.bs d), .int .i64 k, .int .i64 0]) (N + 3) 39 [.slice ua lo.length uc, .string ⟨#[]⟩, .bool true, .string s.m, .string s.t, .int .i64 s.c, .string s.r, .int .i64 s.n, .slice va L.length vc, .string (Ck.bs d), .int .i64 k, .int .i64 0] := hQ7.sets [.slice ua lo.length uc, .string ⟨#[]⟩, .bool true, .string s.m, .string s.t, .int .i64 s.c, .string s.r, .int .i64 s.n, .slice va L.length vc, .string (Ck.bs d), .int .i64 k, .int .i64 0] 0 (show 0 + 12 ≤ 12 by decide)
          have hg8 := only_sets [.slice ua lo.length uc, .string ⟨#[]⟩, .bool true, .string s.m, .string s.t, .int .i64 s.c, .string s.r, .int .i64 s.n, .slice va L.length vc, .string (Ck.bs d), .int .i64 k, .int .i64 0] 0 (only_refl V4 (N + 3))
          have hth := hQ7.there 0 12 (show 0 + 12 ≤ 12 by decide)
          have HQ := hide (And.intro hO8 hg8)
          clear hO8 hg8
          go_wp2_with (first | (refine wpList_load_mid rfl 39 (.tmp 3) rfl N 0 rfl [.slice ua lo.length uc, .string ⟨#[]⟩, .bool true, .string s.m, .string s.t, .int .i64 s.c, .string s.r, .int .i64 s.n, .slice va L.length vc, .string (Ck.bs d), .int .i64 k, .int .i64 0] _ (hX7.range 0 12) Tryz.underlying39 rfl (by kernel_rfl) ?_) | (refine wpList_store_mid rfl 39 (.tmp 6) (.tmp 75) rfl (N + 3) 0 #[.slice ua lo.length uc, .string ⟨#[]⟩, .bool true, .string s.m, .string s.t, .int .i64 s.c, .string s.r, .int .i64 s.n, .slice va L.length vc, .string (Ck.bs d), .int .i64 k, .int .i64 0] rfl rfl hth (by kernel_rfl) (by simp [Value.oneCell']) ?_; obtain ⟨hO9, hg9⟩ := HQ.out; generalize World.setCells _ _ _ _ = W8 at hO9 hg9 ⊢; clear HQ hth))
          have o0 := hO9.cell 0 _ rfl
          have o1 := hO9.cell 1 _ rfl
          have o2 := hO9.cell 2 _ rfl
          have o3 := hO9.cell 3 _ rfl
          have o4 := hO9.cell 4 _ rfl
          have o5 := hO9.cell 5 _ rfl
          have o6 := hO9.cell 6 _ rfl
          have o7 := hO9.cell 7 _ rfl
          have o8 := hO9.cell 8 _ rfl
          have o9 := hO9.cell 9 _ rfl
          have o10 := hO9.cell 10 _ rfl
          have o11 := hO9.cell 11 _ rfl
          have hb9 : Below w.heap.size w W8 := by rw [hN]; exact hb4.trans (below_only hg9 (by omega) (Nat.le_of_lt hX7.lt))
          refine bodyPost_ret (v := .agg #[.slice ua lo.length uc, .string ⟨#[]⟩, .bool true, .string s.m, .string s.t, .int .i64 s.c, .string s.r, .int .i64 s.n, .slice va L.length vc, .string (Ck.bs d), .int .i64 k, .int .i64 0]) (by simp [results, Tryz.results24, go_sem, o0, o1, o2, o3, o4, o5, o6, o7, o8, o9, o10, o11]) rfl ⟨⟨.slice ua lo.length uc, .slice va L.length vc, lo, ?_, HM.out.1.below hb9, ?_, ?_⟩, hb9.mono HM.out.2.2.2.2.1⟩
          · rw [← HR.out, HK.out]; rfl
          · rw [← HR.out, HM.out.2.1]
          · rw [← HR.out]; exact HM.out.2.2.2.1.below hb9
      · rw [if_pos he] at hR
        have e1 := Ck.run_bad left Ck.k0 he
        have e2 := Ck.fdV_bad he (hr0.trans e1)
        simp only [e2] at hfd
        unfold Ck.K.v Ck.k0 at hfd
        simp only at hfd
        unfold Ck.k0 at hR he
        have HR := hide hR
        clear hR e1 e2 hr0
        generalize (Ck.run ⟨0, ⟨#[]⟩, 0, 0⟩ left).e = E at hfd HR he
        have heb : ((E : Int) != 0) = true := by simpa using he
        go_wp2_with fail
        refine (hfd _).mono ?_
        rintro en w3 ⟨rfl, hb3⟩
        clear x0 x1 x2 x3 x4 x5 x6 x7 x8 x9 x10 x11 xf y0 y1 y2 y3 y4 y5 y6 yf q0 q1
        replace hD := hD.below hb3
        clear hb3 hfd he
        go_upto_region 12 with fail
        have hC := Ck.four_new0 w3
        have hPN : N + 3 < w3.heap.size := hD.o.lt
        replace hD := hD.alloc (.cells #[.int .i64 0, .string ⟨#[]⟩, .int .i64 0, .int .i64 0] 30)
        generalize World.alloc w3 _ = V2 at hC hD ⊢
        generalize w3.heap.size = P at hC hPN ⊢
        have x0 := hD.x.cell 0 _ rfl
        have x1 := hD.x.cell 1 _ rfl
        have x2 := hD.x.cell 2 _ rfl
        have x3 := hD.x.cell 3 _ rfl
        have x4 := hD.x.cell 4 _ rfl
        have x5 := hD.x.cell 5 _ rfl
        have x6 := hD.x.cell 6 _ rfl
        have x7 := hD.x.cell 7 _ rfl
        have x8 := hD.x.cell 8 _ rfl
        have x9 := hD.x.cell 9 _ rfl
        have x10 := hD.x.cell 10 _ rfl
        have x11 := hD.x.cell 11 _ rfl
        have xf := hD.x.fz
        have y0 := hD.y.cell 0 _ rfl
        have y1 := hD.y.cell 1 _ rfl
        have y2 := hD.y.cell 2 _ rfl
        have y3 := hD.y.cell 3 _ rfl
        have y4 := hD.y.cell 4 _ rfl
        have y5 := hD.y.cell 5 _ rfl
        have y6 := hD.y.cell 6 _ rfl
        have yf := hD.y.fz
        have q0 := hD.q.cell 0 _ rfl
        have q1 := hD.q.cell 1 _ rfl
        have hD2 : Bd w (V2.setCell ⟨N, 11, none⟩ (.int .i64 (E : Nat))) N [.slice ua lo.length uc, .string (Ck.bs left), .bool false, .string last.s.m, .string last.s.t, .int .i64 last.s.c, .string last.s.r, .int .i64 last.s.n, .slice la last.L.length lc, .string (Ck.bs last.b), .int .i64 k, .int .i64 (E : Nat)] [.string s.m, .string s.t, .int .i64 s.c, .string s.r, .int .i64 s.n, .slice va L.length vc, .string ⟨#[]⟩] [.int .i64 k, .int .i64 (zn : Int)] := hD.tx 11 (show 11 < 12 by decide) _
        have hC2 := hC.other N 11 (.int .i64 (E : Nat)) (by omega)
        go_upto_region 13 with fail
        generalize World.setCell _ _ _ = V3 at hD2 hC2 ⊢
        clear x0 x1 x2 x3 x4 x5 x6 x7 x8 x9 x10 x11 xf y0 y1 y2 y3 y4 y5 y6 yf q0 q1
        clear hD hC
        have hD := hD2
        clear hD2
        have x0 := hD.x.cell 0 _ rfl
        have x1 := hD.x.cell 1 _ rfl
        have x2 := hD.x.cell 2 _ rfl
        have x3 := hD.x.cell 3 _ rfl
        have x4 := hD.x.cell 4 _ rfl
        have x5 := hD.x.cell 5 _ rfl
        have x6 := hD.x.cell 6 _ rfl
        have x7 := hD.x.cell 7 _ rfl
        have x8 := hD.x.cell 8 _ rfl
        have x9 := hD.x.cell 9 _ rfl
        have x10 := hD.x.cell 10 _ rfl
        have x11 := hD.x.cell 11 _ rfl
        have xf := hD.x.fz
        have y0 := hD.y.cell 0 _ rfl
        have y1 := hD.y.cell 1 _ rfl
        have y2 := hD.y.cell 2 _ rfl
        have y3 := hD.y.cell 3 _ rfl
        have y4 := hD.y.cell 4 _ rfl
        have y5 := hD.y.cell 5 _ rfl
        have y6 := hD.y.cell 6 _ rfl
        have yf := hD.y.fz
        have q0 := hD.q.cell 0 _ rfl
        have q1 := hD.q.cell 1 _ rfl
        have hD2 : Bd w (V3.setCell ⟨N + 1, 6, none⟩ (.string ⟨#[]⟩)) N [.slice ua lo.length uc, .string (Ck.bs left), .bool false, .string last.s.m, .string last.s.t, .int .i64 last.s.c, .string last.s.r, .int .i64 last.s.n, .slice la last.L.length lc, .string (Ck.bs last.b), .int .i64 k, .int .i64 (E : Nat)] [.string s.m, .string s.t, .int .i64 s.c, .string s.r, .int .i64 s.n, .slice va L.length vc, .string ⟨#[]⟩] [.int .i64 k, .int .i64 (zn : Int)] := hD.my 6 (show 6 < 7 by decide) _
        have hC3 := hC2.other (N + 1) 6 (.string ⟨#[]⟩) (by omega)
        go_upto_region 15 with fail
        generalize World.setCell _ _ _ = V4 at hD2 hC3 ⊢
        clear x0 x1 x2 x3 x4 x5 x6 x7 x8 x9 x10 x11 xf y0 y1 y2 y3 y4 y5 y6 yf q0 q1
        clear hD hC2
        have hD := hD2
        clear hD2
        have x0 := hD.x.cell 0 _ rfl
        have x1 := hD.x.cell 1 _ rfl
        have x2 := hD.x.cell 2 _ rfl
        have x3 := hD.x.cell 3 _ rfl
        have x4 := hD.x.cell 4 _ rfl
        have x5 := hD.x.cell 5 _ rfl
        have x6 := hD.x.cell 6 _ rfl
        have x7 := hD.x.cell 7 _ rfl
        have x8 := hD.x.cell 8 _ rfl
        have x9 := hD.x.cell 9 _ rfl
        have x10 := hD.x.cell 10 _ rfl
        have x11 := hD.x.cell 11 _ rfl
        have xf := hD.x.fz
        have y0 := hD.y.cell 0 _ rfl
        have y1 := hD.y.cell 1 _ rfl
        have y2 := hD.y.cell 2 _ rfl
        have y3 := hD.y.cell 3 _ rfl
        have y4 := hD.y.cell 4 _ rfl
        have y5 := hD.y.cell 5 _ rfl
        have y6 := hD.y.cell 6 _ rfl
        have yf := hD.y.fz
        have q0 := hD.q.cell 0 _ rfl
        have q1 := hD.q.cell 1 _ rfl
        have c0 := hC3.c0
        change _ = some (Value.int .i64 0) at c0
        have hD2 : Bd w (V4.setCell ⟨N, 2, none⟩ (.bool true)) N [.slice ua lo.length uc, .string (Ck.bs left), .bool true, .string last.s.m, .string last.s.t, .int .i64 last.s.c, .string last.s.r, .int .i64 last.s.n, .slice la last.L.length lc, .string (Ck.bs last.b), .int .i64 k, .int .i64 (E : Nat)] [.string s.m, .string s.t, .int .i64 s.c, .string s.r, .int .i64 s.n, .slice va L.length vc, .string ⟨#[]⟩] [.int .i64 k, .int .i64 (zn : Int)] := hD.tx 2 (show 2 < 12 by decide) _
        go_upto_region 21 with fail
        generalize World.setCell _ _ _ = V5 at hD2 ⊢
        clear x0 x1 x2 x3 x4 x5 x6 x7 x8 x9 x10 x11 xf y0 y1 y2 y3 y4 y5 y6 yf q0 q1
        clear hD hC3 c0
        have hD := hD2
        clear hD2
        have x11 := hD.x.cell 11 _ rfl
        have xf := hD.x.fz
        have hX7 := hD.x
        have hQ7 := hD.o
        have hb4 := hD.b
        have hO8 : Blk (V5.setCells (N + 3) 0 [.slice ua lo.length uc, .string (Ck.bs left), .bool true, .string last.s.m, .string last.s.t, .int .i64 last.s.c, .string last.s.r, .int .i64 last.s.n, .slice la last.L.length lc, .string (Ck.bs last.b), .int .i64 k, .int .i64 (E : Nat)]) (N + 3) 39 [.slice ua lo.length uc, .string (Ck.bs left), .bool true, .string last.s.m, .string last.s.t, .int .i64 last.s.c, .string last.s.r, .int .i64 last.s.n, .slice la last.L.length lc, .string (Ck.bs last.b), .int .i64 k, .int .i64 (E : Nat)] := hQ7.sets [.slice ua lo.length uc, .string (Ck.bs left), .bool true, .string last.s.m, .string last.s.t, .int .i64 last.s.c, .string last.s.r, .int .i64 last.s.n, .slice la last.L.length lc, .string (Ck.bs last.b), .int .i64 k, .int .i64 (E : Nat)] 0 (show 0 + 12 ≤ 12 by decide)
        have hg8 := only_sets [.slice ua lo.length uc, .string (Ck.bs left), .bool true, .string last.s.m, .string last.s.t, .int .i64 last.s.c, .string last.s.r, .int .i64 last.s.n, .slice la last.L.length lc, .string (Ck.bs last.b), .int .i64 k, .int .i64 (E : Nat)] 0 (only_refl V5 (N + 3))
        have hth := hQ7.there 0 12 (show 0 + 12 ≤ 12 by decide)
        have HQ := hide (And.intro hO8 hg8)
        clear hO8 hg8
        go_wp2_with (first | (refine wpList_load_mid rfl 39 (.tmp 3) rfl N 0 rfl [.slice ua lo.length uc, .string (Ck.bs left), .bool true, .string last.s.m, .string last.s.t, .int .i64 last.s.c, .string last.s.r, .int .i64 last.s.n, .slice la last.L.length lc, .string (Ck.bs last.b), .int .i64 k, .int .i64 (E : Nat)] _ (hX7.range 0 12) Tryz.underlying39 rfl (by kernel_rfl) ?_) | (refine wpList_store_mid rfl 39 (.tmp 6) (.tmp 69) rfl (N + 3) 0 #[.slice ua lo.length uc, .string (Ck.bs left), .bool true, .string last.s.m, .string last.s.t, .int .i64 last.s.c, .string last.s.r, .int .i64 last.s.n, .slice la last.L.length lc, .string (Ck.bs last.b), .int .i64 k, .int .i64 (E : Nat)] rfl rfl hth (by kernel_rfl) (by simp [Value.oneCell']) ?_; obtain ⟨hO9, hg9⟩ := HQ.out; generalize World.setCells _ _ _ _ = W8 at hO9 hg9 ⊢; clear HQ hth))
        have o0 := hO9.cell 0 _ rfl
        have o1 := hO9.cell 1 _ rfl
        have o2 := hO9.cell 2 _ rfl
        have o3 := hO9.cell 3 _ rfl
        have o4 := hO9.cell 4 _ rfl
        have o5 := hO9.cell 5 _ rfl
        have o6 := hO9.cell 6 _ rfl
        have o7 := hO9.cell 7 _ rfl
        have o8 := hO9.cell 8 _ rfl
        have o9 := hO9.cell 9 _ rfl
        have o10 := hO9.cell 10 _ rfl
        have o11 := hO9.cell 11 _ rfl
        have hb9 : Below w.heap.size w W8 := by rw [hN]; exact hb4.trans (below_only hg9 (by omega) (Nat.le_of_lt hX7.lt))
        refine bodyPost_ret (v := .agg #[.slice ua lo.length uc, .string (Ck.bs left), .bool true, .string last.s.m, .string last.s.t, .int .i64 last.s.c, .string last.s.r, .int .i64 last.s.n, .slice la last.L.length lc, .string (Ck.bs last.b), .int .i64 k, .int .i64 (E : Nat)]) (by simp [results, Tryz.results24, go_sem, o0, o1, o2, o3, o4, o5, o6, o7, o8, o9, o10, o11]) rfl ⟨⟨.slice ua lo.length uc, .slice la last.L.length lc, lo, ?_, HM.out.1.below hb9, ?_, ?_⟩, hb9.mono HM.out.2.2.2.2.1⟩
        · rw [← HR.out, HK.out]; rfl
        · rw [← HR.out, HM.out.2.1]
        · rw [← HR.out]; exact HM.out.2.2.1.below hb9
    · have kb2 : (k == 2) = false := by simpa using k2
      rw [if_neg k2] at hR
      by_cases k3 : k = 3
      · have kb3 : (k == 3) = true := by rw [k3]; decide
        rw [if_pos k3] at hR
        simp only at hR
        rw [if_neg (show ¬ 20000 < left.length by omega)] at hR
        have HR := hide hR
        have HK := hide k3
        clear hR k1 k2 k3 hls hleft
        have hD2 : Bd w (V1.setCell ⟨N + 1, 6, none⟩ (.string (Ck.bs left))) N [.slice ua lo.length uc, .string (Ck.bs left), .bool false, .string last.s.m, .string last.s.t, .int .i64 last.s.c, .string last.s.r, .int .i64 last.s.n, .slice la last.L.length lc, .string (Ck.bs last.b), .int .i64 k, .int .i64 0] [.string s.m, .string s.t, .int .i64 s.c, .string s.r, .int .i64 s.n, .slice va L.length vc, .string (Ck.bs left)] [.int .i64 k, .int .i64 (zn : Int)] := hD.my 6 (show 6 < 7 by decide) _
        go_upto_region 18 with fail
        generalize World.setCell _ _ _ = V2 at hD2 ⊢
        clear x0 x1 x2 x3 x4 x5 x6 x7 x8 x9 x10 x11 xf y0 y1 y2 y3 y4 y5 y6 yf q0 q1
        clear hD
        have hD := hD2
        clear hD2
        have x0 := hD.x.cell 0 _ rfl
        have x1 := hD.x.cell 1 _ rfl
        have x2 := hD.x.cell 2 _ rfl
        have x3 := hD.x.cell 3 _ rfl
        have x4 := hD.x.cell 4 _ rfl
        have x5 := hD.x.cell 5 _ rfl
        have x6 := hD.x.cell 6 _ rfl
        have x7 := hD.x.cell 7 _ rfl
        have x8 := hD.x.cell 8 _ rfl
        have x9 := hD.x.cell 9 _ rfl
        have x10 := hD.x.cell 10 _ rfl
        have x11 := hD.x.cell 11 _ rfl
        have xf := hD.x.fz
        have y0 := hD.y.cell 0 _ rfl
        have y1 := hD.y.cell 1 _ rfl
        have y2 := hD.y.cell 2 _ rfl
        have y3 := hD.y.cell 3 _ rfl
        have y4 := hD.y.cell 4 _ rfl
        have y5 := hD.y.cell 5 _ rfl
        have y6 := hD.y.cell 6 _ rfl
        have yf := hD.y.fz
        have q0 := hD.q.cell 0 _ rfl
        have q1 := hD.q.cell 1 _ rfl
        have hD3 : Bd w (V2.setCell ⟨N, 2, none⟩ (.bool true)) N [.slice ua lo.length uc, .string (Ck.bs left), .bool true, .string last.s.m, .string last.s.t, .int .i64 last.s.c, .string last.s.r, .int .i64 last.s.n, .slice la last.L.length lc, .string (Ck.bs last.b), .int .i64 k, .int .i64 0] [.string s.m, .string s.t, .int .i64 s.c, .string s.r, .int .i64 s.n, .slice va L.length vc, .string (Ck.bs left)] [.int .i64 k, .int .i64 (zn : Int)] := hD.tx 2 (show 2 < 12 by decide) _
        go_upto_region 19 with fail
        generalize World.setCell _ _ _ = V at hD3 ⊢
        clear x0 x1 x2 x3 x4 x5 x6 x7 x8 x9 x10 x11 xf y0 y1 y2 y3 y4 y5 y6 yf q0 q1
        clear hD
        have hD := hD3
        clear hD3
        have x0 := hD.x.cell 0 _ rfl
        have x1 := hD.x.cell 1 _ rfl
        have x2 := hD.x.cell 2 _ rfl
        have x3 := hD.x.cell 3 _ rfl
        have x4 := hD.x.cell 4 _ rfl
        have x5 := hD.x.cell 5 _ rfl
        have x6 := hD.x.cell 6 _ rfl
        have x7 := hD.x.cell 7 _ rfl
        have x8 := hD.x.cell 8 _ rfl
        have x9 := hD.x.cell 9 _ rfl
        have x10 := hD.x.cell 10 _ rfl
        have x11 := hD.x.cell 11 _ rfl
        have xf := hD.x.fz
        have y0 := hD.y.cell 0 _ rfl
        have y1 := hD.y.cell 1 _ rfl
        have y2 := hD.y.cell 2 _ rfl
        have y3 := hD.y.cell 3 _ rfl
        have y4 := hD.y.cell 4 _ rfl
        have y5 := hD.y.cell 5 _ rfl
        have y6 := hD.y.cell 6 _ rfl
        have yf := hD.y.fz
        have q0 := hD.q.cell 0 _ rfl
        have q1 := hD.q.cell 1 _ rfl
        have hD3 : Bd w (V.setCells N 3 [.string s.m, .string s.t, .int .i64 s.c, .string s.r, .int .i64 s.n, .slice va L.length vc, .string (Ck.bs left)]) N [.slice ua lo.length uc, .string (Ck.bs left), .bool true, .string s.m, .string s.t, .int .i64 s.c, .string s.r, .int .i64 s.n, .slice va L.length vc, .string (Ck.bs left), .int .i64 k, .int .i64 0] [.string s.m, .string s.t, .int .i64 s.c, .string s.r, .int .i64 s.n, .slice va L.length vc, .string (Ck.bs left)] [.int .i64 k, .int .i64 (zn : Int)] :=
          have hg := only_sets [.string s.m, .string s.t, .int .i64 s.c, .string s.r, .int .i64 s.n, .slice va L.length vc, .string (Ck.bs left)] 3 (only_refl V N)
          ⟨hD.n, hD.b.trans (below_only hg (Nat.le_refl _) (Nat.le_of_lt hD.x.lt)), hD.x.sets [.string s.m, .string s.t, .int .i64 s.c, .string s.r, .int .i64 s.n, .slice va L.length vc, .string (Ck.bs left)] 3 (show 3 + 7 ≤ 12 by decide), hD.y.keep (hg.block _ hD.y.lt (by simp)), hD.q.keep (hg.block _ hD.q.lt (by simp)), hD.o.keep (hg.block _ hD.o.lt (by simp))⟩
        have hth := hD.x.there 3 7 (show 3 + 7 ≤ 12 by decide)
        have HQ := hide hD3
        clear hD3
        go_upto_region 25 with (first | (refine wpList_load_mid rfl 26 (.tmp 4) rfl (N + 1) 0 rfl [.string s.m, .string s.t, .int .i64 s.c, .string s.r, .int .i64 s.n, .slice va L.length vc, .string (Ck.bs left)] _ (hD.y.range 0 7) Tryz.underlying26 rfl (by kernel_rfl) ?_) | (refine wpList_store_mid rfl 26 (.tmp 73) (.tmp 72) rfl N 3 #[.string s.m, .string s.t, .int .i64 s.c, .string s.r, .int .i64 s.n, .slice va L.length vc, .string (Ck.bs left)] rfl rfl hth (by kernel_rfl) (by simp [Value.oneCell']) ?_; have hD3 := HQ.out; generalize World.setCells _ _ _ _ = V3 at hD3 ⊢; clear HQ hth))
        clear x0 x1 x2 x3 x4 x5 x6 x7 x8 x9 x10 x11 xf y0 y1 y2 y3 y4 y5 y6 yf q0 q1
        clear hD
        have hD := hD3
        clear hD3
        have x0 := hD.x.cell 0 _ rfl
        have x1 := hD.x.cell 1 _ rfl
        have x2 := hD.x.cell 2 _ rfl
        have x3 := hD.x.cell 3 _ rfl
        have x4 := hD.x.cell 4 _ rfl
        have x5 := hD.x.cell 5 _ rfl
        have x6 := hD.x.cell 6 _ rfl
        have x7 := hD.x.cell 7 _ rfl
        have x8 := hD.x.cell 8 _ rfl
        have x9 := hD.x.cell 9 _ rfl
        have x10 := hD.x.cell 10 _ rfl
        have x11 := hD.x.cell 11 _ rfl
        have xf := hD.x.fz
        have y0 := hD.y.cell 0 _ rfl
        have y1 := hD.y.cell 1 _ rfl
        have y2 := hD.y.cell 2 _ rfl
        have y3 := hD.y.cell 3 _ rfl
        have y4 := hD.y.cell 4 _ rfl
        have y5 := hD.y.cell 5 _ rfl
        have y6 := hD.y.cell 6 _ rfl
        have yf := hD.y.fz
        have q0 := hD.q.cell 0 _ rfl
        have q1 := hD.q.cell 1 _ rfl
        have hD4 : Bd w (V3.setCell ⟨N, 1, none⟩ (.string ⟨#[]⟩)) N [.slice ua lo.length uc, .string ⟨#[]⟩, .bool true, .string s.m, .string s.t, .int .i64 s.c, .string s.r, .int .i64 s.n, .slice va L.length vc, .string (Ck.bs left), .int .i64 k, .int .i64 0] [.string s.m, .string s.t, .int .i64 s.c, .string s.r, .int .i64 s.n, .slice va L.length vc, .string (Ck.bs left)] [.int .i64 k, .int .i64 (zn : Int)] := hD.tx 1 (show 1 < 12 by decide) _
        go_upto_region 26 with fail
        generalize World.setCell _ _ _ = V4 at hD4 ⊢
        clear x0 x1 x2 x3 x4 x5 x6 x7 x8 x9 x10 x11 xf y0 y1 y2 y3 y4 y5 y6 yf q0 q1
        clear hD
        have hX7 := hD4.x
        have hQ7 := hD4.o
        have hb4 := hD4.b
        clear hD4
        have hO8 : Blk (V4.setCells (N + 3) 0 [.slice ua lo.length uc, .string ⟨#[]⟩, .bool true, .string s.m, .string s.t, .int .i64 s.c, .string s.r, .int .i64 s.n, .slice va L.length vc, .string (Ck.bs left), .int .i64 k, .int .i64 0]) (N + 3) 39 [.slice ua lo.length uc, .string ⟨#[]⟩, .bool true, .string s.m, .string s.t, .int .i64 s.c, .string s.r, .int .i64 s.n, .slice va L.length vc, .string (Ck.bs left), .int .i64 k, .int .i64 0] := hQ7.sets [.slice ua lo.length uc, .string ⟨#[]⟩, .bool true, .string s.m, .string s.t, .int .i64 s.c, .string s.r, .int .i64 s.n, .slice va L.length vc, .string (Ck.bs left), .int .i64 k, .int .i64 0] 0 (show 0 + 12 ≤ 12 by decide)
        have hg8 := only_sets [.slice ua lo.length uc, .string ⟨#[]⟩, .bool true, .string s.m, .string s.t, .int .i64 s.c, .string s.r, .int .i64 s.n, .slice va L.length vc, .string (Ck.bs left), .int .i64 k, .int .i64 0] 0 (only_refl V4 (N + 3))
        have hth := hQ7.there 0 12 (show 0 + 12 ≤ 12 by decide)
        have HQ := hide (And.intro hO8 hg8)
        clear hO8 hg8
        go_wp2_with (first | (refine wpList_load_mid rfl 39 (.tmp 3) rfl N 0 rfl [.slice ua lo.length uc, .string ⟨#[]⟩, .bool true, .string s.m, .string s.t, .int .i64 s.c, .string s.r, .int .i64 s.n, .slice va L.length vc, .string (Ck.bs left), .int .i64 k, .int .i64 0] _ (hX7.range 0 12) Tryz.underlying39 rfl (by kernel_rfl) ?_) | (refine wpList_store_mid rfl 39 (.tmp 6) (.tmp 75) rfl (N + 3) 0 #[.slice ua lo.length uc, .string ⟨#[]⟩, .bool true, .string s.m, .string s.t, .int .i64 s.c, .string s.r, .int .i64 s.n, .slice va L.length vc, .string (Ck.bs left), .int .i64 k, .int .i64 0] rfl rfl hth (by kernel_rfl) (by simp [Value.oneCell']) ?_; obtain ⟨hO9, hg9⟩ := HQ.out; generalize World.setCells _ _ _ _ = W8 at hO9 hg9 ⊢; clear HQ hth))
        have o0 := hO9.cell 0 _ rfl
        have o1 := hO9.cell 1 _ rfl
        have o2 := hO9.cell 2 _ rfl
        have o3 := hO9.cell 3 _ rfl
        have o4 := hO9.cell 4 _ rfl
        have o5 := hO9.cell 5 _ rfl
        have o6 := hO9.cell 6 _ rfl
        have o7 := hO9.cell 7 _ rfl
        have o8 := hO9.cell 8 _ rfl
        have o9 := hO9.cell 9 _ rfl
        have o10 := hO9.cell 10 _ rfl
        have o11 := hO9.cell 11 _ rfl
        have hb9 : Below w.heap.size w W8 := by rw [hN]; exact hb4.trans (below_only hg9 (by omega) (Nat.le_of_lt hX7.lt))
        refine bodyPost_ret (v := .agg #[.slice ua lo.length uc, .string ⟨#[]⟩, .bool true, .string s.m, .string s.t, .int .i64 s.c, .string s.r, .int .i64 s.n, .slice va L.length vc, .string (Ck.bs left), .int .i64 k, .int .i64 0]) (by simp [results, Tryz.results24, go_sem, o0, o1, o2, o3, o4, o5, o6, o7, o8, o9, o10, o11]) rfl ⟨⟨.slice ua lo.length uc, .slice va L.length vc, lo, ?_, HM.out.1.below hb9, ?_, ?_⟩, hb9.mono HM.out.2.2.2.2.1⟩
        · rw [← HR.out, HK.out]; rfl
        · rw [← HR.out, HM.out.2.1]
        · rw [← HR.out]; exact HM.out.2.2.2.1.below hb9
      · have kb3 : (k == 3) = false := by simpa using k3
        rw [if_neg k3] at hR
        simp only at hR
        obtain ⟨body, hbody⟩ : ∃ body : List UInt8, body = [] := ⟨_, rfl⟩
        rw [← hbody] at hR
        have hD2 : Bd w V1 N [.slice ua lo.length uc, .string (Ck.bs left), .bool false, .string last.s.m, .string last.s.t, .int .i64 last.s.c, .string last.s.r, .int .i64 last.s.n, .slice la last.L.length lc, .string (Ck.bs last.b), .int .i64 k, .int .i64 0] [.string s.m, .string s.t, .int .i64 s.c, .string s.r, .int .i64 s.n, .slice va L.length vc, .string (Ck.bs body)] [.int .i64 k, .int .i64 (zn : Int)] := by rw [hbody]; exact hD
        have HR := hide hR
        clear x0 x1 x2 x3 x4 x5 x6 x7 x8 x9 x10 x11 xf y0 y1 y2 y3 y4 y5 y6 yf q0 q1
        clear hR k1 k2 k3 hls hleft hD hbody
        have hD := hD2
        clear hD2
        have hxb : (Ck.bs left).extract 0 (Ck.bs left).size = Ck.bs left := ext_drop_bs left 0
        generalize hvv : V1 = V at hD ⊢
        clear hvv
        have x0 := hD.x.cell 0 _ rfl
        have x1 := hD.x.cell 1 _ rfl
        have x2 := hD.x.cell 2 _ rfl
        have x3 := hD.x.cell 3 _ rfl
        have x4 := hD.x.cell 4 _ rfl
        have x5 := hD.x.cell 5 _ rfl
        have x6 := hD.x.cell 6 _ rfl
        have x7 := hD.x.cell 7 _ rfl
        have x8 := hD.x.cell 8 _ rfl
        have x9 := hD.x.cell 9 _ rfl
        have x10 := hD.x.cell 10 _ rfl
        have x11 := hD.x.cell 11 _ rfl
        have xf := hD.x.fz
        have y0 := hD.y.cell 0 _ rfl
        have y1 := hD.y.cell 1 _ rfl
        have y2 := hD.y.cell 2 _ rfl
        have y3 := hD.y.cell 3 _ rfl
        have y4 := hD.y.cell 4 _ rfl
        have y5 := hD.y.cell 5 _ rfl
        have y6 := hD.y.cell 6 _ rfl
        have yf := hD.y.fz
        have q0 := hD.q.cell 0 _ rfl
        have q1 := hD.q.cell 1 _ rfl
        have hMa : MR (V.alloc (.cells #[.string s.m, .string s.t, .int .i64 s.c, .string s.r, .int .i64 s.n, .slice va L.length vc, .string (Ck.bs body)] 26)) base (.slice ua lo.length uc) lo := HM.out.1.below ((by have := hD.b; rw [← hN] at this; exact this : Below w.heap.size w V).alloc (by have := hD.b.size; omega) _)
        have hFa := HM.out.2.2.2.1.below (by have := hD.b; rw [← hN] at this; exact this : Below w.heap.size w V)
        have hma : MRow (V.alloc (.cells #[.string s.m, .string s.t, .int .i64 s.c, .string s.r, .int .i64 s.n, .slice va L.length vc, .string (Ck.bs body)] 26)) (.slice (some ⟨V.heap.size, 0, none⟩) 1 1) [((⟨s, L, body⟩ : Ms), Value.slice va L.length vc)] := mrow_one V ⟨s, L, body⟩ (.slice va L.length vc) hFa
        have hxa2 := hD.x.alloc (.cells #[.string s.m, .string s.t, .int .i64 s.c, .string s.r, .int .i64 s.n, .slice va L.length vc, .string (Ck.bs body)] 26)
        have hoa2 := hD.o.alloc (.cells #[.string s.m, .string s.t, .int .i64 s.c, .string s.r, .int .i64 s.n, .slice va L.length vc, .string (Ck.bs body)] 26)
        have hBa : Below base w (V.alloc (.cells #[.string s.m, .string s.t, .int .i64 s.c, .string s.r, .int .i64 s.n, .slice va L.length vc, .string (Ck.bs body)] 26)) := (hD.b.mono (by have := HM.out.2.2.2.2.1; omega)).alloc (by have := HM.out.2.2.2.2.1; have := hD.x.lt; omega) _
        have hFl := HM.out.2.2.1.below ((by have := hD.b; rw [← hN] at this; exact this : Below w.heap.size w V).alloc (by have := hD.b.size; omega) (.cells #[.string s.m, .string s.t, .int .i64 s.c, .string s.r, .int .i64 s.n, .slice va L.length vc, .string (Ck.bs body)] 26))
        have HX := hide (And.intro hMa (And.intro hma (And.intro hxa2 (And.intro hoa2 (And.intro hBa hFl)))))
        clear hMa hma hxa2 hoa2 hBa hFl hFa
        go_wp2_with (first | (at_builtin; refine unhid2 ?_))
        unfold Hid
        refine wpList_append_MR rfl (.tmp 77) (.tmp 79) rfl base (.slice ua lo.length uc) (.slice (some ⟨V.heap.size, 0, none⟩) 1 1) lo [((⟨s, L, body⟩ : Ms), Value.slice va L.length vc)] rfl rfl HX.out.1 HX.out.2.1 (by have := HM.out.2.2.2.2.2; simp; omega) (Nat.le_trans HM.out.2.2.2.2.1 HX.out.2.2.2.2.1.size) ?_
        intro v5 w5 ho5 hg5
        generalize hlo2 : lo ++ [((⟨s, L, body⟩ : Ms), Value.slice va L.length vc)] = lo2 at ho5
        have HL2 := hide hlo2
        clear hlo2
        obtain ⟨hMa, -, hxa2, hoa2, hBa, hFl⟩ := HX.out
        have hown : ∀ g, (Value.slice ua lo.length uc).ownBlock = some g → ty (V.alloc (.cells #[.string s.m, .string s.t, .int .i64 s.c, .string s.r, .int .i64 s.n, .slice va L.length vc, .string (Ck.bs body)] 26)) g = some 26 ∧ base ≤ g := fun g e => own_block7 hMa.own e
        have hk5 : Kf (V.alloc (.cells #[.string s.m, .string s.t, .int .i64 s.c, .string s.r, .int .i64 s.n, .slice va L.length vc, .string (Ck.bs body)] 26)) w5 := Kf.grown hg5 (fun g e => by rw [(hown g e).1]; decide)
        have hx5 := hxa2.keep (hg5.block N hxa2.lt (fun e => by have h1 := (hown N e.symm).1; rw [hxa2.ty] at h1; exact absurd h1 (by decide)))
        have hq5 := hoa2.keep (hg5.block (N + 3) hoa2.lt (fun e => by have h1 := (hown (N + 3) e.symm).1; rw [hoa2.ty] at h1; exact absurd h1 (by decide)))
        have hFl5 := hFl.keep hk5
        have hBe := hBa.grown hg5 (Nat.le_trans HM.out.2.2.2.2.1 hBa.size) (fun k e => (hown k e).2)
        clear hMa hxa2 hoa2 hBa hFl hown hk5 hg5 HX
        obtain ⟨gb, gd, hv5⟩ := owns_form ho5.own
        subst hv5
        clear x0 x1 x2 x3 x4 x5 x6 x7 x8 x9 x10 x11 xf y0 y1 y2 y3 y4 y5 y6 yf q0 q1
        have hX6 : Blk (w5.setCell ⟨N, 0, none⟩ (.slice gb lo2.length gd)) N 39 [.slice gb lo2.length gd, .string (Ck.bs left), .bool false, .string last.s.m, .string last.s.t, .int .i64 last.s.c, .string last.s.r, .int .i64 last.s.n, .slice la last.L.length lc, .string (Ck.bs last.b), .int .i64 k, .int .i64 0] := hx5.set 0 (show 0 < 12 by decide) _
        have hQ6 := hq5.other N 0 (.slice gb lo2.length gd) (by omega)
        have hg6 := only_set (only_refl w5 N) 0 (.slice gb lo2.length gd)
        have hM6 := ho5.only hg6 (by rw [hx5.ty]; decide) (by rw [hx5.ty]; decide)
        have hFl6 := hFl5.keep (Kf.only hg6 (by rw [hx5.ty]; decide))
        have hB6 := hBe.trans (below_only hg6 (by have := HM.out.2.2.2.2.1; omega) (Nat.le_trans HM.out.2.2.2.2.1 hBe.size))
        clear hg6 ho5 hFl5 hBe hq5
        have z0 := hx5.cell 0 _ rfl
        have zf := hx5.fz
        go_upto_region 28 with fail
        clear z0 zf hx5
        generalize World.setCell _ _ _ = W6 at hX6 hQ6 hM6 hFl6 hB6 ⊢
        have hX7 : Blk (W6.setCell ⟨N, 1, none⟩ (.string (Ck.bs left))) N 39 [.slice gb lo2.length gd, .string (Ck.bs left), .bool false, .string last.s.m, .string last.s.t, .int .i64 last.s.c, .string last.s.r, .int .i64 last.s.n, .slice la last.L.length lc, .string (Ck.bs last.b), .int .i64 k, .int .i64 0] := hX6.set 1 (show 1 < 12 by decide) _
        have hQ7 := hQ6.other N 1 (.string (Ck.bs left)) (by omega)
        have hg7 := only_set (only_refl W6 N) 1 (.string (Ck.bs left))
        have hM7 := hM6.only hg7 (by rw [hX6.ty]; decide) (by rw [hX6.ty]; decide)
        have hFl7 := hFl6.keep (Kf.only hg7 (by rw [hX6.ty]; decide))
        have hB7 := hB6.trans (below_only hg7 (by have := HM.out.2.2.2.2.1; omega) (Nat.le_trans HM.out.2.2.2.2.1 hB6.size))
        clear hg7
        have z1 := hX6.cell 1 _ rfl
        have zf := hX6.fz
        go_upto_region 29 with fail
        clear z1 zf hX6 hQ6 hM6 hFl6 hB6
        generalize World.setCell _ _ _ = W7 at hX7 hQ7 hM7 hFl7 hB7 ⊢
        have hO8 : Blk (W7.setCells (N + 3) 0 [.slice gb lo2.length gd, .string (Ck.bs left), .bool false, .string last.s.m, .string last.s.t, .int .i64 last.s.c, .string last.s.r, .int .i64 last.s.n, .slice la last.L.length lc, .string (Ck.bs last.b), .int .i64 k, .int .i64 0]) (N + 3) 39 [.slice gb lo2.length gd, .string (Ck.bs left), .bool false, .string last.s.m, .string last.s.t, .int .i64 last.s.c, .string last.s.r, .int .i64 last.s.n, .slice la last.L.length lc, .string (Ck.bs last.b), .int .i64 k, .int .i64 0] := hQ7.sets [.slice gb lo2.length gd, .string (Ck.bs left), .bool false, .string last.s.m, .string last.s.t, .int .i64 last.s.c, .string last.s.r, .int .i64 last.s.n, .slice la last.L.length lc, .string (Ck.bs last.b), .int .i64 k, .int .i64 0] 0 (show 0 + 12 ≤ 12 by decide)
        have hg8 := only_sets [.slice gb lo2.length gd, .string (Ck.bs left), .bool false, .string last.s.m, .string last.s.t, .int .i64 last.s.c, .string last.s.r, .int .i64 last.s.n, .slice la last.L.length lc, .string (Ck.bs last.b), .int .i64 k, .int .i64 0] 0 (only_refl W7 (N + 3))
        have hth := hQ7.there 0 12 (show 0 + 12 ≤ 12 by decide)
        have HQ := hide (And.intro hO8 hg8)
        clear hO8 hg8
        go_wp2_with (first | (refine wpList_load_mid rfl 39 (.tmp 3) rfl N 0 rfl [.slice gb lo2.length gd, .string (Ck.bs left), .bool false, .string last.s.m, .string last.s.t, .int .i64 last.s.c, .string last.s.r, .int .i64 last.s.n, .slice la last.L.length lc, .string (Ck.bs last.b), .int .i64 k, .int .i64 0] _ (hX7.range 0 12) Tryz.underlying39 rfl (by kernel_rfl) ?_) | (refine wpList_store_mid rfl 39 (.tmp 6) (.tmp 87) rfl (N + 3) 0 #[.slice gb lo2.length gd, .string (Ck.bs left), .bool false, .string last.s.m, .string last.s.t, .int .i64 last.s.c, .string last.s.r, .int .i64 last.s.n, .slice la last.L.length lc, .string (Ck.bs last.b), .int .i64 k, .int .i64 0] rfl rfl hth (by kernel_rfl) (by simp [Value.oneCell']) ?_; obtain ⟨hO9, hg9⟩ := HQ.out; generalize World.setCells _ _ _ _ = W8 at hO9 hg9 ⊢; clear HQ hth))
        have o0 := hO9.cell 0 _ rfl
        have o1 := hO9.cell 1 _ rfl
        have o2 := hO9.cell 2 _ rfl
        have o3 := hO9.cell 3 _ rfl
        have o4 := hO9.cell 4 _ rfl
        have o5 := hO9.cell 5 _ rfl
        have o6 := hO9.cell 6 _ rfl
        have o7 := hO9.cell 7 _ rfl
        have o8 := hO9.cell 8 _ rfl
        have o9 := hO9.cell 9 _ rfl
        have o10 := hO9.cell 10 _ rfl
        have o11 := hO9.cell 11 _ rfl
        have hM9 := hM7.only hg9 (by rw [hQ7.ty]; decide) (by rw [hQ7.ty]; decide)
        have hFl9 := hFl7.keep (Kf.only hg9 (by rw [hQ7.ty]; decide))
        have hB9 := hB7.trans (below_only hg9 (by have := HM.out.2.2.2.2.1; omega) (Nat.le_trans HM.out.2.2.2.2.1 hB7.size))
        refine bodyPost_ret (v := .agg #[.slice gb lo2.length gd, .string (Ck.bs left), .bool false, .string last.s.m, .string last.s.t, .int .i64 last.s.c, .string last.s.r, .int .i64 last.s.n, .slice la last.L.length lc, .string (Ck.bs last.b), .int .i64 k, .int .i64 0]) (by simp [results, Tryz.results24, go_sem, o0, o1, o2, o3, o4, o5, o6, o7, o8, o9, o10, o11]) rfl ⟨⟨.slice gb lo2.length gd, .slice la last.L.length lc, lo2, ?_, hM9, ?_, ?_⟩, hB9⟩
        · rw [← HR.out]; rfl
        · rw [← HR.out, ← HL2.out, List.map_append, HM.out.2.1]; rfl
        · rw [← HR.out]; exact hFl9

end Go.Proofs.YtmpijlaidnhpnaaGreat
