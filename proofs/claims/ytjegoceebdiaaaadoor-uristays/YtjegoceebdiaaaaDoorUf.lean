/- The walks of pathFrom, seenFrom and Resolve. -/
import Derived.Test.YtjegoceebdiaaaaDoorUe
namespace Go.Proofs.YtjegoceebdiaaaaDoor
set_option linter.unusedVariables false
set_option linter.unusedSimpArgs false
open Go.RowKit

def fromS (b p : ByteArray) : ByteArray := bytes (fromL b.data.toList p.data.toList)
theorem fromS_list (b p : ByteArray) : (fromS b p).data.toList = fromL b.data.toList p.data.toList := bytes_list _
theorem from_abs {b p : ByteArray} (h : pre [47] p.data.toList = true) : fromS b p = p := by
  unfold fromS fromL; rw [if_pos h, bytes_back]
theorem from_rel {b p : ByteArray} (h : pre [47] p.data.toList = false) : fromS b p = b.extract 0 (lastN (neB 47) b.data.toList) ++ p := by
  unfold fromS fromL
  rw [if_neg (by simp [h])]
  apply bytes_ext
  rw [bytes_list, app_list, ext_take]
theorem fromS_size (b p : ByteArray) : (fromS b p).size ≤ b.size + p.size := by
  cases h : pre [47] p.data.toList
  · rw [from_rel h, ByteArray.size_append, ByteArray.size_extract]; omega
  · rw [from_abs h]; omega

set_option maxRecDepth 100000 in
set_option maxHeartbeats 1000000 in
theorem pathFrom_any (b p : ByteArray) (w : World) (hb : b.size ≤ 10000) (hp : p.size ≤ 10000) :
    Calls Tryd.prog 62 #[.string b, .string p] w fun e w' => e = .returned (.string (fromS b p)) ∧ w' = w := by
  have hla := Tryd.strings_LastIndexByte b 47 (by omega)
  rw [lastIndexByte_la b 47 47 rfl] at hla
  have hl := lastN_le (neB 47) b.data.toList
  rw [size_list] at hl
  cases h : pre [47] p.data.toList
  · have HR := hide (from_rel (b := b) h)
    have HP := hide h
    have e1 : laI 47 b.data.toList = (lastN (neB 47) b.data.toList : Int) - 1 := rfl
    rw [e1] at hla
    generalize lastN (neB 47) b.data.toList = k at hla hl HR
    have hk0 : (0 : Int) ≤ (k : Int) := by omega
    have hkb : (k : Int) ≤ (b.size : Int) := by omega
    have hwr : IntKind.i64.wrap ((k : Int) - 1 + 1) = k := by rw [show (k : Int) - 1 + 1 = k by omega]; exact i64_wrap_id _ (by omega) (by omega)
    have hs1 : (b.extract 0 k).size ≤ 10000 := by rw [ByteArray.size_extract]; omega
    clear h e1
    go_enter Tryd.func62, Tryd.ntmps62
    go_wp2_with fail
    refine (pre_any p ⟨#[47]⟩ _ HP.out _).mono ?_
    rintro e w1 ⟨rfl, hw1⟩
    subst hw1
    go_wp2_with fail
    refine (hla _).mono ?_
    rintro e w1 ⟨rfl, hw1⟩
    subst hw1
    go_wp2_with fail
    go_ret
    exact ⟨ret_str HR.out.symm, rfl⟩
  · have HR := hide (from_abs (b := b) h)
    have HP := hide h
    clear h
    go_enter Tryd.func62, Tryd.ntmps62
    go_wp2_with fail
    refine (pre_any p ⟨#[47]⟩ _ HP.out _).mono ?_
    rintro e w1 ⟨rfl, hw1⟩
    subst hw1
    go_wp2_with fail
    go_ret
    exact ⟨ret_str HR.out.symm, rfl⟩

theorem Six.alloc {w : World} {N : Nat} {u : U} (h : Six w N u) (o : Obj) : Six (w.alloc o) N u := h.below ((Below.refl _ _).alloc (Nat.le_refl _) _)

theorem seen_abs {b u : U} (h : u.abs = true) : seen b u = ⟨true, u.host, u.port, cleanS u.path, u.asks, u.query⟩ := by
  unfold seen; rw [if_pos h, h]; rfl
theorem seen_base {b u : U} (h : u.abs = false) (h1 : u.path.data.toList = []) (h2 : u.asks = false) : seen b u = b := by
  unfold seen; rw [if_neg (by simp [h]), if_pos h1, if_neg (by simp [h2])]
theorem seen_query {b u : U} (h : u.abs = false) (h1 : u.path.data.toList = []) (h2 : u.asks = true) : seen b u = ⟨b.abs, b.host, b.port, b.path, true, u.query⟩ := by
  unfold seen; rw [if_neg (by simp [h]), if_pos h1, if_pos h2, h2]
theorem seen_path {b u : U} (h : u.abs = false) (h1 : u.path.data.toList ≠ []) : seen b u = ⟨b.abs, b.host, b.port, cleanS (fromS b.path u.path), u.asks, u.query⟩ := by
  unfold seen; rw [if_neg (by simp [h]), if_neg h1]
  unfold cleanS; rw [fromS_list]; rfl

/-- Two addresses and an empty one lie in the blocks behind w's. -/
structure Start (w W : World) (b u : U) : Prop where
  x : Six W w.heap.size b
  y : Six W (w.heap.size + 1) u
  z : Six W (w.heap.size + 1 + 1) U0
  b : Below w.heap.size w W

theorem start3 (w : World) (b u : U) : Start w (((w.alloc (.cells #[.bool b.abs, .string b.host, .int .i64 b.port, .string b.path, .bool b.asks, .string b.query] 23)).alloc (.cells #[.bool u.abs, .string u.host, .int .i64 u.port, .string u.path, .bool u.asks, .string u.query] 23)).alloc (.cells #[.bool false, .string ⟨#[]⟩, .int .i64 0, .string ⟨#[]⟩, .bool false, .string ⟨#[]⟩] 23)) b u := by
  have e1 : (w.alloc (.cells b.cs.toArray 23)).heap.size = w.heap.size + 1 := by simp
  have e2 : ((w.alloc (.cells b.cs.toArray 23)).alloc (.cells u.cs.toArray 23)).heap.size = w.heap.size + 1 + 1 := by simp
  have hX : Six (w.alloc (.cells b.cs.toArray 23)) w.heap.size b := Six.new w b
  have hY : Six ((w.alloc (.cells b.cs.toArray 23)).alloc (.cells u.cs.toArray 23)) (w.heap.size + 1) u := by
    have := Six.new (w.alloc (.cells b.cs.toArray 23)) u
    rwa [e1] at this
  have hZ : Six (((w.alloc (.cells b.cs.toArray 23)).alloc (.cells u.cs.toArray 23)).alloc (.cells U0.cs.toArray 23)) (w.heap.size + 1 + 1) U0 := by
    have := Six.new ((w.alloc (.cells b.cs.toArray 23)).alloc (.cells u.cs.toArray 23)) U0
    rwa [e2] at this
  exact ⟨(hX.alloc (.cells u.cs.toArray 23)).alloc (.cells U0.cs.toArray 23), hY.alloc (.cells U0.cs.toArray 23), hZ, (((Below.refl _ _).alloc (Nat.le_refl _) _).alloc (by simp) _).alloc (by simp; omega) _⟩

theorem Start.size {w : World} {b u : U} : (((w.alloc (.cells #[.bool b.abs, .string b.host, .int .i64 b.port, .string b.path, .bool b.asks, .string b.query] 23)).alloc (.cells #[.bool u.abs, .string u.host, .int .i64 u.port, .string u.path, .bool u.asks, .string u.query] 23)).alloc (.cells #[.bool false, .string ⟨#[]⟩, .int .i64 0, .string ⟨#[]⟩, .bool false, .string ⟨#[]⟩] 23)).heap.size = w.heap.size + 1 + 1 + 1 := by simp
theorem start4 (w : World) (b u : U) : Start w ((((w.alloc (.cells #[.bool b.abs, .string b.host, .int .i64 b.port, .string b.path, .bool b.asks, .string b.query] 23)).alloc (.cells #[.bool u.abs, .string u.host, .int .i64 u.port, .string u.path, .bool u.asks, .string u.query] 23)).alloc (.cells #[.bool false, .string ⟨#[]⟩, .int .i64 0, .string ⟨#[]⟩, .bool false, .string ⟨#[]⟩] 23)).alloc (.cells #[.bool b.abs, .string b.host, .int .i64 b.port, .string b.path, .bool b.asks, .string b.query] 23)) b u ∧ Six ((((w.alloc (.cells #[.bool b.abs, .string b.host, .int .i64 b.port, .string b.path, .bool b.asks, .string b.query] 23)).alloc (.cells #[.bool u.abs, .string u.host, .int .i64 u.port, .string u.path, .bool u.asks, .string u.query] 23)).alloc (.cells #[.bool false, .string ⟨#[]⟩, .int .i64 0, .string ⟨#[]⟩, .bool false, .string ⟨#[]⟩] 23)).alloc (.cells #[.bool b.abs, .string b.host, .int .i64 b.port, .string b.path, .bool b.asks, .string b.query] 23)) (w.heap.size + 1 + 1 + 1) b := by
  have h := start3 w b u
  refine ⟨⟨h.x.alloc _, h.y.alloc _, h.z.alloc _, h.b.alloc h.b.size _⟩, ?_⟩
  have := Six.new (((w.alloc (.cells #[.bool b.abs, .string b.host, .int .i64 b.port, .string b.path, .bool b.asks, .string b.query] 23)).alloc (.cells #[.bool u.abs, .string u.host, .int .i64 u.port, .string u.path, .bool u.asks, .string u.query] 23)).alloc (.cells #[.bool false, .string ⟨#[]⟩, .int .i64 0, .string ⟨#[]⟩, .bool false, .string ⟨#[]⟩] 23)) b
  rwa [Start.size] at this

theorem Start.below {w W W' : World} {b u : U} (h : Start w W b u) (hb : Below W.heap.size W W') : Start w W' b u :=
  ⟨h.x.below hb, h.y.below hb, h.z.below hb, h.b.trans (hb.mono h.b.size)⟩
theorem Start.cell {w W : World} {b u : U} (h : Start w W b u) (k : Nat) (v : Value) : Start w (W.setCell ⟨w.heap.size + 1 + 1 + 1, k, none⟩ v) b u :=
  ⟨h.x.other _ _ _ (by omega), h.y.other _ _ _ (by omega), h.z.other _ _ _ (by omega), h.b.setCell (show w.heap.size ≤ w.heap.size + 1 + 1 + 1 by omega) _⟩
theorem Start.drew {w W : World} {b u : U} (h : Start w W b u) : Start w W.drew b u := ⟨h.x.drew, h.y.drew, h.z.drew, below_drew h.b⟩

set_option maxRecDepth 100000 in
set_option maxHeartbeats 1000000 in
theorem seenFrom_any (b u : U) (w : World) (hb : Short b) (hu : Short u) :
    Calls Tryd.prog 36 #[b.v, u.v] w fun e w' => e = .returned ((seen b u).v) ∧ Below w.heap.size w w' := by
  have l1 := hb.path
  have l2 := hu.path
  have hS := start3 w b u
  have hS4 := start4 w b u
  unfold U.v
  cases ha : u.abs
  · rw [ha] at hS hS4
    by_cases h0 : u.path.data.toList = []
    · have he := empty_of h0
      cases hq : u.asks
      · have HR := hide (seen_base (b := b) ha h0 hq)
        rw [hq] at hS hS4
        clear h0
        go_enter Tryd.func36, Tryd.ntmps36
        go_wp2_with fail
        refine bodyPost_ret (v := U.v b) (by simp [results, Tryd.results36, go_sem, U.v, *]) rfl ⟨by rw [HR.out]; rfl, ?_⟩
        exact (((Below.refl _ _).alloc (Nat.le_refl _) _).alloc (by simp) _).alloc (by simp; omega) _
      · have HR := hide (seen_query (b := b) ha h0 hq)
        rw [hq] at hS hS4
        clear h0
        go_enter Tryd.func36, Tryd.ntmps36
        go_wp2_with fail
        generalize World.alloc _ _ = W4 at hS4 ⊢
        obtain ⟨hS4, hT⟩ := hS4
        obtain ⟨t0, t1, t2, t3, t4, t5, -, tf⟩ := id hT
        obtain ⟨y0, y1, y2, y3, y4, y5, -, -⟩ := id hS4.y
        rw [hq] at y4
        go_region
        have hT5 := ((hT.s4 true).s5 u.query).drew
        have hS5 : Start w ((W4.setCell ⟨w.heap.size + 1 + 1 + 1, 4, none⟩ (.bool true)).setCell ⟨w.heap.size + 1 + 1 + 1, 5, none⟩ (.string u.query)).drew b u := (hS4.cell 4 (.bool true)).cell 5 (.string u.query) |>.drew
        clear hT t0 t1 t2 t3 t4 t5 tf y0 y1 y2 y3 y4 y5 hS4
        generalize World.drew _ = W5 at hT5 hS5 ⊢
        obtain ⟨t0, t1, t2, t3, t4, t5, -, tf⟩ := id hT5
        obtain ⟨y0, y1, y2, y3, y4, y5, -, -⟩ := id hS5.y
        obtain ⟨z0, z1, z2, z3, z4, z5, -, zf⟩ := id hS5.z
        go_wp2_with fail
        refine bodyPost_ret (v := U.v ⟨b.abs, b.host, b.port, b.path, true, u.query⟩) (by simp [results, Tryd.results36, go_sem, U.v, *]) rfl ⟨by rw [HR.out]; rfl, ?_⟩
        exact put6_below hS5.b (by omega) ⟨b.abs, b.host, b.port, b.path, true, u.query⟩
    · have he := empty_not h0
      have HR := hide (seen_path (b := b) ha h0)
      have hfs := fromS_size b.path u.path
      clear h0
      go_enter Tryd.func36, Tryd.ntmps36
      go_wp2_with fail
      generalize World.alloc _ _ = W4 at hS4 ⊢
      obtain ⟨hS4, hT⟩ := hS4
      obtain ⟨t0, t1, t2, t3, t4, t5, -, tf⟩ := id hT
      obtain ⟨y0, y1, y2, y3, y4, y5, -, -⟩ := id hS4.y
      go_region
      have hT5 := ((hT.s4 u.asks).s5 u.query).drew
      have hS5 : Start w ((W4.setCell ⟨w.heap.size + 1 + 1 + 1, 4, none⟩ (.bool u.asks)).setCell ⟨w.heap.size + 1 + 1 + 1, 5, none⟩ (.string u.query)).drew b u := (hS4.cell 4 (.bool u.asks)).cell 5 (.string u.query) |>.drew
      clear hT t0 t1 t2 t3 t4 t5 tf y0 y1 y2 y3 y4 y5 hS4
      generalize World.drew _ = W5 at hT5 hS5 ⊢
      obtain ⟨x0, x1, x2, x3, x4, x5, -, -⟩ := id hS5.x
      obtain ⟨y0, y1, y2, y3, y4, y5, -, -⟩ := id hS5.y
      go_wp2_with fail
      refine (pathFrom_any b.path u.path _ l1 l2).mono ?_
      rintro e w6 ⟨rfl, hw6⟩
      subst hw6
      go_wp2_with fail
      refine (clean_any (fromS b.path u.path) _ (by omega)).mono ?_
      rintro e w7 ⟨rfl, hb7⟩
      have hS7 := hS5.below hb7
      have hT7 := hT5.below hb7
      clear hb7 hS5 hT5 x0 x1 x2 x3 x4 x5 y0 y1 y2 y3 y4 y5
      obtain ⟨t0, t1, t2, t3, t4, t5, -, tf⟩ := id hT7
      obtain ⟨z0, z1, z2, z3, z4, z5, -, zf⟩ := id hS7.z
      go_wp2_with fail
      refine bodyPost_ret (v := U.v ⟨b.abs, b.host, b.port, cleanS (fromS b.path u.path), u.asks, u.query⟩) (by simp [results, Tryd.results36, go_sem, U.v, *]) rfl ⟨by rw [HR.out]; rfl, ?_⟩
      exact put6_below (hS7.cell 3 (.string (cleanS (fromS b.path u.path)))).b (by omega) ⟨b.abs, b.host, b.port, cleanS (fromS b.path u.path), u.asks, u.query⟩
  · have HR := hide (seen_abs (b := b) ha)
    rw [ha] at hS
    clear hS4
    go_enter Tryd.func36, Tryd.ntmps36
    go_wp2_with fail
    generalize World.alloc _ _ = W0 at hS ⊢
    refine (clean_any u.path _ (by omega)).mono ?_
    rintro e w1 ⟨rfl, hb1⟩
    have hS1 := hS.below hb1
    clear hb1 hS W0
    obtain ⟨y0, y1, y2, y3, y4, y5, -, yf⟩ := id hS1.y
    obtain ⟨z0, z1, z2, z3, z4, z5, -, zf⟩ := id hS1.z
    rw [ha] at y0
    go_wp2_with fail
    refine bodyPost_ret (v := U.v ⟨true, u.host, u.port, cleanS u.path, u.asks, u.query⟩) (by simp [results, Tryd.results36, go_sem, U.v, *]) rfl ⟨by rw [HR.out]; rfl, ?_⟩
    exact put6_below (hS1.b.setCell (show w.heap.size ≤ (⟨w.heap.size + 1, 3, none⟩ : Addr).block by show w.heap.size ≤ w.heap.size + 1; omega) (.string (cleanS u.path))) (by omega) ⟨true, u.host, u.port, cleanS u.path, u.asks, u.query⟩

end Go.Proofs.YtjegoceebdiaaaaDoor
