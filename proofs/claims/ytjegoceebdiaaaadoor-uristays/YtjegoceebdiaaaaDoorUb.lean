/- The walks of how an address is written, and of its host and port. -/
import Derived.Test.YtjegoceebdiaaaaDoorUa
namespace Go.Proofs.YtjegoceebdiaaaaDoor
set_option linter.unusedVariables false
set_option linter.unusedSimpArgs false
open Go.RowKit

/-- An address as a value. -/
def U.v (u : U) : Value := .agg #[.bool u.abs, .string u.host, .int .i64 u.port, .string u.path, .bool u.asks, .string u.query]
def U.cs (u : U) : List Value := [.bool u.abs, .string u.host, .int .i64 u.port, .string u.path, .bool u.asks, .string u.query]

/-- An address lies in block N. -/
structure Six (w : World) (N : Nat) (u : U) : Prop where
  c0 : w.cell? ⟨N, 0, none⟩ = some (.bool u.abs)
  c1 : w.cell? ⟨N, 1, none⟩ = some (.string u.host)
  c2 : w.cell? ⟨N, 2, none⟩ = some (.int .i64 u.port)
  c3 : w.cell? ⟨N, 3, none⟩ = some (.string u.path)
  c4 : w.cell? ⟨N, 4, none⟩ = some (.bool u.asks)
  c5 : w.cell? ⟨N, 5, none⟩ = some (.string u.query)
  lt : N < w.heap.size
  fz : ∀ o, w.frozen? ⟨N, o, none⟩ = false

theorem Six.below {w w' : World} {N : Nat} {u : U} (h : Six w N u) (hb : Below w.heap.size w w') : Six w' N u := by
  have hc : ∀ k, w'.cell? ⟨N, k, none⟩ = w.cell? ⟨N, k, none⟩ := fun k => hb.cell (p := ⟨N, k, none⟩) h.lt
  exact ⟨(hc 0).trans h.c0, (hc 1).trans h.c1, (hc 2).trans h.c2, (hc 3).trans h.c3, (hc 4).trans h.c4, (hc 5).trans h.c5, Nat.lt_of_lt_of_le h.lt hb.size, fun o => (hb.frozen (p := ⟨N, o, none⟩) h.lt).trans (h.fz o)⟩
theorem Six.new (w : World) (u : U) : Six (w.alloc (.cells u.cs.toArray 23)) w.heap.size u :=
  ⟨by rw [World.cell?_alloc_new]; rfl, by rw [World.cell?_alloc_new]; rfl, by rw [World.cell?_alloc_new]; rfl, by rw [World.cell?_alloc_new]; rfl, by rw [World.cell?_alloc_new]; rfl, by rw [World.cell?_alloc_new]; rfl, by simp, fun o => World.frozen?_alloc_new _ _ _ _⟩
theorem Six.drew {w : World} {N : Nat} {u : U} (h : Six w N u) : Six w.drew N u := ⟨h.c0, h.c1, h.c2, h.c3, h.c4, h.c5, h.lt, h.fz⟩

theorem ret_u {a b : Value} (h : a = b) : Ending.returned a = .returned b := by rw [h]

def prtS (p : Int) : ByteArray := bytes (prtL p)
theorem prtS_zero : prtS 0 = ⟨#[]⟩ := rfl
theorem prtS_some {n : Nat} (h : ¬ n = 0) : prtS (n : Int) = (⟨#[58]⟩ : ByteArray) ++ decS n := by
  apply bytes_ext
  rw [app_list, decS_list, prtS, bytes_list, prtL, if_neg (by omega)]
  rfl
theorem prtS_size {p : Int} (h0 : 0 ≤ p) (h1 : p ≤ 65535) : (prtS p).size ≤ 6 := by
  rw [← size_list, prtS, bytes_list]
  unfold prtL
  split
  · simp
  · rw [List.length_cons]
    have := dgs_length_lt (b := 10) (by omega) 4 p.toNat (by omega)
    omega

set_option maxRecDepth 100000 in
set_option maxHeartbeats 1000000 in
theorem writtenPort_any (p : Int) (w : World) (h0 : 0 ≤ p) (h1 : p ≤ 65535) (ht : Tabs w) :
    Calls Tryd.prog 49 #[.int .i64 p] w fun e w' => e = .returned (.string (prtS p)) ∧ Below w.heap.size w w' := by
  obtain ⟨n, rfl⟩ : ∃ n : Nat, p = n := ⟨p.toNat, by omega⟩
  by_cases hn : n = 0
  · subst hn
    go_enter Tryd.func49, Tryd.ntmps49
    go_wp2_with fail
    go_ret
    exact ⟨ret_str prtS_zero.symm, Below.refl _ _⟩
  · have HS := hide (prtS_some hn)
    have hw : IntKind.u64.wrap (n : Int) = n := by simp [IntKind.wrap, IntKind.bits, IntKind.signed]; omega
    have hds := decS_le n (by omega)
    go_enter Tryd.func49, Tryd.ntmps49
    go_wp2_with fail
    refine (dec_any n (by omega) _ ht).mono ?_
    rintro e w1 ⟨rfl, hb⟩
    go_wp2_with fail
    go_ret
    exact ⟨ret_str HS.out.symm, hb⟩

def wrS (u : U) : ByteArray := bytes (wrL u)
theorem wrS_list (u : U) : (wrS u).data.toList = wrL u := bytes_list _
theorem wrS_size (u : U) : (wrS u).size = (wrL u).length := by rw [← size_list, wrS_list]
def qryS (u : U) : ByteArray := bytes (qryL u.asks u.query.data.toList)
theorem wr_aa {u : U} (ha : u.abs = true) (hq : u.asks = true) : wrS u = (⟨#[104, 116, 116, 112, 58, 47, 47]⟩ : ByteArray) ++ u.host ++ prtS u.port ++ u.path ++ ((⟨#[63]⟩ : ByteArray) ++ u.query) := by
  apply bytes_ext
  simp only [app_list, wrS_list, wrL, ha, hq, prtS, bytes_list, qryL, if_true, httpL]
  simp
theorem wr_an {u : U} (ha : u.abs = true) (hq : u.asks = false) : wrS u = (⟨#[104, 116, 116, 112, 58, 47, 47]⟩ : ByteArray) ++ u.host ++ prtS u.port ++ u.path := by
  apply bytes_ext
  simp only [app_list, wrS_list, wrL, ha, hq, prtS, bytes_list, qryL, if_true, httpL]
  simp
theorem wr_na {u : U} (ha : u.abs = false) (hq : u.asks = true) : wrS u = u.path ++ ((⟨#[63]⟩ : ByteArray) ++ u.query) := by
  apply bytes_ext
  simp only [app_list, wrS_list, wrL, ha, hq, prtS, bytes_list, qryL, if_true, httpL]
  simp
theorem wr_nn {u : U} (ha : u.abs = false) (hq : u.asks = false) : wrS u = u.path := by
  apply bytes_ext
  simp only [app_list, wrS_list, wrL, ha, hq, prtS, bytes_list, qryL, if_true, httpL]
  simp

structure Fits (u : U) : Prop where
  host : u.host.size ≤ 10000
  path : u.path.size ≤ 10000
  query : u.query.size ≤ 10000
  p0 : 0 ≤ u.port
  p1 : u.port ≤ 65535

set_option maxRecDepth 100000 in
set_option maxHeartbeats 1000000 in
theorem written_any (u : U) (w : World) (hf : Fits u) (ht : Tabs w) :
    Calls Tryd.prog 23 #[u.v] w fun e w' => e = .returned (.string (wrS u)) ∧ Below w.heap.size w w' := by
  obtain ⟨f1, f2, f3, f4, f5⟩ := hf
  have hps := prtS_size f4 f5
  unfold U.v
  cases ha : u.abs
  · cases hq : u.asks
    · have HR := hide (wr_nn ha hq)
      go_enter Tryd.func23, Tryd.ntmps23
      go_wp2_with fail
      go_ret
      exact ⟨ret_str HR.out.symm, (Below.refl _ _).alloc (Nat.le_refl _) _⟩
    · have HR := hide (wr_na ha hq)
      go_enter Tryd.func23, Tryd.ntmps23
      go_wp2_with fail
      go_ret
      exact ⟨ret_str HR.out.symm, (Below.refl _ _).alloc (Nat.le_refl _) _⟩
  · have s1 : ¬ 9223372036854775807 < 7 + u.host.size := by omega
    have s2 : ¬ 9223372036854775807 < 7 + u.host.size + (prtS u.port).size := by omega
    have s3 : ¬ 9223372036854775807 < 7 + u.host.size + (prtS u.port).size + u.path.size := by omega
    have hnew := Six.new w u
    have hbn : Below w.heap.size w (w.alloc (.cells u.cs.toArray 23)) := (Below.refl _ _).alloc (Nat.le_refl _) _
    have htn := ht.below hbn
    unfold U.cs at hnew hbn htn
    rw [ha] at hnew hbn htn
    cases hq : u.asks
    · have HR := hide (wr_an ha hq)
      rw [hq] at hnew hbn htn
      go_enter Tryd.func23, Tryd.ntmps23
      go_wp2_with fail
      generalize w.alloc (.cells #[Value.bool true, Value.string u.host, Value.int IntKind.i64 u.port, Value.string u.path, Value.bool false, Value.string u.query] 23) = W1 at hnew hbn htn ⊢
      have htd := htn.below (below_drew (Below.refl _ W1))
      have hnd := hnew.drew
      go_region_held3 (fun w' => w'.cell? ⟨w.heap.size, 1, none⟩ = some (.string u.host) ∧ w'.cell? ⟨w.heap.size, 2, none⟩ = some (.int .i64 u.port))
        (first | exact ⟨hnd.c1, hnd.c2⟩ | exact ⟨(hnd.below (by assumption)).c1, (hnd.below (by assumption)).c2⟩)
        (first | (go_at_call 49; refine (writtenPort_any u.port W1.drew f4 f5 htd).mono ?_; rintro e w1 ⟨rfl, hw1⟩))
      have hn1 := hnd.below hw1
      obtain ⟨c0, c1, c2, c3, c4, c5, -, -⟩ := hn1
      rw [hq] at c4
      go_wp2_with fail
      go_ret
      exact ⟨ret_str HR.out.symm, hbn.trans ((below_drew (Below.refl _ W1)).trans (hw1.mono hbn.size) |>.mono (Nat.le_refl _))⟩
    · have HR := hide (wr_aa ha hq)
      rw [hq] at hnew hbn htn
      go_enter Tryd.func23, Tryd.ntmps23
      go_wp2_with fail
      generalize w.alloc (.cells #[Value.bool true, Value.string u.host, Value.int IntKind.i64 u.port, Value.string u.path, Value.bool true, Value.string u.query] 23) = W1 at hnew hbn htn ⊢
      have htd := htn.below (below_drew (Below.refl _ W1))
      have hnd := hnew.drew
      go_region_held3 (fun w' => w'.cell? ⟨w.heap.size, 1, none⟩ = some (.string u.host) ∧ w'.cell? ⟨w.heap.size, 2, none⟩ = some (.int .i64 u.port))
        (first | exact ⟨hnd.c1, hnd.c2⟩ | exact ⟨(hnd.below (by assumption)).c1, (hnd.below (by assumption)).c2⟩)
        (first | (go_at_call 49; refine (writtenPort_any u.port W1.drew f4 f5 htd).mono ?_; rintro e w1 ⟨rfl, hw1⟩))
      have hn1 := hnd.below hw1
      obtain ⟨c0, c1, c2, c3, c4, c5, -, -⟩ := hn1
      rw [hq] at c4
      go_wp2_with fail
      go_ret
      exact ⟨ret_str HR.out.symm, hbn.trans ((below_drew (Below.refl _ W1)).trans (hw1.mono hbn.size) |>.mono (Nat.le_refl _))⟩

end Go.Proofs.YtjegoceebdiaaaaDoor
