/- The walks of the functions on sets of bytes. -/
import Derived.Test.YtojoidhjlbcijaaDoorProg
import Derived.Test.YtojoidhjlbcijaaDoorMa
import Derived.Test.YtojoidhjlbcijaaDoorCm
import Derived.Laws.CopyOwn
namespace Go.Proofs.YtojoidhjlbcijaaDoor
set_option linter.unusedVariables false
set_option linter.unusedSimpArgs false
set_option maxRecDepth 100000
open Go.RowKit

theorem Tryd.info39 : (Tryd.prog.info? 74).map (fun i => (i.zero, i.size)) = some (some (.agg (Array.replicate 256 (.bool false))), 256) := by kernel_rfl
theorem zero39 : ∀ w, Sem.run Tryd.prog (zeroValue 74) w = .ok (.agg (Lib.setCells [])) w := (zero_of_info Tryd.info39).1
theorem size39 : (Tryd.prog.info? 74).map (·.size) = some 256 := (zero_of_info Tryd.info39).2

theorem one_alloc (w : World) (c : Array Value) (t : TypeId) : Below w.heap.size w (w.alloc (.cells c t)) := (Below.refl _ _).alloc (Nat.le_refl _) _

theorem hide {p : Prop} (h : p) : Hid p := h

/-- A whole array out of its block, and into it. -/
theorem load_row (w : World) (g : Nat) (c : Array Value) (t : TypeId) (fr : Nat × Nat) (hg : w.heap[g]? = some (.cells c t fr)) (N : Nat) (hN : c.size = N) :
    Sem.run Tryd.prog (loadCellsFrom ⟨g, 0, none⟩ 0 N #[]) w = .ok c w := by
  subst hN
  have := run_loadCells_list (P := Tryd.prog) w ⟨g, 0, none⟩ c.toList (fun j v hv => by
    rw [add_none, Nat.zero_add, cell_of_row _ _ j c t fr hg]
    simpa using hv)
  simpa [loadCells] using this
theorem store_row (w : World) (g : Nat) (t : TypeId) (old c : Array Value) (hg : w.heap[g]? = some (.cells old t (0, 0))) (hc : c.size = 256) (ho : old.size = 256) (h1 : c.all (·.oneCell') = true) :
    Sem.run Tryd.prog (storeCells ⟨g, 0, none⟩ c.toList 0) w = .ok () (w.setRow g c) := by
  have h := run_storeVar_row (P := Tryd.prog) w g t 74 old c hg (by rw [hc]; exact size39) (by omega) h1
  have hs := Tryd.sizeOf74
  simpa [storeVar, hs, Value.cells, hc] using h

theorem take_snoc (l : List UInt8) (k : Nat) (h : k < l.length) : l.take (k + 1) = l.take k ++ [l[k]] := by
  rw [List.take_succ_eq_append_getElem h]
theorem get_at (s : ByteArray) (k : Nat) (h : k < s.size) : s.data.toList[k]'(by simpa using h) = s[k] := by
  simp; rfl

set_option maxHeartbeats 1000000 in
theorem has_any (l : List UInt8) (c : UInt8) (b : Bool) (hb : l.contains c = b) (w : World) :
    Calls Tryd.prog 60 #[.agg (Lib.setCells l), .int .u8 (c.toNat : Int)] w fun e w' => e = .returned (.bool b) ∧ Below w.heap.size w w' := by
  have hc := c.toNat_lt
  have hx256 : (c.toNat : Int) < 256 := by omega
  have hat := Lib.setCells_at l c
  rw [hb] at hat
  clear hb
  go_enter Tryd.func60, Tryd.ntmps60
  go_wp2
  go_ret
  exact ⟨rfl, one_alloc _ _ _⟩

set_option maxHeartbeats 1000000 in
theorem lacks_any (l : List UInt8) (c : UInt8) (b : Bool) (hb : l.contains c = b) (w : World) :
    Calls Tryd.prog 73 #[.agg (Lib.setCells l), .int .u8 (c.toNat : Int)] w fun e w' => e = .returned (.bool (!b)) ∧ Below w.heap.size w w' := by
  have hc := c.toNat_lt
  have hx256 : (c.toNat : Int) < 256 := by omega
  have hat := Lib.setCells_at l c
  rw [hb] at hat
  clear hb
  go_enter Tryd.func73, Tryd.ntmps73
  go_wp2
  go_ret
  exact ⟨rfl, one_alloc _ _ _⟩

set_option maxHeartbeats 1000000 in
theorem setOf_any (s : ByteArray) (w : World) (hs : s.size ≤ 1000000) :
    Calls Tryd.prog 59 #[.string s] w fun e w' => e = .returned (.agg (Lib.setCells s.data.toList)) ∧ Below w.heap.size w w' := by
  have hz := zero39
  have HZ : Hid (s.data.toList.length = s.size) := by unfold Hid; simp
  go_enter Tryd.func59, Tryd.ntmps59
  go_wp2
  go_loopw [7] (fun i wr => ∃ k : Nat, k ≤ s.size ∧ i = .int .i64 k ∧ wr = (w.alloc (.cells (Lib.setCells []) 74)).alloc (.cells (Lib.setCells (s.data.toList.take k)) 74)) (fun i _ => s.size - (intOf i).toNat)
  case atStart => exact ⟨0, Nat.zero_le _, rfl, rfl⟩
  case round =>
    obtain ⟨k, hk, rfl, rfl⟩ := hrel
    by_cases hlt : k < s.size
    · have hx := (s[k]).toNat_lt
      have hx256 : ((s[k]).toNat : Int) < 256 := by omega
      have hcell := Lib.setCells_at (s.data.toList.take k) s[k]
      have hsz := Lib.setCells_size (s.data.toList.take k)
      go_wp2
      refine ⟨⟨k + 1, by omega, by go_num, ?_⟩, by simp [intOf]; omega⟩
      rw [take_snoc _ k (by rw [HZ.out]; exact hlt), get_at s k hlt, Lib.setCells_snoc]
    · rw [List.take_of_length_le (by rw [HZ.out]; omega)]
      have hsz := Lib.setCells_size s.data.toList
      have hg1 := heap_alloc2_new w (.cells (Lib.setCells []) 74) (.cells (Lib.setCells s.data.toList) 74)
      have hg0 := heap_alloc2_old w (.cells (Lib.setCells []) 74) (.cells (Lib.setCells s.data.toList) 74)
      have hlc := load_row _ _ _ _ _ hg1 256 hsz
      have hsc := store_row _ _ _ _ (Lib.setCells s.data.toList) hg0 hsz (Lib.setCells_size _) (Lib.setCells_one _)
      have hg2 := setRow_heap _ w.heap.size _ (Lib.setCells s.data.toList) _ _ hg0
      have hb2 : Below w.heap.size w (((w.alloc (.cells (Lib.setCells []) 74)).alloc (.cells (Lib.setCells s.data.toList) 74)).setRow w.heap.size (Lib.setCells s.data.toList)) := below_setRow ((one_alloc _ _ _).alloc (by simp) _) (Nat.le_refl _) _
      clear hg0 hg1
      have HG := hide hg2
      clear hg2
      obtain ⟨N, hN⟩ : ∃ N, N = 256 := ⟨_, rfl⟩
      have hS : ∀ w, Sem.run Tryd.prog (sizeOf 74) w = .ok N w := by rw [hN]; exact Tryd.sizeOf74
      have HS := hide hsz
      rw [← hN] at hlc hsz
      clear hN
      go_wp2_with fail
      (try simp only [Exit.inBlock, Exit.then])
      refine bodyPost_ret (v := .agg (Lib.setCells s.data.toList)) ?_ rfl ⟨rfl, hb2⟩
      rw [results_cell_row rfl _ _ w.heap.size 74 (Lib.setCells s.data.toList) (0, 0) _ rfl HG.out Tryd.underlying74 rfl (by rw [HS.out]; exact size39)]

end Go.Proofs.YtojoidhjlbcijaaDoor
