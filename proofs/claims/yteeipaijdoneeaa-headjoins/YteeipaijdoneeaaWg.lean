/- The walks of what puts other bytes in the place of some. -/
import Derived.Test.YteeipaijdoneeaaWf
import Derived.Laws.BytesArg
import Derived.OwnWalk
namespace Go.Proofs.Yteeipaijdoneeaa
set_option linter.unusedVariables false
set_option linter.unusedSimpArgs false
open Go.RowKit

theorem Try.info5 : (Try.prog.info? 5).map (fun i => (i.zero, i.size, i.bytes)) = some (some (.int .u8 0), 1, 1) := by kernel_rfl
theorem Try.info9 : (Try.prog.info? 9).map (fun i => (i.zero, i.size, i.bytes)) = some (some (.string ⟨#[]⟩), 1, 16) := by kernel_rfl

/-- What a call owns stays owned behind what turns nothing of old. -/
theorem owns_below {w w' : World} {base : Nat} {e : TypeId} {size : Nat} {v : Value} {n : Nat} {xs : List Value} (h : w.ownsRow base e size v n xs) (hb : Below w.heap.size w w') : w'.ownsRow base e size v n xs := by
  refine ⟨h.1, ?_⟩
  rcases h.2 with h | ⟨g, cap, cur, h1, h2, h3, h4⟩
  · exact Or.inl h
  · exact Or.inr ⟨g, cap, cur, h1, h2, (hb.block g (Array.getElem?_eq_some_iff.1 h3).1).trans h3, h4⟩
theorem owns_drew {w : World} {base : Nat} {e : TypeId} {size : Nat} {v : Value} {n : Nat} {xs : List Value} (h : w.ownsRow base e size v n xs) : w.drew.ownsRow base e size v n xs := h

/-- Bytes as cells. -/
def u8s (l : List UInt8) : List Value := l.map fun c => .int .u8 (c.toNat : Int)
theorem u8s_length (l : List UInt8) : (u8s l).length = l.length := by simp [u8s]
theorem u8s_append (l m : List UInt8) : u8s (l ++ m) = u8s l ++ u8s m := by simp [u8s]
theorem u8s_one (l : List UInt8) : ∀ u ∈ u8s l, u.oneCell' = true := by
  intro u hu
  obtain ⟨c, _, rfl⟩ := List.mem_map.1 hu
  rfl

/-- Owned bytes as a text. -/
theorem conv_own {w : World} {base : Nat} {v : Value} {l : List UInt8} (h : w.ownsRow base 5 1 v l.length (u8s l)) : Sem.run Try.prog (convert 50 9 v) w = .ok (.string ⟨l.toArray⟩) w := by
  rcases h.2 with ⟨rfl, h0⟩ | ⟨g, cap, cur, rfl, h2, h3, h4, h5, h6, h7⟩
  · obtain rfl : l = [] := List.length_eq_zero_iff.1 h0
    exact run_convert_bytes_nil (P := Try.prog) w 50 5 Try.underlying50 Try.underlying5 0 0 9 Try.underlying9
  · have hcell : ∀ j (hj : j < l.length), w.cell? ((⟨g, 0, none⟩ : Addr).add j) = some (.int .u8 (l[j].toNat : Int)) := by
      intro j hj
      rw [add_none, Nat.zero_add, cell_of_row w g j cur 5 (0, 0) h3]
      have : (u8s l)[j]? = some (.int .u8 (l[j].toNat : Int)) := by simp [u8s, hj]
      rw [← h7, List.getElem?_take, if_pos (by omega)] at this
      simpa using this
    exact run_convert_bytes_back (P := Try.prog) w 50 9 5 ⟨g, 0, none⟩ cap l Try.underlying50 Try.underlying5 Try.underlying9 hcell

theorem Lies.alloc {w w' : World} {l : List UInt8} (h : Lies w l w') (o : Obj) : Lies w l (w'.alloc o) := h.below ((Below.refl _ _).alloc (Nat.le_refl _) o)
theorem Lies.grown {w w1 w2 : World} {l : List UInt8} {e : TypeId} {size : Nat} {v : Value} {n : Nat} {xs : List Value} (h : Lies w l w1) (ho : w1.ownsRow (w.heap.size + 1) e size v n xs) (hg : w1.grownBy w2 v.ownBlock) : Lies w l w2 := by
  have hk : ∀ k, v.ownBlock = some k → w.heap.size + 1 ≤ k := fun k hk => (ho.lt k hk).1
  refine ⟨(hg.block _ h.lt (fun e => ?_)).trans h.1, h.2.grown hg (Nat.le_of_lt h.lt) (fun k hk' => by have := hk k hk'; omega)⟩
  have := hk _ e.symm
  omega

theorem flat_le (l : List UInt8) (f : UInt8 → List UInt8) (h : ∀ c, (f c).length ≤ 2) : (l.flatMap f).length ≤ 2 * l.length := by
  induction l with
  | nil => simp
  | cons c l ih =>
    rw [List.flatMap_cons, List.length_append, List.length_cons]
    have := h c
    omega
def lows1 (c : UInt8) : List UInt8 := [lowB c]
theorem lows1_no {c : UInt8} (h : capB c = false) : lows1 c = [c] := by
  unfold lows1 lowB; rw [if_neg (by simp [h])]
theorem flat_low (l : List UInt8) : l.flatMap lows1 = lowL l := by
  induction l with
  | nil => rfl
  | cons c l ih => rw [List.flatMap_cons, ih]; rfl

end Go.Proofs.Yteeipaijdoneeaa
