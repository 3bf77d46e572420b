/- A load may be taken first where all that could come ahead of it is done before the region's first store: the library's law on what is held (Derived.OrdersHeld), for a region that stores into the very cells that it loads. -/
import Derived.OrdersHeld
import Derived.Deep.RegionHeld
import Derived.Test.YtkakinakjnpbjaaDoorCm
namespace Go.Proofs.YtkakinakjnpbjaaDoor
set_option linter.unusedVariables false
set_option linter.unusedSimpArgs false
open Go.RowKit

/-- As long as each of three operations has not come up, what belongs to it holds. -/
structure Held (k1 k2 k3 : Nat) (S1 S2 S3 : World → Prop) (listed : Array Bool) (w : World) : Prop where
  h1 : listed.getD k1 true = false → S1 w
  h2 : listed.getD k2 true = false → S2 w
  h3 : listed.getD k3 true = false → S3 w

/-- Whatever order is picked, and that holds behind every operation. -/
def upTo (P : Program) (md : Region.Mode) (ops : Array Oper) (Q : Exit → Act → World → Prop) (k1 k2 k3 : Nat) (S1 S2 S3 : World → Prop) : Nat → Array Bool → Act → World → Prop
  | 0, listed, a, w => Region.ready md ops listed = [] ∧ Q .normal a w
  | fuel + 1, listed, a, w =>
    (Region.ready md ops listed = [] → Q .normal a w) ∧
    ∀ i ∈ Region.ready md ops listed, wpOp P ops Q i (fun a' w' => Held k1 k2 k3 S1 S2 S3 (listed.setIfInBounds i true) w' ∧ upTo P md ops Q k1 k2 k3 S1 S2 S3 fuel (listed.setIfInBounds i true) a' w') a w

theorem any_of_upTo {P : Program} {md : Region.Mode} {ops : Array Oper} {Q : Exit → Act → World → Prop} {k1 k2 k3 : Nat} {S1 S2 S3 : World → Prop} : ∀ (fuel : Nat) (listed : Array Bool) (a : Act) (w : World), upTo P md ops Q k1 k2 k3 S1 S2 S3 fuel listed a w → wpAny P md ops Q fuel listed a w
  | 0, _, _, _, h => h
  | fuel + 1, listed, a, w, h => ⟨h.1, fun i hi => wpOp_mono (fun a' w' h' => any_of_upTo fuel _ a' w' h'.2) (h.2 i hi)⟩

/-- Number k waits for number i. -/
def waits (md : Region.Mode) (ops : Array Oper) (k i : Nat) : Bool :=
  match ops[k]? with
  | some o => o.after.toList.any fun e => Region.binds md e && e.on == i
  | none => false

theorem waits_not {md : Region.Mode} {ops : Array Oper} {k i : Nat} (h : waits md ops k i = true) {listed : Array Bool} (hi : listed.getD i true = false) : k ∉ Region.ready md ops listed := by
  intro hk
  obtain ⟨_, o, ho, hall⟩ := mem_ready.1 hk
  unfold waits at h
  rw [ho] at h
  obtain ⟨e, he, hb⟩ := List.any_eq_true.1 h
  simp only [Bool.and_eq_true, beq_iff_eq] at hb
  have h1 := hall e (by simpa using he) hb.1
  rw [hb.2] at h1
  rcases Nat.lt_or_ge i listed.size with h' | h'
  · simp [h'] at hi h1; rw [hi] at h1; cases h1
  · simp [Array.getElem?_eq_none h'] at h1

section
variable {P : Program} {md : Region.Mode} {ops : Array Oper} {Q : Exit → Act → World → Prop} {k1 k2 k3 : Nat} {S1 S2 S3 : World → Prop}

theorem Held.back {i j : Nat} {listed : Array Bool} {w : World} (h : Held k1 k2 k3 S1 S2 S3 ((listed.setIfInBounds i true).setIfInBounds j true) w) (n1 : i ≠ k1) (n2 : i ≠ k2) (n3 : i ≠ k3) (hji : j ≠ i) : Held k1 k2 k3 S1 S2 S3 (listed.setIfInBounds j true) w := by
  have e : ∀ k, i ≠ k → ((listed.setIfInBounds i true).setIfInBounds j true).getD k true = (listed.setIfInBounds j true).getD k true := by
    intro k hk
    rw [Array.setIfInBounds_comm _ _ (Ne.symm hji), getD_set_ne true hk]
  exact ⟨fun g => h.h1 ((e k1 n1).trans g), fun g => h.h2 ((e k2 n2).trans g), fun g => h.h3 ((e k3 n3).trans g)⟩
theorem Held.on {i : Nat} {listed : Array Bool} {w : World} (h : Held k1 k2 k3 S1 S2 S3 listed w) (n1 : i ≠ k1) (n2 : i ≠ k2) (n3 : i ≠ k3) : Held k1 k2 k3 S1 S2 S3 (listed.setIfInBounds i true) w :=
  ⟨fun g => h.h1 (by rwa [getD_set_ne true n1] at g), fun g => h.h2 (by rwa [getD_set_ne true n2] at g), fun g => h.h3 (by rwa [getD_set_ne true n3] at g)⟩

theorem upTo_first {i k : Nat} {oi : Oper} {v : Value} {S : World → Prop} (hi : ops[i]? = some oi) (hsel : ∀ (j : Nat) (o : Oper) cs b, ops[j]? = some o → o.op ≠ .select cs b)
    (hQ : ∀ c a w, Q (.panic c) (a.put oi.dst v) w → Q (.panic c) a w) (hik : i ≠ k) (n1 : i ≠ k1) (n2 : i ≠ k2) (n3 : i ≠ k3) (hw : waits md ops k i = true)
    (hS : ∀ listed w, Held k1 k2 k3 S1 S2 S3 listed w → listed.getD k true = false → S w) :
    ∀ (fuel : Nat) (listed : Array Bool) (a : Act) (w : World),
      (∀ j oj, ops[j]? = some oj → j ≠ i → listed.getD j true = false → (∀ e ∈ oj.after, Region.binds md e = true → e.on ≠ i) → oi.apart ops oj = true) →
      i ∈ Region.ready md ops listed → listed.getD k true = false → Held k1 k2 k3 S1 S2 S3 listed w → YieldsIf P ops S oi v a →
      upTo P md ops Q k1 k2 k3 S1 S2 S3 fuel (listed.setIfInBounds i true) (a.put oi.dst v) w → upTo P md ops Q k1 k2 k3 S1 S2 S3 (fuel + 1) listed a w := by
  intro fuel
  induction fuel with
  | zero =>
    intro listed a w _ hr hk hC hy H
    refine ⟨fun h => (by rw [h] at hr; cases hr), fun j hj => ?_⟩
    by_cases hji : j = i
    · subst hji; exact hy.wpOp hi (hS _ _ hC hk) ⟨hC.on n1 n2 n3, H⟩
    · have := ready_mono hj hji
      rw [H.1] at this
      cases this
  | succ fuel ih =>
    intro listed a w hfree hr hk hC hy H
    have hiun := (mem_ready.1 hr).1
    refine ⟨fun h => (by rw [h] at hr; cases hr), fun j hj => ?_⟩
    by_cases hji : j = i
    · subst hji; exact hy.wpOp hi (hS _ _ hC hk) ⟨hC.on n1 n2 n3, H⟩
    · have hjk : j ≠ k := fun e => by subst e; exact waits_not hw hiun hj
      obtain ⟨hjun, oj, hoj, hall⟩ := mem_ready.1 hj
      have hnot : ∀ e ∈ oj.after, Region.binds md e = true → e.on ≠ i := fun e he hb heq => by
        have h1 := hall e he hb
        rw [heq] at h1
        rcases Nat.lt_or_ge i listed.size with h' | h'
        · simp [h'] at hiun h1; rw [hiun] at h1; cases h1
        · simp [Array.getElem?_eq_none h'] at h1
      have h2 := wpOp_putIf hoj (hfree j oj hoj hji hjun hnot) (fun cs b => hsel i oi cs b hi) (fun cs b => hsel j oj cs b hoj) hQ hy (H.2 j (ready_mono hj hji))
      have hkj : (listed.setIfInBounds j true).getD k true = false := by rw [getD_set_ne true hjk]; exact hk
      refine wpOp_mono (fun a' w' h3 => ?_) h2
      have hC' := h3.2.1.back n1 n2 n3 hji
      refine ⟨hC', ih (listed.setIfInBounds j true) a' w' (fun m om hm hmi hun hno => hfree m om hm hmi ?_ hno) (ready_mono hr (Ne.symm hji)) hkj hC' h3.1 ?_⟩
      · by_cases hjm : j = m
        · subst hjm; exact hjun
        · rw [getD_set_ne true hjm] at hun; exact hun
      · rw [Array.setIfInBounds_comm _ _ hji]
        exact h3.2.2

/-- Number i, which yields v while number k has not come up, is taken first. -/
theorem upTo_take (k : Nat) {S : World → Prop} {i : Nat} {oi : Oper} {v : Value} {fuel : Nat} {listed : Array Bool} {a : Act} {w : World} (hi : ops[i]? = some oi)
    (hs : Region.noSelect ops = true) (hf : Region.free md ops listed i = true) (hr : (Region.ready md ops listed).contains i = true)
    (hQ : ∀ c a w, Q (.panic c) (a.put oi.dst v) w → Q (.panic c) a w) (hn : i ≠ k ∧ i ≠ k1 ∧ i ≠ k2 ∧ i ≠ k3) (hw : waits md ops k i = true) (hk : listed.getD k true = false)
    (hS : ∀ listed w, Held k1 k2 k3 S1 S2 S3 listed w → listed.getD k true = false → S w) (hC : Held k1 k2 k3 S1 S2 S3 listed w)
    (hy : YieldsIf P ops S oi v a)
    (h : Held k1 k2 k3 S1 S2 S3 (listed.setIfInBounds i true) w → upTo P md ops Q k1 k2 k3 S1 S2 S3 fuel (listed.setIfInBounds i true) (a.put oi.dst v) w) : upTo P md ops Q k1 k2 k3 S1 S2 S3 (fuel + 1) listed a w :=
  upTo_first hi (Region.noSelect_spec hs) hQ hn.1 hn.2.1 hn.2.2.1 hn.2.2.2 hw hS fuel listed a w (Region.free_spec hi hf) (by simpa using hr) hk hC hy (h (hC.on hn.2.1 hn.2.2.1 hn.2.2.2))

/-- Number i alone may come up: it is carried out. -/
theorem upTo_run {i : Nat} {o : Oper} {fuel : Nat} {listed : Array Bool} {a : Act} {w : World} (hr : Region.ready md ops listed = [i]) (ho : ops[i]? = some o)
    (h : ∀ K' : Act → World → Prop, Shut (∀ a w, Held k1 k2 k3 S1 S2 S3 (listed.setIfInBounds i true) w → (Held k1 k2 k3 S1 S2 S3 (listed.setIfInBounds i true) w → upTo P md ops Q k1 k2 k3 S1 S2 S3 fuel (listed.setIfInBounds i true) a w) → K' a w) → if Region.wanted o (yielded ops a.tmps) = true then Oper.wp P o a w K' Q else K' (a.put o.dst undef) w) :
    upTo P md ops Q k1 k2 k3 S1 S2 S3 (fuel + 1) listed a w := by
  refine ⟨fun h0 => (by rw [hr] at h0; cases h0), fun j hj => ?_⟩
  rw [hr] at hj
  obtain rfl : j = i := by simpa using hj
  exact wpOp_step ho (fun K' hK => h K' (fun a w h1 h2 => hK a w ⟨h1, h2 h1⟩))

theorem upTo_done {listed : Array Bool} {a : Act} {w : World} (hr : Region.ready md ops listed = []) (h : Q .normal a w) : ∀ fuel, upTo P md ops Q k1 k2 k3 S1 S2 S3 fuel listed a w
  | 0 => ⟨hr, h⟩
  | _ + 1 => ⟨fun _ => h, by rw [hr]; simp⟩

theorem region_upTo {id : Nat} {a : Act} {w : World} (k1 k2 k3 : Nat) (S1 S2 S3 : World → Prop) (hm : P.follows .mixedOrders = true) (hC : S1 w.drew ∧ S2 w.drew ∧ S3 w.drew)
    (h : Held k1 k2 k3 S1 S2 S3 (Array.replicate ops.size false) w.drew → upTo P .any ops Q k1 k2 k3 S1 S2 S3 ops.size (Array.replicate ops.size false) a w.drew) : (Code.region id ops true).wp P Q a w :=
  wp_region_any hm (any_of_upTo _ _ _ _ (h ⟨fun _ => hC.1, fun _ => hC.2.1, fun _ => hC.2.2⟩))
end

end Go.Proofs.YtkakinakjnpbjaaDoor
