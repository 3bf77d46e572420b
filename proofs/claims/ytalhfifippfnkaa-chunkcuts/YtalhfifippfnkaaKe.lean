/- The walk of the reading of what comes next. -/
import Derived.Test.YtalhfifippfnkaaKd
namespace Go.Proofs.Ytalhfifippfnkaa
set_option linter.unusedVariables false
set_option linter.unusedSimpArgs false
open Go.RowKit

/-- What reading on comes to. -/
structure Next (w w' : World) (N : Nat) (k : K) (r : ByteArray) (d : List UInt8) (E : Nat) : Prop where
  be : Below N w w'
  no : E ≠ 0 → run k r.data.toList = bad E
  go : E = 0 → ∃ k' r' v' d', Rd w' N k' r' v' (d ++ d') ∧ Good k' ∧ r'.size < r.size ∧ d'.length + r'.size ≤ r.size ∧ run k r.data.toList = (run k' r'.data.toList).on d'

theorem next_line {w w' : World} {N : Nat} {k : K} {r : ByteArray} {v : Value} {d : List UInt8} (hg : Good k) (h1 : k.st ≠ 1) (h4 : k.st ≠ 4) (hr0 : 0 < r.size)
    (hR : (sl k r).1 = 0 → Rd w' N (sl k r).2.1 (sl k r).2.2 v d) (hb : Below N w w') : Next w w' N k r d (sl k r).1 := by
  obtain ⟨a, b⟩ := sl_run hg h1 h4 hr0
  refine ⟨hb, a, fun e => ?_⟩
  obtain ⟨g, z, q⟩ := b e
  exact ⟨_, _, v, [], by rw [List.append_nil]; exact hR e, g, z, by simp; omega, by rw [on_nil]; exact q⟩

set_option maxRecDepth 100000 in
set_option maxHeartbeats 2000000 in
theorem readOn_any {w : World} {N : Nat} {k : K} {r : ByteArray} {v : Value} {d : List UInt8} (h : Rd w N k r v d) (hg : Good k) (h4 : k.st ≠ 4) (hr0 : 0 < r.size) (hr : r.size ≤ 1000000) (hd : d.length ≤ 1000000) :
    Calls Try.prog 8 #[.pointer (some ⟨N, 0, none⟩)] w fun e w' => ∃ E : Nat, e = .returned (.int .i64 (E : Int)) ∧ Next w w' N k r d E := by
  have c0 := h.c0
  by_cases h1 : k.st = 1
  · have hl := hg.lf h1
    obtain ⟨m, hm⟩ : ∃ m : Nat, min k.left (r.size : Int) = (m : Int) := ⟨(min k.left (r.size : Int)).toNat, by omega⟩
    have hcd := takeData_any h hg h1 hr hd m hm
    have hN : Hid (∀ v' w', Rd w' N (kd k m) (r.extract m r.size) v' (d ++ r.data.toList.take m) → Below N w w' → Next w w' N k r d 0) := by
      intro v' w' hR hb
      refine ⟨hb, fun e => absurd rfl e, fun _ => ⟨_, _, v', _, hR, good_kd hg h1 (by omega), ?_, ?_, ?_⟩⟩
      · rw [ByteArray.size_extract]; omega
      · rw [ByteArray.size_extract, List.length_take]; omega
      · rw [ext_drop]
        exact run_data _ k m h1 hl.1 (by rw [size_list]; omega)
    have hd1 : (k.st == 1) = true := by simpa using h1
    clear h1 hm hl
    go_enter Try.func8, Try.ntmps8
    go_wp2_with fail
    refine hcd.mono ?_
    rintro e w1 ⟨rfl, ⟨v', hR⟩, hb⟩
    go_wp2_with fail
    go_ret
    exact ⟨0, rfl, hN.out v' _ hR hb⟩
  have hd1 : (k.st == 1) = false := by simpa using h1
  have hcase : k.st = 0 ∨ k.st = 2 ∨ k.st = 3 := by have := hg.s0; have := hg.s4; omega
  rcases hcase with hs | hs | hs
  · have hcl := takeLine_any h 17 cf23c (by rw [hs]; exact deed0 N) hg hr
    have hcd := deed_0 h hs
    have HN : Hid (∀ w', ((sl k r).1 = 0 → Rd w' N (sl k r).2.1 (sl k r).2.2 v d) → Below N w w' → Next w w' N k r d (sl k r).1) := fun w' a b => next_line hg h1 h4 hr0 a b
    generalize sl k r = S at hcl HN
    clear h1 h4 hs
    go_enter Try.func8, Try.ntmps8
    go_wp2_with fail
    refine hcd.mono ?_
    rintro e w1 ⟨rfl, rfl⟩
    go_wp2_with fail
    refine hcl.mono ?_
    rintro e w2 ⟨rfl, hR, hb⟩
    go_wp2_with fail
    go_ret
    exact ⟨_, rfl, HN.out _ hR hb⟩
  · have hcl := takeLine_any h 18 cf24c (by rw [hs]; exact deed2 N) hg hr
    have hcd := deed_2 h hs
    have HN : Hid (∀ w', ((sl k r).1 = 0 → Rd w' N (sl k r).2.1 (sl k r).2.2 v d) → Below N w w' → Next w w' N k r d (sl k r).1) := fun w' a b => next_line hg h1 h4 hr0 a b
    generalize sl k r = S at hcl HN
    clear h1 h4 hs
    go_enter Try.func8, Try.ntmps8
    go_wp2_with fail
    refine hcd.mono ?_
    rintro e w1 ⟨rfl, rfl⟩
    go_wp2_with fail
    refine hcl.mono ?_
    rintro e w2 ⟨rfl, hR, hb⟩
    go_wp2_with fail
    go_ret
    exact ⟨_, rfl, HN.out _ hR hb⟩
  · have hcl := takeLine_any h 19 cf25c (by rw [hs]; exact deed3 N) hg hr
    have hcd := deed_3 h hs
    have HN : Hid (∀ w', ((sl k r).1 = 0 → Rd w' N (sl k r).2.1 (sl k r).2.2 v d) → Below N w w' → Next w w' N k r d (sl k r).1) := fun w' a b => next_line hg h1 h4 hr0 a b
    generalize sl k r = S at hcl HN
    clear h1 h4 hs
    go_enter Try.func8, Try.ntmps8
    go_wp2_with fail
    refine hcd.mono ?_
    rintro e w1 ⟨rfl, rfl⟩
    go_wp2_with fail
    refine hcl.mono ?_
    rintro e w2 ⟨rfl, hR, hb⟩
    go_wp2_with fail
    go_ret
    exact ⟨_, rfl, HN.out _ hR hb⟩

end Go.Proofs.Ytalhfifippfnkaa
