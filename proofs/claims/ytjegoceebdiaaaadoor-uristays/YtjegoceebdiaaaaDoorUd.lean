/- The walks of Right, Print and Parse. -/
import Derived.Test.YtjegoceebdiaaaaDoorUc
namespace Go.Proofs.YtjegoceebdiaaaaDoor
set_option linter.unusedVariables false
set_option linter.unusedSimpArgs false
open Go.RowKit

set_option maxRecDepth 100000 in
set_option maxHeartbeats 1000000 in
theorem rightBytes_any (u : U) (w : World) (hp : u.path.size ≤ 10000) (hq : u.query.size ≤ 10000) :
    Calls Tryd.prog 32 #[u.v] w fun e w' => e = .returned (.bool (bytesB u)) ∧ Below w.heap.size w w' := by
  unfold U.v
  have hbn : ∀ vs : Array Value, Below w.heap.size w (w.alloc (.cells vs 23)) := fun vs => (Below.refl _ _).alloc (Nat.le_refl _) _
  cases h1 : allB addrB u.path.data.toList
  · have HR : Hid (bytesB u = false) := by unfold Hid bytesB; rw [h1]; rfl
    have H1 := hide h1
    clear h1
    go_enter Tryd.func32, Tryd.ntmps32
    go_wp2_with fail
    refine (everyA u.path _ (by omega)).mono ?_
    rintro e w1 ⟨rfl, hw1⟩
    subst hw1
    rw [H1.out]
    go_wp2_with fail
    go_ret
    exact ⟨by rw [HR.out]; rfl, hbn _⟩
  · cases h2 : allB addrB u.query.data.toList
    · have HR : Hid (bytesB u = false) := by unfold Hid bytesB; rw [h1, h2]; rfl
      have H1 := hide h1
      have H2 := hide h2
      clear h1 h2
      go_enter Tryd.func32, Tryd.ntmps32
      go_wp2_with fail
      refine (everyA u.path _ (by omega)).mono ?_
      rintro e w1 ⟨rfl, hw1⟩
      subst hw1
      rw [H1.out]
      go_wp2_with fail
      refine (everyA u.query _ (by omega)).mono ?_
      rintro e w1 ⟨rfl, hw1⟩
      subst hw1
      rw [H2.out]
      go_wp2_with fail
      go_ret
      exact ⟨by rw [HR.out]; rfl, hbn _⟩
    · cases h3 : hasL 63 u.path.data.toList
      · cases h4 : u.asks
        · have HR : Hid (bytesB u = u.query.toList.isEmpty) := by unfold Hid bytesB; rw [h1, h2, h3, h4, ByteArray.toList_eq]; rfl
          have H1 := hide h1
          have H2 := hide h2
          have H3 := hide h3
          clear h1 h2 h3
          go_enter Tryd.func32, Tryd.ntmps32
          go_wp2_with fail
          refine (everyA u.path _ (by omega)).mono ?_
          rintro e w1 ⟨rfl, hw1⟩
          subst hw1
          rw [H1.out]
          go_wp2_with fail
          refine (everyA u.query _ (by omega)).mono ?_
          rintro e w1 ⟨rfl, hw1⟩
          subst hw1
          rw [H2.out]
          go_wp2_with fail
          refine (contains_any u.path 63 _).mono ?_
          rintro e w1 ⟨rfl, hw1⟩
          subst hw1
          rw [H3.out]
          go_wp2_with fail
          go_ret
          exact ⟨by rw [HR.out]; rfl, hbn _⟩
        · have HR : Hid (bytesB u = true) := by unfold Hid bytesB; rw [h1, h2, h3, h4]; rfl
          have H1 := hide h1
          have H2 := hide h2
          have H3 := hide h3
          clear h1 h2 h3
          go_enter Tryd.func32, Tryd.ntmps32
          go_wp2_with fail
          refine (everyA u.path _ (by omega)).mono ?_
          rintro e w1 ⟨rfl, hw1⟩
          subst hw1
          rw [H1.out]
          go_wp2_with fail
          refine (everyA u.query _ (by omega)).mono ?_
          rintro e w1 ⟨rfl, hw1⟩
          subst hw1
          rw [H2.out]
          go_wp2_with fail
          refine (contains_any u.path 63 _).mono ?_
          rintro e w1 ⟨rfl, hw1⟩
          subst hw1
          rw [H3.out]
          go_wp2_with fail
          go_ret
          exact ⟨by rw [HR.out]; rfl, hbn _⟩
      · have HR : Hid (bytesB u = false) := by unfold Hid bytesB; rw [h1, h2, h3]; rfl
        have H1 := hide h1
        have H2 := hide h2
        have H3 := hide h3
        clear h1 h2 h3
        go_enter Tryd.func32, Tryd.ntmps32
        go_wp2_with fail
        refine (everyA u.path _ (by omega)).mono ?_
        rintro e w1 ⟨rfl, hw1⟩
        subst hw1
        rw [H1.out]
        go_wp2_with fail
        refine (everyA u.query _ (by omega)).mono ?_
        rintro e w1 ⟨rfl, hw1⟩
        subst hw1
        rw [H2.out]
        go_wp2_with fail
        refine (contains_any u.path 63 _).mono ?_
        rintro e w1 ⟨rfl, hw1⟩
        subst hw1
        rw [H3.out]
        go_wp2_with fail
        go_ret
        exact ⟨by rw [HR.out]; rfl, hbn _⟩

/-- What is small enough to be walked over. -/
structure Short (u : U) : Prop where
  host : u.host.size ≤ 10000
  path : u.path.size ≤ 10000
  query : u.query.size ≤ 10000

theorem Short.fits {u : U} (h : Short u) (hp : placeB u = true) : Fits u := ⟨h.host, h.path, h.query, (place_port hp).1, (place_port hp).2⟩

set_option maxRecDepth 100000 in
set_option maxHeartbeats 1000000 in
theorem right_any (u : U) (w : World) (hs : Short u) (ht : Tabs w) :
    Calls Tryd.prog 13 #[u.v] w fun e w' => e = .returned (.bool (rtU u)) ∧ Below w.heap.size w w' := by
  have hnew := Six.new w u
  have hbn : Below w.heap.size w (w.alloc (.cells u.cs.toArray 23)) := (Below.refl _ _).alloc (Nat.le_refl _) _
  have htn := ht.below hbn
  unfold U.cs at hnew hbn htn
  cases h1 : placeB u
  · have HR : Hid (rtU u = false) := by unfold Hid rtU; rw [h1]; rfl
    have H1 := hide h1
    clear h1
    unfold U.v
    go_enter Tryd.func13, Tryd.ntmps13
    go_wp2_with fail
    refine (rightPlace_any u _ hs.host hs.path).mono ?_
    rintro e w1 ⟨rfl, hb1⟩
    rw [H1.out]
    go_wp2_with fail
    go_ret
    exact ⟨by rw [HR.out]; rfl, hbn.trans (hb1.mono hbn.size)⟩
  · cases h2 : bytesB u
    · have HR : Hid (rtU u = false) := by unfold Hid rtU; rw [h1, h2]; rfl
      have H1 := hide h1
      have H2 := hide h2
      clear h1 h2
      unfold U.v
      go_enter Tryd.func13, Tryd.ntmps13
      go_wp2_with fail
      generalize w.alloc _ = W1 at hnew hbn htn ⊢
      refine (rightPlace_any u _ hs.host hs.path).mono ?_
      rintro e w1 ⟨rfl, hb1⟩
      rw [H1.out]
      obtain ⟨c0, c1, c2, c3, c4, c5, -, -⟩ := hnew.below hb1
      go_wp2_with fail
      refine (rightBytes_any u _ hs.path hs.query).mono ?_
      rintro e w2 ⟨rfl, hb2⟩
      rw [H2.out]
      go_wp2_with fail
      go_ret
      exact ⟨by rw [HR.out]; rfl, (hbn.trans (hb1.mono hbn.size)).trans (hb2.mono (hbn.trans (hb1.mono hbn.size)).size)⟩
    · have hlen := wrS_size u
      have hwl : (wrS u).size ≤ 100000 := by
        have hps := prtS_size (place_port h1).1 (place_port h1).2
        have f1 := hs.host
        have f2 := hs.path
        have f3 := hs.query
        have e2 : (prtL u.port).length ≤ 6 := by rw [← bytes_list (prtL u.port), size_list]; exact hps
        rw [hlen]
        unfold wrL qryL
        rw [← size_list] at f1 f2 f3
        cases u.abs <;> cases u.asks <;> simp [httpL] <;> simp at f1 f2 f3 <;> omega
      have HF := hide (hs.fits h1)
      have HR : Hid (rtU u = decide ((wrS u).size ≤ 500)) := by unfold Hid rtU; rw [h1, h2, hlen]; rfl
      have H1 := hide h1
      have H2 := hide h2
      clear h1 h2 hlen
      unfold U.v
      go_enter Tryd.func13, Tryd.ntmps13
      go_wp2_with fail
      generalize w.alloc _ = W1 at hnew hbn htn ⊢
      refine (rightPlace_any u _ hs.host hs.path).mono ?_
      rintro e w1 ⟨rfl, hb1⟩
      rw [H1.out]
      have hn1 := hnew.below hb1
      obtain ⟨c0, c1, c2, c3, c4, c5, -, -⟩ := hn1
      go_wp2_with fail
      refine (rightBytes_any u _ hs.path hs.query).mono ?_
      rintro e w2 ⟨rfl, hb2⟩
      rw [H2.out]
      clear c0 c1 c2 c3 c4 c5
      have hn2 := (hnew.below hb1).below hb2
      obtain ⟨c0, c1, c2, c3, c4, c5, -, -⟩ := hn2
      go_wp2_with fail
      refine (written_any u _ HF.out ((htn.below hb1).below hb2)).mono ?_
      rintro e w3 ⟨rfl, hb3⟩
      go_wp2_with fail
      go_ret
      have B2 := (hbn.trans (hb1.mono hbn.size)).trans (hb2.mono (hbn.trans (hb1.mono hbn.size)).size)
      refine ⟨?_, B2.trans (hb3.mono B2.size)⟩
      rw [HR.out]
      refine ret_bool ?_
      rw [Bool.eq_iff_iff]; simp; omega

def prS (u : U) : ByteArray := if rtU u then wrS u else ⟨#[]⟩
def prE (u : U) : Int := if rtU u then 0 else 1

set_option maxRecDepth 100000 in
set_option maxHeartbeats 1000000 in
theorem print_any (u : U) (w : World) (hs : Short u) (ht : Tabs w) :
    Calls Tryd.prog 10 #[u.v] w fun e w' => e = .returned (.tuple #[.string (prS u), .int .i64 (prE u)]) ∧ Below w.heap.size w w' := by
  have hnew := Six.new w u
  have hbn : Below w.heap.size w (w.alloc (.cells u.cs.toArray 23)) := (Below.refl _ _).alloc (Nat.le_refl _) _
  have htn := ht.below hbn
  unfold U.cs at hnew hbn htn
  cases h1 : rtU u
  · have HR : Hid (prS u = ⟨#[]⟩ ∧ prE u = 1) := by unfold Hid prS prE; rw [h1]; exact ⟨rfl, rfl⟩
    have H1 := hide h1
    clear h1
    unfold U.v
    go_enter Tryd.func10, Tryd.ntmps10
    go_wp2_with fail
    generalize w.alloc _ = W1 at hnew hbn htn ⊢
    refine (right_any u _ hs htn).mono ?_
    rintro e w1 ⟨rfl, hb1⟩
    rw [H1.out]
    go_wp2_with fail
    go_ret2
    exact ⟨ret_pair HR.out.1.symm HR.out.2.symm, hbn.trans (hb1.mono hbn.size)⟩
  · have HR : Hid (prS u = wrS u ∧ prE u = 0) := by unfold Hid prS prE; rw [h1]; exact ⟨rfl, rfl⟩
    have H1 := hide h1
    have HF := hide (hs.fits (rt_place h1))
    clear h1
    unfold U.v
    go_enter Tryd.func10, Tryd.ntmps10
    go_wp2_with fail
    generalize w.alloc _ = W1 at hnew hbn htn ⊢
    refine (right_any u _ hs htn).mono ?_
    rintro e w1 ⟨rfl, hb1⟩
    rw [H1.out]
    obtain ⟨c0, c1, c2, c3, c4, c5, -, -⟩ := hnew.below hb1
    go_wp2_with fail
    refine (written_any u _ HF.out (htn.below hb1)).mono ?_
    rintro e w2 ⟨rfl, hb2⟩
    go_wp2_with fail
    go_ret2
    have B1 := hbn.trans (hb1.mono hbn.size)
    exact ⟨ret_pair HR.out.1.symm HR.out.2.symm, B1.trans (hb2.mono B1.size)⟩

end Go.Proofs.YtjegoceebdiaaaaDoor
