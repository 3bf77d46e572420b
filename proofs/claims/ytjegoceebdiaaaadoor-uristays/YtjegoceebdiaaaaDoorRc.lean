/- The walk of the document's own Right. -/
import Derived.Test.YtjegoceebdiaaaaDoorRb
namespace Go.Proofs.YtjegoceebdiaaaaDoor
set_option linter.unusedVariables false
set_option linter.unusedSimpArgs false
open Go.RowKit

theorem rt_noplace {u : U} (h : placeB u = false) : rtU u = false := by unfold rtU; rw [h]; rfl
theorem rt_nobytes {u : U} (h : bytesB u = false) : rtU u = false := by unfold rtU; rw [h]; simp
theorem rt_long {u : U} (h : 500 < (wrS u).size) : rtU u = false := by unfold rtU; rw [wrS_size] at h; rw [decide_eq_false (by omega)]; simp
theorem rt_is {u : U} (h : bytesB u = true) (g : ¬ 500 < (wrS u).size) : rtU u = placeB u := by
  unfold rtU; rw [wrS_size] at g; rw [h, decide_eq_true (by omega)]; simp
theorem place_neg {u : U} (h : u.port < 0 ∨ 65535 < u.port) : placeB u = false := by
  cases e : placeB u with
  | false => rfl
  | true => have := place_port e; omega
theorem find_is (s : ByteArray) (c : UInt8) (x : Int) (n : Int) (hx : x = (c.toNat : Int)) (h : ixI c s.data.toList = n) (w : World) (hs : s.size ≤ 1000000) :
    Calls Tryd.prog 30 #[.string s, .int .u8 x] w fun e w' => e = .returned (.int .i64 n) ∧ w' = w := by
  subst hx
  rw [← h]
  exact find_any s c w hs
theorem ix_has {c : UInt8} {l : List UInt8} (h : hasL c l = true) : ixI c l = (atN c l : Int) := by
  unfold hasL at h; rw [decide_eq_true_eq] at h; unfold ixI; rw [if_pos h]
theorem ix_hasnt {c : UInt8} {l : List UInt8} (h : hasL c l = false) : ixI c l = -1 := by
  unfold hasL at h; rw [decide_eq_false_iff_not] at h; unfold ixI; rw [if_neg h]

theorem start_a {l : List UInt8} (h : hasL 58 l = false) : startB l = !pre [47, 47] l := by
  unfold startB
  have : hasL 58 (l.takeWhile (neB 47)) = false := by
    rw [hasL_false] at h ⊢
    rw [ahead_iff]; exact fun e => h e.1
  rw [this]; simp
theorem start_b {l : List UInt8} (h : hasL 58 l = true) (g : hasL 47 l = false ∨ atN 58 l < atN 47 l) : startB l = false := by
  unfold startB
  have : hasL 58 (l.takeWhile (neB 47)) = true := by
    rw [hasL_iff] at h ⊢
    rw [ahead_iff]
    refine ⟨h, ?_⟩
    rw [← hasL_false]
    exact g
  rw [this]; simp
theorem start_c {l : List UInt8} (h : hasL 58 l = true) (g : hasL 47 l = true) (k : ¬ atN 58 l < atN 47 l) : startB l = !pre [47, 47] l := by
  unfold startB
  have : hasL 58 (l.takeWhile (neB 47)) = false := by
    rw [hasL_false, ahead_iff]
    rintro ⟨-, e | e⟩
    · rw [hasL_iff] at g; exact e g
    · exact k e
  rw [this]; simp

theorem start_rest {l : List UInt8} (h : ¬ ∃ (a b : Int), ixI 58 l = a ∧ ixI 47 l = b ∧ (0 ≤ a ∧ (b < 0 ∨ a < b)) ∧ startB l = false) :
    ∃ a b : Int, Hid (ixI 58 l = a) ∧ Hid (ixI 47 l = b) ∧ (a < 0 ∨ 0 ≤ a ∧ ¬ b < 0 ∧ ¬ a < b) ∧ Hid (startB l = !pre [47, 47] l) := by
  refine ⟨ixI 58 l, ixI 47 l, rfl, rfl, ?_⟩
  cases h58 : hasL 58 l
  · exact ⟨Or.inl (by rw [ix_hasnt h58]; omega), start_a h58⟩
  · cases h47 : hasL 47 l
    · exact absurd ⟨_, _, rfl, rfl, ⟨by rw [ix_has h58]; omega, Or.inl (by rw [ix_hasnt h47]; omega)⟩, start_b h58 (Or.inl h47)⟩ h
    · by_cases k : atN 58 l < atN 47 l
      · exact absurd ⟨_, _, rfl, rfl, ⟨by rw [ix_has h58]; omega, Or.inr (by rw [ix_has h58, ix_has h47]; omega)⟩, start_b h58 (Or.inr k)⟩ h
      · rw [ix_has h58, ix_has h47]
        exact ⟨Or.inr ⟨by omega, by omega, by omega⟩, start_c h58 h47 k⟩

set_option maxRecDepth 100000 in
set_option maxHeartbeats 4000000 in
theorem refright_any (u : U) (w : World) (hs : Short u) :
    Calls Tryd.prog 14 #[u.v] w fun e w' => e = .returned (.bool (rtU u)) ∧ Below w.heap.size w w' := by
  have f1 := hs.host
  have f2 := hs.path
  have f3 := hs.query
  have hbn : Below w.heap.size w (w.alloc (.cells u.cs.toArray 23)) := (Below.refl _ _).alloc (Nat.le_refl _) _
  have hnew := Six.new w u
  unfold U.cs at hnew hbn
  unfold U.v
  by_cases hp0 : u.port < 0
  · have HR := hide (rt_noplace (place_neg (Or.inl hp0)))
    go_enter Tryd.func14, Tryd.ntmps14
    go_wp2_with fail
    go_ret
    exact ⟨by rw [HR.out]; rfl, hbn⟩
  have hp0d : decide (u.port < 0) = false := decide_eq_false hp0
  by_cases hp1 : 65535 < u.port
  · have HR := hide (rt_noplace (place_neg (Or.inr hp1)))
    go_enter Tryd.func14, Tryd.ntmps14
    go_wp2_with fail
    go_ret
    exact ⟨by rw [HR.out]; rfl, hbn⟩
  have hp1d : decide (65535 < u.port) = false := decide_eq_false hp1
  cases h1 : allB addrB u.path.data.toList
  · have HR : Hid (rtU u = false) := rt_nobytes (by unfold bytesB; rw [h1]; rfl)
    have H1 := hide h1
    clear h1
    go_enter Tryd.func14, Tryd.ntmps14
    go_wp2_with fail
    refine (refbytes_any u.path _ (by omega)).mono ?_
    rintro e w1 ⟨rfl, hw1⟩
    subst hw1
    rw [H1.out]
    go_wp2_with fail
    go_ret
    exact ⟨by rw [HR.out]; rfl, hbn⟩
  cases h2 : allB addrB u.query.data.toList
  · have HR : Hid (rtU u = false) := rt_nobytes (by unfold bytesB; rw [h1, h2]; rfl)
    have H1 := hide h1
    have H2 := hide h2
    clear h1 h2
    go_enter Tryd.func14, Tryd.ntmps14
    go_wp2_with fail
    refine (refbytes_any u.path _ (by omega)).mono ?_
    rintro e w1 ⟨rfl, hw1⟩
    subst hw1
    rw [H1.out]
    go_wp2_with fail
    refine (refbytes_any u.query _ (by omega)).mono ?_
    rintro e w1 ⟨rfl, hw1⟩
    subst hw1
    rw [H2.out]
    go_wp2_with fail
    go_ret
    exact ⟨by rw [HR.out]; rfl, hbn⟩
  cases h3 : hasL 63 u.path.data.toList
  rotate_left
  · have HR : Hid (rtU u = false) := rt_nobytes (by unfold bytesB; rw [h1, h2, h3]; rfl)
    have H3 := hide (ix_has h3)
    have H1 := hide h1
    have H2 := hide h2
    clear h1 h2 h3
    go_enter Tryd.func14, Tryd.ntmps14
    go_wp2_with fail
    refine (refbytes_any u.path _ (by omega)).mono ?_
    rintro e w1 ⟨rfl, hw1⟩
    subst hw1
    rw [H1.out]
    go_wp2_with fail
    refine (refbytes_any u.query _ (by omega)).mono ?_
    rintro e w1 ⟨rfl, hw1⟩
    subst hw1
    rw [H2.out]
    go_wp2_with fail
    refine (find_is u.path 63 63 _ rfl H3.out _ (by omega)).mono ?_
    rintro e w1 ⟨rfl, hw1⟩
    subst hw1
    go_wp2_with fail
    go_ret
    exact ⟨by rw [HR.out]; rfl, hbn⟩
  have H1 := hide h1
  have H2 := hide h2
  have H3 := hide (ix_hasnt h3)
  by_cases hqq : u.asks = false ∧ u.query.data.toList ≠ []
  · obtain ⟨hq, hqn⟩ := hqq
    have HR : Hid (rtU u = false) := rt_nobytes (by
      unfold bytesB
      rw [h1, h2, h3, hq, show u.query.data.toList.isEmpty = false by simpa using hqn]; rfl)
    have heq := empty_not hqn
    clear h1 h2 h3 hqn
    rw [hq] at hnew hbn ⊢
    go_enter Tryd.func14, Tryd.ntmps14
    go_wp2_with fail
    refine (refbytes_any u.path _ (by omega)).mono ?_
    rintro e w1 ⟨rfl, hw1⟩
    subst hw1
    rw [H1.out]
    go_wp2_with fail
    refine (refbytes_any u.query _ (by omega)).mono ?_
    rintro e w1 ⟨rfl, hw1⟩
    subst hw1
    rw [H2.out]
    go_wp2_with fail
    refine (find_is u.path 63 63 _ rfl H3.out _ (by omega)).mono ?_
    rintro e w1 ⟨rfl, hw1⟩
    subst hw1
    go_wp2_with fail
    go_ret
    exact ⟨by rw [HR.out]; rfl, hbn⟩
  have HBY : Hid (bytesB u = true) := by
    unfold Hid bytesB
    rw [h1, h2, h3]
    cases hq : u.asks
    · have : u.query.data.toList = [] := by
        by_cases e : u.query.data.toList = []
        · exact e
        · exact absurd ⟨hq, e⟩ hqq
      rw [this]; rfl
    · rfl
  have HQ : Hid (u.asks = true ∨ u.asks = false ∧ u.query.toList.isEmpty = true) := by
    unfold Hid
    cases hq : u.asks
    · right
      refine ⟨rfl, ?_⟩
      by_cases e : u.query.data.toList = []
      · exact empty_of e
      · exact absurd ⟨hq, e⟩ hqq
    · exact Or.inl rfl
  clear h1 h2 h3 hqq
  have HF : Hid (Fits u) := ⟨f1, f2, f3, by omega, by omega⟩
  have hwl : (wrS u).size ≤ 100000 := by
    rw [wrS_size]
    have hps := prtS_size HF.out.p0 HF.out.p1
    have g1 := f1
    have g2 := f2
    have g3 := f3
    have e2 : (prtL u.port).length ≤ 6 := by rw [← bytes_list (prtL u.port), size_list]; exact hps
    unfold wrL qryL
    rw [← size_list] at g1 g2 g3
    cases u.abs <;> cases u.asks <;> simp [httpL] <;> simp at g1 g2 g3 <;> omega
  rcases HQ.out with hq | ⟨hq, heq⟩
  · rw [hq] at hnew hbn ⊢
    go_enter Tryd.func14, Tryd.ntmps14
    go_wp2_with fail
    refine (refbytes_any u.path _ (by omega)).mono ?_
    rintro e w1 ⟨rfl, hw1⟩
    subst hw1
    rw [H1.out]
    go_wp2_with fail
    refine (refbytes_any u.query _ (by omega)).mono ?_
    rintro e w1 ⟨rfl, hw1⟩
    subst hw1
    rw [H2.out]
    go_wp2_with fail
    refine (find_is u.path 63 63 _ rfl H3.out _ (by omega)).mono ?_
    rintro e w1 ⟨rfl, hw1⟩
    subst hw1
    go_wp2_with fail
    generalize World.alloc _ _ = W1 at hnew hbn ⊢
    have hwr := refwrite_any u W1 HF.out
    unfold U.v at hwr
    rw [hq] at hwr
    refine hwr.mono ?_
    rintro e w2 ⟨rfl, hb2⟩
    have hn2 := hnew.below hb2
    have hB2 := hbn.trans (hb2.mono hbn.size)
    clear hb2 hnew hbn hwr W1
    obtain ⟨c0, c1, c2, c3, c4, c5, -, -⟩ := hn2
    by_cases hlen : 500 < (wrS u).size
    · have HR := hide (rt_long hlen)
      have hlz : (500 : Int) < ((wrS u).size : Int) := by omega
      go_wp2_with fail
      go_ret
      exact ⟨by rw [HR.out]; rfl, hB2⟩
    have hlz : decide ((500 : Int) < ((wrS u).size : Int)) = false := decide_eq_false (by omega)
    have HRT := hide (rt_is HBY.out hlen)
    cases ha : u.abs
    · rw [ha] at c0
      by_cases hst : ∃ (a b : Int), ixI 58 u.path.data.toList = a ∧ ixI 47 u.path.data.toList = b ∧ (0 ≤ a ∧ (b < 0 ∨ a < b)) ∧ startB u.path.data.toList = false
      · obtain ⟨a, b, ea, eb, ⟨h0, h1⟩, hsb⟩ := hst
        have HR : Hid (rtU u = false) := by unfold Hid; rw [HRT.out]; unfold placeB; rw [ha, hsb]; simp
        have EA := hide ea
        have EB := hide eb
        clear ea eb hsb
        go_wp2_with fail
        refine (find_is u.path 58 58 _ rfl EA.out _ (by omega)).mono ?_
        rintro e w1 ⟨rfl, hw1⟩
        subst hw1
        go_wp2_with fail
        refine (find_is u.path 47 47 _ rfl EB.out _ (by omega)).mono ?_
        rintro e w1 ⟨rfl, hw1⟩
        subst hw1
        rcases h1 with h1 | h1
        · go_wp2_with fail
          go_ret
          exact ⟨by rw [HR.out]; rfl, hB2⟩
        · by_cases h2 : b < 0
          · go_wp2_with fail
            go_ret
            exact ⟨by rw [HR.out]; rfl, hB2⟩
          · have h2d : decide (b < 0) = false := decide_eq_false h2
            go_wp2_with fail
            go_ret
            exact ⟨by rw [HR.out]; rfl, hB2⟩
      · obtain ⟨a, b, EA, EB, hno, HST⟩ := start_rest hst
        clear hst
        go_wp2_with fail
        refine (find_is u.path 58 58 _ rfl EA.out _ (by omega)).mono ?_
        rintro e w1 ⟨rfl, hw1⟩
        subst hw1
        go_wp2_with fail
        refine (find_is u.path 47 47 _ rfl EB.out _ (by omega)).mono ?_
        rintro e w1 ⟨rfl, hw1⟩
        subst hw1
        by_cases hh0 : u.host.data.toList = []
        · have heh := empty_of hh0
          have HH : Hid (u.host.data.toList.isEmpty = true) := by unfold Hid; rw [hh0]; rfl
          clear hh0
          by_cases hz : u.port = 0
          · obtain ⟨p2, hp2⟩ : ∃ p2, pre [47, 47] u.path.data.toList = p2 := ⟨_, rfl⟩
            have HR : Hid (rtU u = !p2) := by unfold Hid; rw [HRT.out]; unfold placeB; rw [ha, HH.out, HST.out, hp2, hz]; rfl
            have HP := hide hp2
            rw [hz] at c2
            clear hp2
            rcases hno with hno | ⟨hno, hb0, hab⟩
            · have hnd : decide (0 ≤ a) = false := decide_eq_false (by omega)
              go_wp2_with fail
              refine (beg_any u.path ⟨#[47, 47]⟩ _ HP.out _ (by omega) (by decide)).mono ?_
              rintro e w1 ⟨rfl, hw1⟩
              subst hw1
              go_wp2_with fail
              go_ret
              exact ⟨by rw [HR.out]; rfl, hB2⟩
            · have hnd : decide (b < 0) = false := decide_eq_false (by omega)
              have hnc : decide (a < b) = false := decide_eq_false (by omega)
              go_wp2_with fail
              refine (beg_any u.path ⟨#[47, 47]⟩ _ HP.out _ (by omega) (by decide)).mono ?_
              rintro e w1 ⟨rfl, hw1⟩
              subst hw1
              go_wp2_with fail
              go_ret
              exact ⟨by rw [HR.out]; rfl, hB2⟩
          · have HR : Hid (rtU u = false) := by unfold Hid; rw [HRT.out]; unfold placeB; rw [ha, decide_eq_false hz]; simp
            have hzb : (u.port == 0) = false := by rw [beq_eq_false_iff_ne]; exact hz
            rcases hno with hno | ⟨hno, hb0, hab⟩
            · have hnd : decide (0 ≤ a) = false := decide_eq_false (by omega)
              go_wp2_with fail
              go_ret
              exact ⟨by rw [HR.out]; rfl, hB2⟩
            · have hnd : decide (b < 0) = false := decide_eq_false (by omega)
              have hnc : decide (a < b) = false := decide_eq_false (by omega)
              go_wp2_with fail
              go_ret
              exact ⟨by rw [HR.out]; rfl, hB2⟩
        · have heh := empty_not hh0
          have HR : Hid (rtU u = false) := by
            unfold Hid; rw [HRT.out]; unfold placeB; rw [ha, show u.host.data.toList.isEmpty = false by simpa using hh0]; simp
          clear hh0
          rcases hno with hno | ⟨hno, hb0, hab⟩
          · have hnd : decide (0 ≤ a) = false := decide_eq_false (by omega)
            go_wp2_with fail
            go_ret
            exact ⟨by rw [HR.out]; rfl, hB2⟩
          · have hnd : decide (b < 0) = false := decide_eq_false (by omega)
            have hnc : decide (a < b) = false := decide_eq_false (by omega)
            go_wp2_with fail
            go_ret
            exact ⟨by rw [HR.out]; rfl, hB2⟩
    · rw [ha] at c0
      cases hok : hostOk u.host.data.toList
      · have HR : Hid (rtU u = false) := by unfold Hid; rw [HRT.out]; unfold placeB; rw [ha, hok]; simp
        have HK := hide hok
        clear hok
        go_wp2_with fail
        refine (refhost_any u.host _ (by omega)).mono ?_
        rintro e w1 ⟨rfl, hw1⟩
        subst hw1
        rw [HK.out]
        go_wp2_with fail
        go_ret
        exact ⟨by rw [HR.out]; rfl, hB2⟩
      · obtain ⟨p2, hp2⟩ : ∃ p2, pre [47] u.path.data.toList = p2 := ⟨_, rfl⟩
        have HR : Hid (rtU u = p2) := by unfold Hid; rw [HRT.out]; unfold placeB; rw [ha, hok, hp2, decide_eq_true (show 0 ≤ u.port by omega), decide_eq_true (show u.port ≤ 65535 by omega)]; simp
        have HK := hide hok
        have HP := hide hp2
        clear hok hp2
        go_wp2_with fail
        refine (refhost_any u.host _ (by omega)).mono ?_
        rintro e w1 ⟨rfl, hw1⟩
        subst hw1
        rw [HK.out]
        go_wp2_with fail
        refine (beg_any u.path ⟨#[47]⟩ _ HP.out _ (by omega) (by decide)).mono ?_
        rintro e w1 ⟨rfl, hw1⟩
        subst hw1
        go_wp2_with fail
        go_ret
        exact ⟨by rw [HR.out]; rfl, hB2⟩
  · rw [hq] at hnew hbn ⊢
    go_enter Tryd.func14, Tryd.ntmps14
    go_wp2_with fail
    refine (refbytes_any u.path _ (by omega)).mono ?_
    rintro e w1 ⟨rfl, hw1⟩
    subst hw1
    rw [H1.out]
    go_wp2_with fail
    refine (refbytes_any u.query _ (by omega)).mono ?_
    rintro e w1 ⟨rfl, hw1⟩
    subst hw1
    rw [H2.out]
    go_wp2_with fail
    refine (find_is u.path 63 63 _ rfl H3.out _ (by omega)).mono ?_
    rintro e w1 ⟨rfl, hw1⟩
    subst hw1
    go_wp2_with fail
    generalize World.alloc _ _ = W1 at hnew hbn ⊢
    have hwr := refwrite_any u W1 HF.out
    unfold U.v at hwr
    rw [hq] at hwr
    refine hwr.mono ?_
    rintro e w2 ⟨rfl, hb2⟩
    have hn2 := hnew.below hb2
    have hB2 := hbn.trans (hb2.mono hbn.size)
    clear hb2 hnew hbn hwr W1
    obtain ⟨c0, c1, c2, c3, c4, c5, -, -⟩ := hn2
    by_cases hlen : 500 < (wrS u).size
    · have HR := hide (rt_long hlen)
      have hlz : (500 : Int) < ((wrS u).size : Int) := by omega
      go_wp2_with fail
      go_ret
      exact ⟨by rw [HR.out]; rfl, hB2⟩
    have hlz : decide ((500 : Int) < ((wrS u).size : Int)) = false := decide_eq_false (by omega)
    have HRT := hide (rt_is HBY.out hlen)
    cases ha : u.abs
    · rw [ha] at c0
      by_cases hst : ∃ (a b : Int), ixI 58 u.path.data.toList = a ∧ ixI 47 u.path.data.toList = b ∧ (0 ≤ a ∧ (b < 0 ∨ a < b)) ∧ startB u.path.data.toList = false
      · obtain ⟨a, b, ea, eb, ⟨h0, h1⟩, hsb⟩ := hst
        have HR : Hid (rtU u = false) := by unfold Hid; rw [HRT.out]; unfold placeB; rw [ha, hsb]; simp
        have EA := hide ea
        have EB := hide eb
        clear ea eb hsb
        go_wp2_with fail
        refine (find_is u.path 58 58 _ rfl EA.out _ (by omega)).mono ?_
        rintro e w1 ⟨rfl, hw1⟩
        subst hw1
        go_wp2_with fail
        refine (find_is u.path 47 47 _ rfl EB.out _ (by omega)).mono ?_
        rintro e w1 ⟨rfl, hw1⟩
        subst hw1
        rcases h1 with h1 | h1
        · go_wp2_with fail
          go_ret
          exact ⟨by rw [HR.out]; rfl, hB2⟩
        · by_cases h2 : b < 0
          · go_wp2_with fail
            go_ret
            exact ⟨by rw [HR.out]; rfl, hB2⟩
          · have h2d : decide (b < 0) = false := decide_eq_false h2
            go_wp2_with fail
            go_ret
            exact ⟨by rw [HR.out]; rfl, hB2⟩
      · obtain ⟨a, b, EA, EB, hno, HST⟩ := start_rest hst
        clear hst
        go_wp2_with fail
        refine (find_is u.path 58 58 _ rfl EA.out _ (by omega)).mono ?_
        rintro e w1 ⟨rfl, hw1⟩
        subst hw1
        go_wp2_with fail
        refine (find_is u.path 47 47 _ rfl EB.out _ (by omega)).mono ?_
        rintro e w1 ⟨rfl, hw1⟩
        subst hw1
        by_cases hh0 : u.host.data.toList = []
        · have heh := empty_of hh0
          have HH : Hid (u.host.data.toList.isEmpty = true) := by unfold Hid; rw [hh0]; rfl
          clear hh0
          by_cases hz : u.port = 0
          · obtain ⟨p2, hp2⟩ : ∃ p2, pre [47, 47] u.path.data.toList = p2 := ⟨_, rfl⟩
            have HR : Hid (rtU u = !p2) := by unfold Hid; rw [HRT.out]; unfold placeB; rw [ha, HH.out, HST.out, hp2, hz]; rfl
            have HP := hide hp2
            rw [hz] at c2
            clear hp2
            rcases hno with hno | ⟨hno, hb0, hab⟩
            · have hnd : decide (0 ≤ a) = false := decide_eq_false (by omega)
              go_wp2_with fail
              refine (beg_any u.path ⟨#[47, 47]⟩ _ HP.out _ (by omega) (by decide)).mono ?_
              rintro e w1 ⟨rfl, hw1⟩
              subst hw1
              go_wp2_with fail
              go_ret
              exact ⟨by rw [HR.out]; rfl, hB2⟩
            · have hnd : decide (b < 0) = false := decide_eq_false (by omega)
              have hnc : decide (a < b) = false := decide_eq_false (by omega)
              go_wp2_with fail
              refine (beg_any u.path ⟨#[47, 47]⟩ _ HP.out _ (by omega) (by decide)).mono ?_
              rintro e w1 ⟨rfl, hw1⟩
              subst hw1
              go_wp2_with fail
              go_ret
              exact ⟨by rw [HR.out]; rfl, hB2⟩
          · have HR : Hid (rtU u = false) := by unfold Hid; rw [HRT.out]; unfold placeB; rw [ha, decide_eq_false hz]; simp
            have hzb : (u.port == 0) = false := by rw [beq_eq_false_iff_ne]; exact hz
            rcases hno with hno | ⟨hno, hb0, hab⟩
            · have hnd : decide (0 ≤ a) = false := decide_eq_false (by omega)
              go_wp2_with fail
              go_ret
              exact ⟨by rw [HR.out]; rfl, hB2⟩
            · have hnd : decide (b < 0) = false := decide_eq_false (by omega)
              have hnc : decide (a < b) = false := decide_eq_false (by omega)
              go_wp2_with fail
              go_ret
              exact ⟨by rw [HR.out]; rfl, hB2⟩
        · have heh := empty_not hh0
          have HR : Hid (rtU u = false) := by
            unfold Hid; rw [HRT.out]; unfold placeB; rw [ha, show u.host.data.toList.isEmpty = false by simpa using hh0]; simp
          clear hh0
          rcases hno with hno | ⟨hno, hb0, hab⟩
          · have hnd : decide (0 ≤ a) = false := decide_eq_false (by omega)
            go_wp2_with fail
            go_ret
            exact ⟨by rw [HR.out]; rfl, hB2⟩
          · have hnd : decide (b < 0) = false := decide_eq_false (by omega)
            have hnc : decide (a < b) = false := decide_eq_false (by omega)
            go_wp2_with fail
            go_ret
            exact ⟨by rw [HR.out]; rfl, hB2⟩
    · rw [ha] at c0
      cases hok : hostOk u.host.data.toList
      · have HR : Hid (rtU u = false) := by unfold Hid; rw [HRT.out]; unfold placeB; rw [ha, hok]; simp
        have HK := hide hok
        clear hok
        go_wp2_with fail
        refine (refhost_any u.host _ (by omega)).mono ?_
        rintro e w1 ⟨rfl, hw1⟩
        subst hw1
        rw [HK.out]
        go_wp2_with fail
        go_ret
        exact ⟨by rw [HR.out]; rfl, hB2⟩
      · obtain ⟨p2, hp2⟩ : ∃ p2, pre [47] u.path.data.toList = p2 := ⟨_, rfl⟩
        have HR : Hid (rtU u = p2) := by unfold Hid; rw [HRT.out]; unfold placeB; rw [ha, hok, hp2, decide_eq_true (show 0 ≤ u.port by omega), decide_eq_true (show u.port ≤ 65535 by omega)]; simp
        have HK := hide hok
        have HP := hide hp2
        clear hok hp2
        go_wp2_with fail
        refine (refhost_any u.host _ (by omega)).mono ?_
        rintro e w1 ⟨rfl, hw1⟩
        subst hw1
        rw [HK.out]
        go_wp2_with fail
        refine (beg_any u.path ⟨#[47]⟩ _ HP.out _ (by omega) (by decide)).mono ?_
        rintro e w1 ⟨rfl, hw1⟩
        subst hw1
        go_wp2_with fail
        go_ret
        exact ⟨by rw [HR.out]; rfl, hB2⟩

end Go.Proofs.YtjegoceebdiaaaaDoor
