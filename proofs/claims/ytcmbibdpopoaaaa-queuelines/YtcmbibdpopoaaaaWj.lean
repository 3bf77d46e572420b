/- The walk of QueueLines. -/
import Derived.Test.YtcmbibdpopoaaaaWe
import Derived.Test.YtcmbibdpopoaaaaWh
import Derived.Deep.LoopGhost
namespace Go.Proofs.Ytcmbibdpopoaaaa
set_option linter.unusedVariables false
set_option linter.unusedSimpArgs false
open Go.RowKit

/-- What a line is, of a queue that has one. -/
theorem noCr_cases (b : ByteArray) (j : Nat) (hj : j ≤ b.size) :
    (noCr (b.extract 0 j) = b.extract 0 j) ∨ (0 < j ∧ noCr (b.extract 0 j) = b.extract 0 (j - 1) ∧ ∀ h : j - 1 < b.size, b[j - 1] = 13) := by
  have hsz : (b.extract 0 j).size = j := by simp; omega
  cases h : endsCr (b.extract 0 j)
  · exact .inl (by simp [noCr, h])
  · refine .inr ?_
    have h0 : 0 < (b.extract 0 j).size := by
      rcases Nat.eq_zero_or_pos (b.extract 0 j).size with e | e
      · simp [endsCr, e] at h
      · exact e
    rw [endsCr_eq _ h0] at h
    refine ⟨by omega, ?_, fun h1 => ?_⟩
    · have : noCr (b.extract 0 j) = (b.extract 0 j).extract 0 ((b.extract 0 j).size - 1) := by
        simp only [noCr]
        rw [endsCr_eq _ h0, h, if_pos rfl]
      rw [this, hsz, ByteArray.extract_extract]
      congr 1
      omega
    · have h' := eq_of_beq h
      have e : (b.extract 0 j)[(b.extract 0 j).size - 1] = b[j - 1] := by
        rw [ByteArray.getElem_extract]
        congr 1
        omega
      rw [← e]
      exact h'

/-- Block N may be written. -/
def F2 (w : World) (N : Nat) : Prop := ∀ o, w.frozen? ⟨N, o, none⟩ = false

theorem F2.below {w w' : World} {N : Nat} (h : F2 w N) (hN : N < w.heap.size) (hb : Below w.heap.size w w') : F2 w' N := fun o => (hb.frozen (p := ⟨N, o, none⟩) hN).trans (h o)

theorem put_back {w w2 : World} {N : Nat} {b X : ByteArray} {c d : Int} {o : Obj} (hN : w.heap.size ≤ N) (hB : Below w.heap.size w w2) (hQ : Q2 w2 N b c) (hF : F2 w2 N) :
    Below w.heap.size w (((w2.setCell ⟨N, 0, none⟩ (.string X)).setCell ⟨N, 1, none⟩ (.int .i64 d)).alloc o) ∧
    F2 (((w2.setCell ⟨N, 0, none⟩ (.string X)).setCell ⟨N, 1, none⟩ (.int .i64 d)).alloc o) N ∧
    Q2 (((w2.setCell ⟨N, 0, none⟩ (.string X)).setCell ⟨N, 1, none⟩ (.int .i64 d)).alloc o) N X d := by
  obtain ⟨h0, h1, hz⟩ := hQ
  have hz' : N < ((w2.setCell ⟨N, 0, none⟩ (.string X)).setCell ⟨N, 1, none⟩ (.int .i64 d)).heap.size := by simpa using hz
  have hBB : Below ((w2.setCell ⟨N, 0, none⟩ (.string X)).setCell ⟨N, 1, none⟩ (.int .i64 d)).heap.size ((w2.setCell ⟨N, 0, none⟩ (.string X)).setCell ⟨N, 1, none⟩ (.int .i64 d)) (((w2.setCell ⟨N, 0, none⟩ (.string X)).setCell ⟨N, 1, none⟩ (.int .i64 d)).alloc o) := (Below.refl _ _).alloc (Nat.le_refl _) o
  have hq : Q2 ((w2.setCell ⟨N, 0, none⟩ (.string X)).setCell ⟨N, 1, none⟩ (.int .i64 d)) N X d := ⟨(setq h0 h1).1, (setq h0 h1).2, hz'⟩
  have hf : F2 ((w2.setCell ⟨N, 0, none⟩ (.string X)).setCell ⟨N, 1, none⟩ (.int .i64 d)) N := fun o => by
    rw [World.frozen?_setCell, World.frozen?_setCell]; exact hF o
  have hb : Below w.heap.size w ((w2.setCell ⟨N, 0, none⟩ (.string X)).setCell ⟨N, 1, none⟩ (.int .i64 d)) := (hB.setCell hN _).setCell hN _
  exact ⟨hb.trans (hBB.mono hb.size), hf.below hz' hBB, hq.below hBB⟩

theorem keep4 {W0 W w' : World} {N M : Nat} {v0 v1 u0 u1 : Value} (hb : Below W.heap.size W w')
    (h : Below W0.heap.size W0 W ∧ W.cell? ⟨N, 0, none⟩ = some v0 ∧ W.cell? ⟨N, 1, none⟩ = some v1 ∧ W.cell? ⟨M, 0, none⟩ = some u0 ∧ W.cell? ⟨M, 1, none⟩ = some u1)
    (hN : N < W0.heap.size) (hM : M < W0.heap.size) :
    Below W0.heap.size W0 w' ∧ w'.cell? ⟨N, 0, none⟩ = some v0 ∧ w'.cell? ⟨N, 1, none⟩ = some v1 ∧ w'.cell? ⟨M, 0, none⟩ = some u0 ∧ w'.cell? ⟨M, 1, none⟩ = some u1 := by
  obtain ⟨h1, h2, h3, h4, h5⟩ := h
  have hN' : N < W.heap.size := Nat.lt_of_lt_of_le hN h1.size
  have hM' : M < W.heap.size := Nat.lt_of_lt_of_le hM h1.size
  exact ⟨h1.trans (hb.mono h1.size), (hb.cell (p := ⟨N, 0, none⟩) hN').trans h2, (hb.cell (p := ⟨N, 1, none⟩) hN').trans h3, (hb.cell (p := ⟨M, 0, none⟩) hM').trans h4, (hb.cell (p := ⟨M, 1, none⟩) hM').trans h5⟩

set_option maxRecDepth 100000 in
set_option maxHeartbeats 1000000 in
theorem queueLines_walk (s : ByteArray) (w : World) (hs : s.size ≤ maxLen) :
    Calls Try.prog 6 #[.string s] w fun e w' => e = .returned (.bool true) ∧ Below w.heap.size w w' := by
  unfold maxLen at hs
  go_enter Try.func6, Try.ntmps6
  go_upto_region 1 with fail
  go_cut [0] (fun s1 wc => wc = w ∧ ∃ s' : ByteArray, s1 = .string s' ∧ s'.size ≤ 2000)
  case first =>
    go_wp2_with fail
    all_goals
      go_meet
      refine ⟨rfl, _, rfl, ?_⟩
      first | omega | (simp; omega)
  case rest =>
  obtain ⟨rfl, s', rfl, hs'⟩ := hcut
  clear hs
  have hs1 : (s'.size : Int) ≤ 2000 := by omega
  go_upto_region 5 with fail
  go_loopg [4, 18] (s'.size + 1) (fun k x y wr => ∃ a i : Nat, x = .int .i64 a ∧ y = .int .i64 i ∧ i ≤ a ∧ a ≤ s'.size ∧ k + i = s'.size + 1 ∧ Below wc.heap.size wc wr ∧ F2 wr wc.heap.size ∧ Q2 wr wc.heap.size (s'.extract a s'.size) 2000)
  case atStart =>
    refine ⟨0, 0, rfl, rfl, Nat.le_refl _, Nat.zero_le _, rfl, (Below.refl _ _).alloc (Nat.le_refl _) _, fun o => by go_simp, ?_⟩
    rw [ByteArray.extract_zero_size]
    exact Q2.new _ _ _
  case round =>
    obtain ⟨a, i, rfl, rfl, hia, has, hk, hB, hF, hQ⟩ := hrel
    have hcnt : (i : Int) < (s'.size : Int) + 1 := by omega
    obtain ⟨b, hb⟩ : ∃ b, b = s'.extract a s'.size := ⟨_, rfl⟩
    rw [← hb] at hQ
    have hbs : b.size = s'.size - a := by rw [hb]; simp
    have HB : Hid (b = s'.extract a s'.size) := hb
    have HBS : Hid (b.size = s'.size - a) := hbs
    have HR : Hid (rightB b.size 2000 = true) := by show rightB b.size 2000 = true; simp [rightB]; omega
    clear hb hbs
    obtain ⟨c0, c1, cz⟩ := id hQ
    by_cases hn : nl b < 0
    · have HN : Hid (nl b < 0) := hn
      clear hn
      go_wp2_with fail
      refine (line_short _ _ _ HR.out HN.out).mono ?_
      rintro e w2 ⟨rfl, hw2⟩
      have hB2 : Below wc.heap.size wc w2 := hB.trans (hw2.mono hB.size)
      have hQ2 := hQ.below hw2
      clear hw2
      go_wp2_with fail
      have hQ3 := hQ2.alloc (.cells #[.string b, .int .i64 2000] 23)
      have hP3 := Q2.new w2 b 2000
      have hB3 : Below wc.heap.size wc (w2.alloc (.cells #[.string b, .int .i64 2000] 23)) := hB2.alloc hB2.size _
      generalize w2.alloc (.cells #[.string b, .int .i64 2000] 23) = w3 at *
      generalize w2.heap.size = M at *
      obtain ⟨q0, q1, qz⟩ := id hQ3
      obtain ⟨p0, p1, pz⟩ := id hP3
      have hle : (a : Int) ≤ s'.size := by omega
      have hE := HB.out.symm
      go_region_held3 (fun w' => Below w3.heap.size w3 w' ∧ w'.cell? ⟨wc.heap.size, 0, none⟩ = some (.string b) ∧ w'.cell? ⟨wc.heap.size, 1, none⟩ = some (.int .i64 2000) ∧ w'.cell? ⟨M, 0, none⟩ = some (.string b) ∧ w'.cell? ⟨M, 1, none⟩ = some (.int .i64 2000))
        (first | exact ⟨(Below.refl _ _).drew, q0, q1, p0, p1⟩ | exact keep4 (by assumption) (by assumption) qz pz)
        (first | (go_at_call 13; refine (alive_any _).mono ?_; rintro e w' ⟨rfl, hw'⟩))
      rename_i hS
      go_wp2_with fail
      go_ret
      exact ⟨rfl, hB3.trans (hS.1.mono hB3.size)⟩
    · obtain ⟨j, hj⟩ : ∃ j : Nat, nl b = j := ⟨(nl b).toNat, by omega⟩
      have hjl : j < b.size := by have := nl_lt b; omega
      have h10 := (nl_some hj hjl).1
      have hcr := noCr_cases b j (by omega)
      have hE : ∀ m, m ≤ b.size → b.extract 0 m = s'.extract a (a + m) := by
        intro m hm
        rw [HB.out, ByteArray.extract_extract]
        have := HBS.out
        congr 1
        omega
      have hG : ∀ m (h : m < b.size) (h2 : a + m < s'.size), b[m] = s'[a + m] := by
        intro m h h2
        have e := HB.out
        subst e
        rw [ByteArray.getElem_extract]
      obtain ⟨l, hl⟩ : ∃ l, l = noCr (b.extract 0 j) := ⟨_, rfl⟩
      rw [← hl] at hcr
      have hbsz := HBS.out
      -- the line, and where it ends: at a byte 10, or at a byte 13 and a byte 10
      have hfact : s'.extract a (a + l.size) = l ∧ a + l.size < s'.size ∧ ((l.size = j ∧ ∀ h : a + l.size < s'.size, s'[a + l.size] = 10) ∨ (l.size + 1 = j ∧ a + l.size + 1 < s'.size ∧ (∀ h : a + l.size < s'.size, s'[a + l.size] = 13) ∧ ∀ h : a + l.size + 1 < s'.size, s'[a + l.size + 1] = 10)) := by
        rcases hcr with h | ⟨h0, h, h13⟩
        · have hsz : l.size = j := by rw [h]; simp; omega
          refine ⟨by rw [hsz, h, hE j (by omega)], by omega, .inl ⟨hsz, fun hh => ?_⟩⟩
          have e := hG j hjl (by omega)
          rw [h10] at e
          simp only [hsz]
          exact e.symm
        · have hsz : l.size + 1 = j := by rw [h]; simp; omega
          have hsz' : l.size = j - 1 := by omega
          refine ⟨by rw [hsz', h, hE (j - 1) (by omega)], by omega, .inr ⟨hsz, by omega, fun hh => ?_, fun hh => ?_⟩⟩
          · have e := hG (j - 1) (by omega) (by omega)
            rw [h13 (by omega)] at e
            simp only [hsz']
            exact e.symm
          · have e := hG j hjl (by omega)
            rw [h10] at e
            have e2 : a + l.size + 1 = a + j := by omega
            simp only [e2]
            exact e.symm
      obtain ⟨hext, hlt, hend⟩ := hfact
      have hP : b.extract (j + 1) b.size = s'.extract (a + (j + 1)) s'.size := by
        rw [HB.out, ByteArray.extract_extract]
        have := HBS.out
        rw [← HB.out, this]
        congr 1
        omega
      have HP : Hid (b.extract (j + 1) b.size = s'.extract (a + (j + 1)) s'.size) := hP
      have HE : Hid (s'.extract a (a + l.size) = l) := hext
      have HL : Hid (l = noCr (b.extract 0 j)) := hl
      have HJ : Hid (nl b = j) := hj
      clear hP hext hl hj hE hG hcr h10 hn
      have hlt1 : (a : Int) + (l.size : Int) < (s'.size : Int) := by omega
      rcases hend with ⟨hlj, hb10⟩ | ⟨hlj, hlt2, hb13, hb10⟩
      · have h10 := hb10 hlt
        have HLJ : Hid (l.size = j) := hlj
        clear hb10 hlj
        go_wp2_with fail
        refine (line_yes _ _ j _ HR.out HJ.out).mono ?_
        rintro e w2 ⟨rfl, hw2⟩
        rw [← HL.out, HP.out]
        have hB2 : Below wc.heap.size wc w2 := hB.trans (hw2.mono hB.size)
        have hQ2 := hQ.below hw2
        have hF2 := hF.below hQ.2.2 hw2
        clear hw2
        have hext := HE.out
        obtain ⟨d0, d1, dz⟩ := id hQ2
        have df : ∀ o, w2.frozen? ⟨wc.heap.size, o, none⟩ = false := hF2
        have dne : w2.heap.size ≠ wc.heap.size := by omega
        go_wp2_with fail
        go_roundg (gk - 1)
        case measure => omega
        case rel =>
          obtain ⟨k1, k2, k3⟩ := put_back (X := s'.extract (a + (j + 1)) s'.size) (d := 2000) (o := .cells #[.string (s'.extract (a + (j + 1)) s'.size), .int .i64 2000] 23) (Nat.le_refl _) hB2 hQ2 hF2
          exact ⟨a + (j + 1), i + 1, congrArg (Value.int .i64) (by have := HLJ.out; omega), congrArg (Value.int .i64) (by omega), by omega, by omega, by omega, k1, k2, k3⟩
      · have h13 := hb13 hlt
        have h10 := hb10 hlt2
        have HLJ : Hid (l.size + 1 = j) := hlj
        have hlt3 : (a : Int) + (l.size : Int) + 1 < (s'.size : Int) := by omega
        clear hb10 hb13 hlj
        go_wp2_with fail
        refine (line_yes _ _ j _ HR.out HJ.out).mono ?_
        rintro e w2 ⟨rfl, hw2⟩
        rw [← HL.out, HP.out]
        have hB2 : Below wc.heap.size wc w2 := hB.trans (hw2.mono hB.size)
        have hQ2 := hQ.below hw2
        have hF2 := hF.below hQ.2.2 hw2
        clear hw2
        have hext := HE.out
        obtain ⟨d0, d1, dz⟩ := id hQ2
        have df : ∀ o, w2.frozen? ⟨wc.heap.size, o, none⟩ = false := hF2
        have dne : w2.heap.size ≠ wc.heap.size := by omega
        go_wp2_with fail
        go_roundg (gk - 1)
        case measure => omega
        case rel =>
          obtain ⟨k1, k2, k3⟩ := put_back (X := s'.extract (a + (j + 1)) s'.size) (d := 2000) (o := .cells #[.string (s'.extract (a + (j + 1)) s'.size), .int .i64 2000] 23) (Nat.le_refl _) hB2 hQ2 hF2
          exact ⟨a + (j + 1), i + 1, congrArg (Value.int .i64) (by have := HLJ.out; omega), congrArg (Value.int .i64) (by omega), by omega, by omega, by omega, k1, k2, k3⟩

end Go.Proofs.Ytcmbibdpopoaaaa
