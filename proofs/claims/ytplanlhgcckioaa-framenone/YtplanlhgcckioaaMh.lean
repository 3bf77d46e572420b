/- What one field more changes, by plain reckoning. -/
import Derived.Test.YtplanlhgcckioaaGf
import Derived.Test.YtplanlhgcckioaaWq
namespace Go.Proofs.Ytplanlhgcckioaa
set_option linter.unusedVariables false
set_option linter.unusedSimpArgs false
set_option maxRecDepth 100000
open Go.RowKit

def dlF (L : List Fd) : List Fd := delF tecS (delF lenS L)
theorem dl_le (L : List Fd) : (dlF L).length ≤ L.length := Nat.le_trans (del_le _ _) (del_le _ _)
theorem add_zero {L : List Fd} {f : Fd} (h : addE L f = 0) : rightF L = true ∧ mayF f = true ∧ L.length ≠ 40 ∧ addL L f = L ++ [f] := by
  cases hb : (rightF L && mayF f)
  · rw [(add_arg hb).1] at h; exact absurd h (by decide)
  · by_cases h4 : L.length = 40
    · rw [(add_many hb h4).1] at h; exact absurd h (by decide)
    · rw [Bool.and_eq_true] at hb
      exact ⟨hb.1, hb.2, h4, (add_okay (by rw [hb.1, hb.2]; rfl) h4).2⟩
theorem add_le (L : List Fd) (f : Fd) : (addL L f).length ≤ L.length + 1 := by
  unfold addL
  split
  · split
    · simp
    · simp
  · simp
theorem right_add {L : List Fd} {f : Fd} (h1 : rightF L = true) (h2 : mayF f = true) (h3 : L.length ≠ 40) : rightF (L ++ [f]) = true := by
  have h4 := small_le h1
  unfold rightF at h1 ⊢
  rw [Bool.and_eq_true] at h1
  rw [List.all_append, h1.2, List.length_append]
  simp [h2]
  omega
theorem dl_snoc (L : List Fd) (f : Fd) : dlF (L ++ [f]) = dlF L ++ (if nm lenS f then [] else if nm tecS f then [] else [f]) := by
  unfold dlF
  rw [del_snoc]
  cases h1 : nm lenS f
  · rw [if_neg (by decide), del_snoc]
    cases h2 : nm tecS f <;> simp
  · simp
theorem dl_same {L : List Fd} {f : Fd} (h : ((L ++ [f]).length : Int) - ((dlF (L ++ [f])).length : Int) = (L.length : Int) - ((dlF L).length : Int)) : nm lenS f = false ∧ nm tecS f = false := by
  rw [dl_snoc, List.length_append, List.length_append] at h
  cases h1 : nm lenS f
  · cases h2 : nm tecS f
    · exact ⟨rfl, rfl⟩
    · rw [h1, h2] at h; simp at h; omega
  · rw [h1] at h; simp at h; omega
theorem say_more {n : Int} {L : List Fd} {f : Fd} (h1 : nm lenS f = false) (h2 : nm tecS f = false) : sayF n (L ++ [f]) = sayF n L := by
  unfold sayF
  rw [all_snoc, all_snoc, h1, h2]
  simp
theorem add_sh {L : List Fd} {f : Fd} (h : Sh L) (h1 : f.1.size ≤ 10000) (h2 : f.2.size ≤ 10000) : Sh (addL L f) := by
  unfold addL
  split
  · split
    · intro x hx; cases hx
    · intro x hx
      rcases List.mem_append.1 hx with hx | hx
      · exact h x hx
      · obtain rfl : x = f := by simpa using hx
        exact ⟨h1, h2⟩
  · intro x hx; cases hx

def hdS : ByteArray := ⟨#[72, 69, 65, 68]⟩
def gtS : ByteArray := ⟨#[71, 69, 84]⟩
theorem hd_is : (hdS.toList == hdL) = true := by decide +kernel
theorem gt_is : (gtS.toList == hdL) = false := by decide +kernel
/-- Whether an answer of this first line and this row may be asked. -/
def okA (s : St) (L : List Fd) : Bool := rtB s && rightF L && !decide (s.c = 0)
theorem ans_no {s : St} {L : List Fd} (m : ByteArray) (h : okA s L = false) : ansF s L m = (0, 0, 1) := by
  unfold ansF okA at *; rw [h]; rfl
theorem ans_hd {s : St} {L : List Fd} (h : okA s L = true) : ansF s L hdS = (0, 0, 0) := by
  unfold ansF okA at *; rw [h, hd_is]; simp
theorem ans_bar {s : St} {L : List Fd} (m : ByteArray) (h : okA s L = true) (g : bareB s.c = true) : ansF s L m = (0, 0, 0) := by
  unfold ansF okA at *; rw [h, g]; simp
theorem ans_more {s : St} {L : List Fd} {f : Fd} (m : ByteArray) (h : okA s L = true) (h2 : mayF f = true) (h3 : L.length ≠ 40) (g1 : nm lenS f = false) (g2 : nm tecS f = false) : ansF s (L ++ [f]) m = ansF s L m := by
  unfold okA at h
  rw [Bool.and_eq_true, Bool.and_eq_true] at h
  unfold ansF
  rw [right_add h.1.2 h2 h3, h.1.2, say_more g1 g2]
theorem bare_204 : bareB 204 = true := by decide
theorem bare_304 : bareB 304 = true := by decide

end Go.Proofs.Ytplanlhgcckioaa
