/- What stands behind a head that is known: by plain reckoning, and by the heads of all lengths from 1 to 1009. -/
import Derived.Test.YtmpijlaidnhpnaaGreatJXr
namespace Go.Proofs.YtmpijlaidnhpnaaGreat
set_option linter.unusedVariables false
set_option linter.unusedSimpArgs false
set_option maxRecDepth 100000
open Go.RowKit

theorem part_rest {r : Rr} (hi : r.i = true) (hk : r.k = 3) (h : r.m.b.length + r.buf.length ≤ 20000) : part r = (false, { r with m := r.m.more r.buf, buf := [] }, []) := by
  rw [part_in hi]
  unfold partB
  rw [if_neg (by rw [hk]; decide), if_neg (by rw [hk]; decide), if_pos hk, if_neg (by omega)]
theorem part_few {r : Rr} (hi : r.i = true) (hk : r.k = 1) (h : (r.m.b.length + r.buf.length : Int) < r.z) : part r = (false, { r with m := r.m.more r.buf, buf := [] }, []) := by
  have hc : cnt r = r.buf.length := by unfold cnt; omega
  rw [part_in hi]
  unfold partB
  rw [if_pos hk, hc, if_neg (by omega), List.take_length, List.drop_length]

/-- An answer that says nothing of its body. -/
def opL : List UInt8 := [72, 84, 84, 80, 47, 49, 46, 48, 32, 50, 48, 48, 32, 79, 75, 13, 10, 13, 10]
def opR (b : List UInt8) : Rr := ⟨false, ⟨#[71, 69, 84]⟩, [], true, ⟨⟨⟨#[]⟩, ⟨#[]⟩, 200, ⟨#[79, 75]⟩, 0⟩, [], b⟩, 3, 0, Ck.k0, 0⟩
theorem op_fd : fdG (fresh false ⟨#[71, 69, 84]⟩ []) opL = (opR [], []) := by kernel_rfl
theorem rg_fresh (a : Bool) (t : ByteArray) : rgB (fresh a t []) = true := rg_wait ⟨mid_fresh _ _ _, fun _ => Nat.zero_le _, fun h => nope h⟩
theorem op_all {b : List UInt8} (h : b.length ≤ 1000) : fdG (fresh false ⟨#[71, 69, 84]⟩ []) (opL ++ b) = (opR b, []) := by
  have e : part ((opR []).app b) = (false, opR b, []) := part_rest (r := (opR []).app b) rfl rfl (by show 0 + ([] ++ b : List UInt8).length ≤ 20000; simp; omega)
  have g : go ((opR []).app b) = (opR b, []) := by rw [go_end (by rw [e]), e]
  rw [fd_cut (rg_fresh _ _), op_fd]
  have : fdG (opR []) b = (opR b, []) := by unfold fdG; rw [if_neg (by decide), g]
  rw [this]; rfl
theorem op_right (b : List UInt8) (h : b.length ≤ 1000) : rgB (opR b) = true := by
  have := fd_right (rg_fresh false ⟨#[71, 69, 84]⟩) (opL ++ b)
  rwa [op_all h] at this

/-- A number's digits. -/
def dgF : Nat → Nat → List UInt8 → List UInt8
  | 0, _, a => a
  | f + 1, n, a => if n = 0 then a else dgF f (n / 10) (UInt8.ofNat (48 + n % 10) :: a)
def szL : List UInt8 := [72, 84, 84, 80, 47, 49, 46, 48, 32, 50, 48, 48, 32, 79, 75, 13, 10, 67, 111, 110, 116, 101, 110, 116, 45, 76, 101, 110, 103, 116, 104, 58, 32]
def szV (n : Nat) : Rr × List Ms → Bool
  | (⟨a, t, [], true, ⟨_, _, []⟩, 1, z, c, 0⟩, []) => decide (z = (n : Int))
  | _ => false
def szB (n : Nat) : Bool := szV n (fdG (fresh false ⟨#[71, 69, 84]⟩ []) (szL ++ dgF 5 n [] ++ [13, 10, 13, 10]))
theorem sz_have {n : Nat} {q : Rr × List Ms} (h : szV n q = true) : q.1.buf = [] ∧ q.1.i = true ∧ q.1.m.b = [] ∧ q.1.k = 1 ∧ q.1.z = n ∧ q.1.e = 0 ∧ q.2 = [] := by
  unfold szV at h
  split at h
  · exact ⟨rfl, rfl, rfl, rfl, of_decide_eq_true h, rfl, rfl⟩
  · exact absurd h (by decide)
def szP (k : Nat) : Bool := (List.range 100).all fun n => (n + k == 0) || szB (n + k)
theorem sz_0 : szP 0 = true := by kernel_rfl
theorem sz_1 : szP 100 = true := by kernel_rfl
theorem sz_2 : szP 200 = true := by kernel_rfl
theorem sz_3 : szP 300 = true := by kernel_rfl
theorem sz_4 : szP 400 = true := by kernel_rfl
theorem sz_5 : szP 500 = true := by kernel_rfl
theorem sz_6 : szP 600 = true := by kernel_rfl
theorem sz_7 : szP 700 = true := by kernel_rfl
theorem sz_8 : szP 800 = true := by kernel_rfl
theorem sz_9 : szP 900 = true := by kernel_rfl
theorem sz_10 : szP 1000 = true := by kernel_rfl
theorem sz_at {k n : Nat} (h : szP k = true) (h1 : k ≤ n) (h2 : n < k + 100) (h0 : n ≠ 0) : szB n = true := by
  have := List.all_eq_true.1 h (n - k) (List.mem_range.2 (by omega))
  rw [show n - k + k = n by omega, Bool.or_eq_true] at this
  rcases this with g | g
  · exact absurd (by simpa using g) h0
  · exact g
theorem sz_all {n : Nat} (h0 : n ≠ 0) (h : n < 1100) : szB n = true := by
  by_cases h1 : n < 100
  · exact sz_at sz_0 (by omega) (by omega) h0
  by_cases h2 : n < 200
  · exact sz_at sz_1 (by omega) (by omega) h0
  by_cases h3 : n < 300
  · exact sz_at sz_2 (by omega) (by omega) h0
  by_cases h4 : n < 400
  · exact sz_at sz_3 (by omega) (by omega) h0
  by_cases h5 : n < 500
  · exact sz_at sz_4 (by omega) (by omega) h0
  by_cases h6 : n < 600
  · exact sz_at sz_5 (by omega) (by omega) h0
  by_cases h7 : n < 700
  · exact sz_at sz_6 (by omega) (by omega) h0
  by_cases h8 : n < 800
  · exact sz_at sz_7 (by omega) (by omega) h0
  by_cases h9 : n < 900
  · exact sz_at sz_8 (by omega) (by omega) h0
  by_cases h10 : n < 1000
  · exact sz_at sz_9 (by omega) (by omega) h0
  by_cases h11 : n < 1100
  · exact sz_at sz_10 (by omega) (by omega) h0
  omega

end Go.Proofs.YtmpijlaidnhpnaaGreat
