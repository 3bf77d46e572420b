/- Numbers as digits, by plain arithmetic: nothing of the program in it, and no condition beside each theorem's own. -/
import Derived.Test.YtplanlhgcckioaaDoorMa
import Derived.Lib.ItoaNum
namespace Go.Proofs.YtplanlhgcckioaaDoor
set_option linter.unusedVariables false
set_option linter.unusedSimpArgs false

/-- What a byte is worth as a digit; 16: none. -/
def vl (c : UInt8) : Nat :=
  if 48 ≤ c.toNat ∧ c.toNat ≤ 57 then c.toNat - 48
  else if 97 ≤ c.toNat ∧ c.toNat ≤ 102 then c.toNat - 87
  else if 65 ≤ c.toNat ∧ c.toNat ≤ 70 then c.toNat - 55
  else 16

theorem vl_le (c : UInt8) : vl c ≤ 16 := by unfold vl; split <;> (try split) <;> (try split) <;> omega

/-- The number of a row of digits. -/
def val (b : Nat) (l : List UInt8) : Nat := l.foldl (fun n c => n * b + vl c) 0

theorem val_nil (b : Nat) : val b [] = 0 := rfl
theorem val_snoc (b : Nat) (l : List UInt8) (c : UInt8) : val b (l ++ [c]) = val b l * b + vl c := by simp [val, List.foldl_append]

/-- Whether all bytes are digits. -/
def okay (b : Nat) (l : List UInt8) : Bool := l.all fun c => decide (vl c < b)

theorem okay_snoc (b : Nat) (l : List UInt8) (c : UInt8) : okay b (l ++ [c]) = (okay b l && decide (vl c < b)) := by simp [okay]
theorem okay_append (b : Nat) (l m : List UInt8) : okay b (l ++ m) = (okay b l && okay b m) := by simp [okay]

/-- The error of reading. -/
def rdE (b : Nat) (l : List UInt8) : Nat :=
  if l = [] ∨ okay b l = false then 10 else if 1099511627776 < val b l then 2 else 0
/-- The number read. -/
def rdN (b : Nat) (l : List UInt8) : Nat :=
  if l = [] ∨ okay b l = false then 0 else if 1099511627776 < val b l then 0 else val b l

theorem rdN_le (b : Nat) (l : List UInt8) : rdN b l ≤ 1099511627776 := by
  unfold rdN; split; omega; split <;> omega

theorem rdE_bad {b : Nat} {l : List UInt8} (h : l = [] ∨ okay b l = false) : rdE b l = 10 := by rw [rdE, if_pos h]
theorem rdN_bad {b : Nat} {l : List UInt8} (h : l = [] ∨ okay b l = false) : rdN b l = 0 := by rw [rdN, if_pos h]
theorem rdE_long {b : Nat} {l : List UInt8} (h0 : l ≠ []) (h1 : okay b l = true) (h : 1099511627776 < val b l) : rdE b l = 2 := by
  rw [rdE, if_neg (by simp [h0, h1]), if_pos h]
theorem rdN_long {b : Nat} {l : List UInt8} (h : 1099511627776 < val b l) : rdN b l = 0 := by
  unfold rdN; split
  · rfl
  · rfl
theorem rdE_fine {b : Nat} {l : List UInt8} (h0 : l ≠ []) (h1 : okay b l = true) (h : ¬ 1099511627776 < val b l) : rdE b l = 0 := by
  rw [rdE, if_neg (by simp [h0, h1]), if_neg h]
theorem rdN_fine {b : Nat} {l : List UInt8} (h0 : l ≠ []) (h1 : okay b l = true) (h : ¬ 1099511627776 < val b l) : rdN b l = val b l := by
  rw [rdN, if_neg (by simp [h0, h1]), if_neg h]

/-- More digits make no smaller number. -/
theorem val_grows (b : Nat) (hb : 1 ≤ b) (l m : List UInt8) : val b l ≤ val b (l ++ m) := by
  induction m generalizing l with
  | nil => simp
  | cons c m ih =>
    have h1 : val b l ≤ val b (l ++ [c]) := by
      rw [val_snoc]
      have h0 : val b l * 1 ≤ val b l * b := Nat.mul_le_mul_left _ hb
      omega
    have h2 := ih (l ++ [c])
    simp only [List.append_assoc, List.singleton_append] at h2
    omega

/-- The number, held just above the limit. -/
def cap (b : Nat) (l : List UInt8) : Nat := min (val b l) 1099511627777

theorem cap_nil (b : Nat) : cap b [] = 0 := by simp [cap, val_nil]
theorem cap_le (b : Nat) (l : List UInt8) : cap b l ≤ 1099511627777 := by unfold cap; omega
theorem cap_snoc (b : Nat) (hb : 1 ≤ b) (l : List UInt8) (c : UInt8) : cap b (l ++ [c]) = min (cap b l * b + vl c) 1099511627777 := by
  unfold cap
  rw [val_snoc]
  by_cases h : val b l ≤ 1099511627777
  · rw [Nat.min_eq_left h]
  · have h1 : min (val b l) 1099511627777 = 1099511627777 := by omega
    rw [h1]
    have h2 : 1099511627777 * 1 ≤ 1099511627777 * b := Nat.mul_le_mul_left _ hb
    have h3 : val b l * 1 ≤ val b l * b := Nat.mul_le_mul_left _ hb
    omega
theorem cap_gt (b : Nat) (l : List UInt8) : 1099511627776 < cap b l ↔ 1099511627776 < val b l := by unfold cap; omega
theorem cap_eq (b : Nat) (l : List UInt8) (h : ¬ 1099511627776 < val b l) : cap b l = val b l := by unfold cap; omega

theorem okay_take_false {b : Nat} {l : List UInt8} {k : Nat} (h : okay b (l.take k) = false) : okay b l = false := by
  rw [← List.take_append_drop k l, okay_append, h]; rfl

theorem okay_at_false {b : Nat} {l : List UInt8} {k : Nat} (hk : k < l.length) (h : ¬ vl l[k] < b) : okay b l = false := by
  apply okay_take_false (k := k + 1)
  rw [List.take_succ_eq_append_getElem hk, okay_snoc]; simp [h]

theorem okay_at {b : Nat} {l : List UInt8} (h : okay b l = true) (k : Nat) (hk : k < l.length) : vl l[k] < b := by
  unfold okay at h
  simpa using List.all_eq_true.1 h l[k] (List.getElem_mem hk)

theorem okay_take {b : Nat} {l : List UInt8} (h : okay b l = true) (k : Nat) : okay b (l.take k) = true := by
  cases hh : okay b (l.take k) with
  | true => rfl
  | false => rw [okay_take_false hh] at h; exact h

/- With a sign -/

def sgE (l : List UInt8) : Nat := if l.head? = some 45 then rdE 10 (l.drop 1) else rdE 10 l
def sgN (l : List UInt8) : Int := if l.head? = some 45 then -(rdN 10 (l.drop 1) : Int) else (rdN 10 l : Int)

/- Digits of a number -/

/-- The byte of a digit. -/
def hx (d : Nat) : UInt8 := if d < 10 then UInt8.ofNat (48 + d) else UInt8.ofNat (87 + d)

theorem vl_hx_fin : ∀ d : Fin 16, vl (hx d.val) = d.val := by decide +kernel
theorem vl_hx {d : Nat} (h : d < 16) : vl (hx d) = d := vl_hx_fin ⟨d, h⟩

/-- The digits of u, at most f + 1 of them. -/
def dgsF (b : Nat) : Nat → Nat → List UInt8
  | 0, u => [hx u]
  | f + 1, u => if u < b then [hx u] else dgsF b f (u / b) ++ [hx (u % b)]

/-- Where there are enough, it does not matter how many there may be. -/
theorem dgsF_same {b : Nat} (hb : 2 ≤ b) : ∀ (f g u : Nat), u ≤ f → u ≤ g → dgsF b f u = dgsF b g u
  | 0, 0, u, _, _ => rfl
  | 0, g + 1, u, h, _ => by
    obtain rfl : u = 0 := by omega
    rw [dgsF, dgsF, if_pos (by omega)]
  | f + 1, 0, u, _, h => by
    obtain rfl : u = 0 := by omega
    rw [dgsF, dgsF, if_pos (by omega)]
  | f + 1, g + 1, u, h1, h2 => by
    rw [dgsF, dgsF]
    by_cases h : u < b
    · rw [if_pos h, if_pos h]
    · have hd : u / b < u := Nat.div_lt_self (by omega) (by omega)
      rw [if_neg h, if_neg h, dgsF_same hb f g (u / b) (by omega) (by omega)]

/-- The digits of u in a base of 2 to 16. -/
def dgs (b : Nat) (_ : 2 ≤ b) (u : Nat) : List UInt8 := dgsF b u u

theorem dgs_small {b : Nat} (hb : 2 ≤ b) {u : Nat} (h : u < b) : dgs b hb u = [hx u] := by
  unfold dgs
  cases u with
  | zero => rfl
  | succ u => rw [dgsF, if_pos h]
theorem dgs_big {b : Nat} (hb : 2 ≤ b) {u : Nat} (h : ¬ u < b) : dgs b hb u = dgs b hb (u / b) ++ [hx (u % b)] := by
  have hd : u / b < u := Nat.div_lt_self (by omega) (by omega)
  unfold dgs
  cases u with
  | zero => omega
  | succ u => rw [dgsF, if_neg h, dgsF_same hb u ((u + 1) / b) ((u + 1) / b) (by omega) (Nat.le_refl _)]

theorem dgs_ne_nil {b : Nat} (hb : 2 ≤ b) (u : Nat) : dgs b hb u ≠ [] := by
  by_cases h : u < b
  · rw [dgs_small hb h]; simp
  · rw [dgs_big hb h]; simp

theorem dgs_okay {b : Nat} (hb : 2 ≤ b) (h16 : b ≤ 16) (u : Nat) : okay b (dgs b hb u) = true := by
  induction u using Nat.strongRecOn with
  | _ u ih =>
    by_cases h : u < b
    · rw [dgs_small hb h]; simp [okay, vl_hx (show u < 16 by omega), h]
    · have hm : u % b < b := Nat.mod_lt _ (by omega)
      rw [dgs_big hb h, okay_snoc, ih _ (Nat.div_lt_self (by omega) (by omega)), vl_hx (show u % b < 16 by omega)]
      simp [hm]

/-- Behind whatever stands ahead, digits are read as the number that they are of. -/
theorem val_dgs {b : Nat} (hb : 2 ≤ b) (h16 : b ≤ 16) (l : List UInt8) (hl : val b l = 0) (u : Nat) : val b (l ++ dgs b hb u) = u := by
  induction u using Nat.strongRecOn with
  | _ u ih =>
    by_cases h : u < b
    · rw [dgs_small hb h, val_snoc, hl, vl_hx (by omega)]; omega
    · have hm : u % b < b := Nat.mod_lt _ (by omega)
      rw [dgs_big hb h, ← List.append_assoc, val_snoc, ih _ (Nat.div_lt_self (by omega) (by omega)), vl_hx (by omega)]
      have := Nat.div_add_mod u b
      rw [Nat.mul_comm] at this
      exact this

theorem dgs_length_le {b : Nat} (hb : 2 ≤ b) (u v : Nat) (h : u ≤ v) : (dgs b hb u).length ≤ (dgs b hb v).length := by
  induction v using Nat.strongRecOn generalizing u with
  | _ v ih =>
    by_cases hv : v < b
    · rw [dgs_small hb hv, dgs_small hb (by omega)]; simp
    · by_cases hu : u < b
      · rw [dgs_small hb hu, dgs_big hb hv]; simp
      · rw [dgs_big hb hu, dgs_big hb hv]
        have := ih (v / b) (Nat.div_lt_self (by omega) (by omega)) (u / b) (Nat.div_le_div_right h)
        simp; exact this

/-- A greater base takes no more digits. -/
theorem dgs_base_le (u v : Nat) (h : u ≤ v) : (dgs 16 (by omega) u).length ≤ (dgs 10 (by omega) v).length := by
  induction v using Nat.strongRecOn generalizing u with
  | _ v ih =>
    by_cases hv : v < 10
    · rw [dgs_small _ hv, dgs_small _ (by omega)]; simp
    · by_cases hu : u < 16
      · rw [dgs_small _ hu, dgs_big _ hv]; simp
      · rw [dgs_big _ hu, dgs_big _ hv]
        have := ih (v / 10) (by omega) (u / 16) (by omega)
        simp; exact this

theorem dgs_length_lt {b : Nat} (hb : 2 ≤ b) (k u : Nat) (h : u < b ^ (k + 1)) : (dgs b hb u).length ≤ k + 1 := by
  induction k generalizing u with
  | zero => rw [dgs_small hb (by simpa using h)]; simp
  | succ k ih =>
    by_cases hu : u < b
    · rw [dgs_small hb hu]; simp
    · rw [dgs_big hb hu]
      have := ih (u / b) (Nat.div_lt_of_lt_mul (by rw [Nat.mul_comm, ← Nat.pow_succ]; exact h))
      simp; exact this

theorem dgs_dec (u : Nat) : Lib.decDigits u = dgs 10 (by omega) u := by
  induction u using Nat.strongRecOn with
  | _ u ih =>
    by_cases h : u < 10
    · rw [dgs_small _ h, Lib.decDigits_one h]; simp [hx, h]
    · rw [dgs_big _ h, Lib.decDigits, dif_neg h, ih _ (by omega)]
      have : u % 10 < 10 := by omega
      simp [hx, this]

/- Zeros ahead -/

theorem val_zeros (b z : Nat) : val b (List.replicate z 48) = 0 := by
  induction z with
  | zero => rfl
  | succ z ih => rw [List.replicate_succ', val_snoc, ih]; simp [vl]

theorem okay_zeros (b z : Nat) (hb : 1 ≤ b) : okay b (List.replicate z 48) = true := by
  simp [okay, vl]; omega

theorem backN (b : Nat) (hb : 2 ≤ b) (h16 : b ≤ 16) (z u : Nat) :
    rdE b (List.replicate z 48 ++ dgs b hb u) = (if 1099511627776 < u then 2 else 0) ∧ rdN b (List.replicate z 48 ++ dgs b hb u) = (if 1099511627776 < u then 0 else u) := by
  have hv := val_dgs hb h16 _ (val_zeros b z) u
  have ho : okay b (List.replicate z 48 ++ dgs b hb u) = true := by rw [okay_append, okay_zeros b z (by omega), dgs_okay hb h16]; rfl
  have hn : List.replicate z 48 ++ dgs b hb u ≠ [] := by simp [dgs_ne_nil]
  by_cases h : 1099511627776 < u
  · rw [if_pos h, if_pos h]
    exact ⟨rdE_long hn ho (by rw [hv]; exact h), rdN_long (by rw [hv]; exact h)⟩
  · rw [if_neg h, if_neg h]
    exact ⟨rdE_fine hn ho (by rw [hv]; exact h), by rw [rdN_fine hn ho (by rw [hv]; exact h), hv]⟩

theorem odd_read (b : Nat) (l m : List UInt8) (c : UInt8) (h : ¬ vl c < b) : rdE b (l ++ [c] ++ m) = 10 ∧ rdN b (l ++ [c] ++ m) = 0 := by
  have ho : okay b (l ++ [c] ++ m) = false := by rw [okay_append, okay_snoc]; simp [h]
  exact ⟨rdE_bad (Or.inr ho), rdN_bad (Or.inr ho)⟩

theorem vl_dec (c : UInt8) : vl c < 10 ↔ 48 ≤ c.toNat ∧ c.toNat ≤ 57 := by
  unfold vl; split <;> (try split) <;> (try split) <;> omega

theorem odd_signed (l m : List UInt8) (c : UInt8) (h : ¬ (48 ≤ c.toNat ∧ c.toNat ≤ 57)) (h45 : c ≠ 45) (hl : okay 10 l = true) : sgE (l ++ [c] ++ m) = 10 ∧ sgN (l ++ [c] ++ m) = 0 := by
  have hr := odd_read 10 l m c (by rw [vl_dec]; exact h)
  have hh : (l ++ [c] ++ m).head? ≠ some 45 := by
    cases l with
    | nil => simp [h45]
    | cons x l =>
      have : vl x < 10 := by simp [okay] at hl; exact hl.1
      rw [vl_dec] at this
      simp
      intro e; subst e; simp at this
  unfold sgE sgN
  rw [if_neg hh, if_neg hh, hr.1, hr.2]
  exact ⟨rfl, rfl⟩

/- Great letters -/

def up (c : UInt8) : UInt8 := if 97 ≤ c.toNat ∧ c.toNat ≤ 102 then c - 32 else c

theorem vl_up_fin : ∀ c : Fin 256, vl (up (UInt8.ofNat c.val)) = vl (UInt8.ofNat c.val) := by decide +kernel
theorem vl_up (c : UInt8) : vl (up c) = vl c := by
  have := vl_up_fin ⟨c.toNat, c.toNat_lt⟩
  simpa using this

theorem rd_up (b : Nat) (l : List UInt8) : rdE b (l.map up) = rdE b l ∧ rdN b (l.map up) = rdN b l := by
  have h1 : okay b (l.map up) = okay b l := by unfold okay; rw [List.all_map]; congr 1; funext c; simp [vl_up]
  have h2 : val b (l.map up) = val b l := by unfold val; rw [List.foldl_map]; congr 1; funext n c; rw [vl_up]
  unfold rdE rdN
  simp only [h1, h2, List.map_eq_nil_iff]
  exact ⟨trivial, trivial⟩

end Go.Proofs.YtplanlhgcckioaaDoor
