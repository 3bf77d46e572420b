/- The document's own Reason; the question whether anything answers. -/
import Derived.Test.YthpankelfhhjgaaDoorSg
namespace Go.Proofs.YthpankelfhhjgaaDoor
set_option linter.unusedVariables false
set_option linter.unusedSimpArgs false
open Go.RowKit

def cAt (k : Nat) : Int := (saidL.getD k (0, [])).1
def sAt (k : Nat) : ByteArray := ⟨(saidL.getD k (0, [])).2.toArray⟩
def codesA : Array Value := #[.int .i64 200, .int .i64 304, .int .i64 400, .int .i64 404, .int .i64 413, .int .i64 431, .int .i64 500, .int .i64 502, .int .i64 504]
def textsA : Array Value := #[.string ⟨#[79, 75]⟩, .string ⟨#[78, 111, 116, 32, 77, 111, 100, 105, 102, 105, 101, 100]⟩, .string ⟨#[66, 97, 100, 32, 82, 101, 113, 117, 101, 115, 116]⟩, .string ⟨#[78, 111, 116, 32, 70, 111, 117, 110, 100]⟩, .string ⟨#[84, 111, 111, 32, 76, 97, 114, 103, 101]⟩, .string ⟨#[70, 105, 101, 108, 100, 115, 32, 84, 111, 111, 32, 76, 97, 114, 103, 101]⟩, .string ⟨#[73, 110, 116, 101, 114, 110, 97, 108, 32, 69, 114, 114, 111, 114]⟩, .string ⟨#[66, 97, 100, 32, 71, 97, 116, 101, 119, 97, 121]⟩, .string ⟨#[71, 97, 116, 101, 119, 97, 121, 32, 84, 105, 109, 101, 111, 117, 116]⟩]
theorem codes_fin : ∀ k : Fin 9, codesA[k.val]? = some (.int .i64 (cAt k.val)) := by
  intro k
  match k with
  | 0 => rfl
  | 1 => rfl
  | 2 => rfl
  | 3 => rfl
  | 4 => rfl
  | 5 => rfl
  | 6 => rfl
  | 7 => rfl
  | 8 => rfl
theorem texts_fin : ∀ k : Fin 9, textsA[k.val]? = some (.string (sAt k.val)) := by
  intro k
  match k with
  | 0 => rfl
  | 1 => rfl
  | 2 => rfl
  | 3 => rfl
  | 4 => rfl
  | 5 => rfl
  | 6 => rfl
  | 7 => rfl
  | 8 => rfl
theorem look_step {k : Nat} (hk : k < 9) (c : Int) : lookL (saidL.drop k) c = if cAt k = c then some (sAt k).data.toList else lookL (saidL.drop (k + 1)) c := by
  have hl : k < saidL.length := hk
  rw [List.drop_eq_getElem_cons hl, lookL]
  have e : saidL[k] = saidL.getD k (0, []) := by simp [hl]
  rw [e]
  rfl
theorem said_at {c : Int} {l : List UInt8} (h : lookL saidL c = some l) : saidS c = ⟨l.toArray⟩ := by unfold saidS; rw [h]; rfl
theorem said_none {c : Int} (h : lookL saidL c = none) : saidS c = ⟨#[85, 110, 107, 110, 111, 119, 110]⟩ := by unfold saidS; rw [h]; rfl

set_option maxRecDepth 100000 in
set_option maxHeartbeats 1000000 in
theorem refreason_any (c : Int) (w : World) :
    Calls Tryd.prog 15 #[.int .i64 c] w fun e w' => e = .returned (.string (saidS c)) ∧ Below w.heap.size w w' := by
  have hb : Below w.heap.size w ((w.alloc (.cells codesA 3)).alloc (.cells textsA 9)) := ((Below.refl _ _).alloc (Nat.le_refl _) _).alloc (by simp) _
  have hC : ∀ k, k < 9 → ((w.alloc (.cells codesA 3)).alloc (.cells textsA 9)).cell? ⟨w.heap.size, k, none⟩ = some (.int .i64 (cAt k)) := by
    intro k hk
    rw [World.cell?_alloc_old _ _ _ (by simp), World.cell?_alloc_new]
    exact codes_fin ⟨k, hk⟩
  have hS : ∀ k, k < 9 → ((w.alloc (.cells codesA 3)).alloc (.cells textsA 9)).cell? ⟨w.heap.size + 1, k, none⟩ = some (.string (sAt k)) := by
    intro k hk
    have e : w.heap.size + 1 = (w.alloc (.cells codesA 3)).heap.size := by simp
    rw [e, World.cell?_alloc_new]
    exact texts_fin ⟨k, hk⟩
  unfold codesA textsA at hb hC hS
  go_enter Tryd.func15, Tryd.ntmps15
  go_wp2_with fail
  generalize World.alloc _ _ = W1 at hb hC hS ⊢
  go_loop [11] (fun i => ∃ k : Nat, k ≤ 9 ∧ i = .int .i64 k ∧ Hid (lookL saidL c = lookL (saidL.drop k) c)) (fun i => 9 - (intOf i).toNat)
  case atStart => exact ⟨0, by omega, rfl, rfl⟩
  case round =>
    obtain ⟨k, hk, rfl, hat⟩ := hrel
    by_cases hlt : k < 9
    · have hltz : (k : Int) < 9 := by omega
      have hst := look_step hlt c
      have hc := hC k hlt
      have hs := hS k hlt
      clear hC hS
      by_cases he : cAt k = c
      · rw [if_pos he] at hst
        have HR : Hid (saidS c = sAt k) := by
          unfold Hid
          rw [said_at (hat.out.trans hst)]
        have hed : (cAt k == c) = true := by simpa using he
        clear hst he
        generalize cAt k = x at hc hed
        go_wp2_with fail
        go_ret
        exact ⟨by rw [HR.out]; rfl, hb⟩
      · rw [if_neg he] at hst
        have hed : (cAt k == c) = false := by simpa using he
        have HY := hide (hat.out.trans hst)
        clear hst he
        generalize cAt k = x at hc hed
        go_wp2_with fail
        exact ⟨⟨k + 1, by omega, by go_num, HY⟩, by simp [intOf]; omega⟩
    · obtain rfl : k = 9 := by omega
      have HR := hide (said_none (hat.out.trans rfl))
      go_wp2_with fail
      go_ret
      exact ⟨by rw [HR.out]; rfl, hb⟩

def getS : ByteArray := ⟨#[71, 69, 84, 32, 47, 120, 32, 72, 84, 84, 80, 47, 49, 46, 49]⟩
theorem get_is : psU getS = ⟨⟨#[71, 69, 84]⟩, ⟨#[47, 120]⟩, 0, noS, 1⟩ := by
  have e0 : getS.data.toList = [71, 69, 84] ++ 32 :: ([47, 120] ++ 32 :: (verL ++ [49])) := rfl
  obtain ⟨h1, h2, h3⟩ := cuts e0 (by decide) (by decide)
  refine St.ext h1 h2 rfl rfl ?_
  show mnr (aftS 32 (aftS 32 getS)).data.toList = 1
  rw [h3, ← verN_one, mnr_one]
theorem get_right : rtB (psU getS) = true := by
  rw [get_is]
  decide +kernel

set_option maxRecDepth 100000 in
set_option maxHeartbeats 1000000 in
theorem alive_any (w : World) : Calls Tryd.prog 16 #[] w fun e w' => e = .returned (.bool true) ∧ Below w.heap.size w w' := by
  have hP := fun W => parse_any getS W (by decide)
  rw [(gv_yes get_right).1, (gv_yes get_right).2, get_is] at hP
  unfold getS St.v noS at hP
  have HP := hide hP
  clear hP
  go_enter Tryd.func16, Tryd.ntmps16
  go_wp2_with fail
  refine (HP.out _).mono ?_
  rintro e w1 ⟨rfl, hb1⟩
  go_wp2_with fail
  go_ret
  exact ⟨rfl, hb1.alloc hb1.size _⟩

end Go.Proofs.YthpankelfhhjgaaDoor
