/- What fields that were made to say so say, by plain reckoning. -/
import Derived.Test.YtplanlhgcckioaaDoorHb
namespace Go.Proofs.YtplanlhgcckioaaDoor
set_option linter.unusedVariables false
set_option linter.unusedSimpArgs false
set_option maxRecDepth 100000
open Go.RowKit

theorem add_zero {L : List Fd} {f : Fd} (h : addE L f = 0) : rightF L = true ∧ mayF f = true ∧ L.length ≠ 40 ∧ addL L f = L ++ [f] := by
  cases hb : (rightF L && mayF f)
  · rw [(add_arg hb).1] at h; exact absurd h (by decide)
  · by_cases h4 : L.length = 40
    · rw [(add_many hb h4).1] at h; exact absurd h (by decide)
    · rw [Bool.and_eq_true] at hb
      exact ⟨hb.1, hb.2, h4, (add_okay (by rw [hb.1, hb.2]; rfl) h4).2⟩
theorem add_bad {L : List Fd} {f : Fd} (h : addE L f ≠ 0) : addL L f = [] := by
  cases hb : (rightF L && mayF f)
  · exact (add_arg hb).2
  · by_cases h4 : L.length = 40
    · exact (add_many hb h4).2
    · exact absurd (add_okay hb h4).1 h
theorem right_add {L : List Fd} {f : Fd} (h1 : rightF L = true) (h2 : mayF f = true) (h3 : L.length ≠ 40) : rightF (L ++ [f]) = true := by
  have h4 := small_le h1
  unfold rightF at h1 ⊢
  rw [Bool.and_eq_true] at h1
  rw [List.all_append, h1.2, List.length_append]
  simp [h2]
  omega
theorem del_right {L : List Fd} (n : ByteArray) (h : rightF L = true) : rightF (delF n L) = true := by
  have h4 := small_le h
  unfold rightF at h ⊢
  rw [Bool.and_eq_true] at h ⊢
  refine ⟨decide_eq_true (Nat.le_trans (del_le _ _) h4), List.all_eq_true.2 fun f hf => List.all_eq_true.1 h.2 f (List.mem_filter.1 hf).1⟩
theorem dl_right {L : List Fd} (h : rightF L = true) : rightF (dlF L) = true := del_right _ (del_right _ h)

/- Names in a row without them. -/
theorem dl_len (L : List Fd) : ∀ f ∈ dlF L, nm lenS f = false ∧ nm tecS f = false := by
  intro f hf
  unfold dlF delF at hf
  have h1 := List.mem_filter.1 hf
  have h2 := List.mem_filter.1 h1.1
  exact ⟨by simpa using h2.2, by simpa using h1.2⟩
theorem none_all {n : ByteArray} {L : List Fd} (h : ∀ f ∈ L, nm n f = false) : allF n L = [] := by
  unfold allF
  rw [List.filter_eq_nil_iff.2 fun f hf => by rw [h f hf]; decide]
  rfl
theorem none_del {n : ByteArray} {L : List Fd} (h : ∀ f ∈ L, nm n f = false) : delF n L = L := by
  unfold delF
  exact List.filter_eq_self.2 fun f hf => by rw [h f hf]; rfl
theorem all_lenS (L : List Fd) : allF lenS (dlF L) = [] := none_all fun f hf => (dl_len L f hf).1
theorem all_tecS (L : List Fd) : allF tecS (dlF L) = [] := none_all fun f hf => (dl_len L f hf).2
theorem dl_dl (L : List Fd) : dlF (dlF L) = dlF L := by
  rw [dlF, none_del fun f hf => (dl_len L f hf).1, none_del fun f hf => (dl_len L f hf).2]
theorem dl_snoc (L : List Fd) (f : Fd) : dlF (L ++ [f]) = dlF L ++ (if nm lenS f then [] else if nm tecS f then [] else [f]) := by
  unfold dlF
  rw [del_snoc]
  cases h1 : nm lenS f
  · rw [if_neg (by decide), del_snoc]
    cases h2 : nm tecS f <;> simp
  · simp
theorem nm_ll (v : ByteArray) : nm lenS (lenS, v) = true := by
  have : nm lenS (lenS, v) = nm lenS (lenS, ⟨#[]⟩) := rfl
  rw [this]; decide +kernel
theorem nm_lt (v : ByteArray) : nm lenS (tecS, v) = false := by
  have : nm lenS (tecS, v) = nm lenS (tecS, ⟨#[]⟩) := rfl
  rw [this]; decide +kernel
theorem nm_tl (v : ByteArray) : nm tecS (lenS, v) = false := by
  have : nm tecS (lenS, v) = nm tecS (lenS, ⟨#[]⟩) := rfl
  rw [this]; decide +kernel
theorem nm_tt (v : ByteArray) : nm tecS (tecS, v) = true := by
  have : nm tecS (tecS, v) = nm tecS (tecS, ⟨#[]⟩) := rfl
  rw [this]; decide +kernel

/-- What is made says what it was made to say. -/
theorem say_dl (n : Int) (L : List Fd) : sayF n (dlF L) = (0, 0, 0) := by
  rw [say_len (by rw [all_tecS]; simp), all_lenS]; rfl
theorem say_chunk {n : Int} (L : List Fd) (h : n ≠ 0) : sayF n (dlF L ++ [(tecS, chS)]) = (2, 0, 0) := by
  have h1 : allF tecS (dlF L ++ [(tecS, chS)]) = [chS] := by rw [all_snoc, all_tecS, nm_tt]; rfl
  have h2 : allF lenS (dlF L ++ [(tecS, chS)]) = [] := by rw [all_snoc, all_lenS, nm_lt]; rfl
  refine say_ch ?_ ?_ h ?_
  · rw [h1]; simp
  · rw [h2]; simp
  · rw [h1, joinS_one]; decide +kernel
theorem dec_reads {z : Nat} (h : z ≤ 20000) : rdE 10 (decS z).data.toList = 0 ∧ rdN 10 (decS z).data.toList = z := by
  rw [decS_list]
  have h0 : dgs 10 (by omega) z ≠ [] := dgs_ne_nil _ _
  have h1 : okay 10 (dgs 10 (by omega) z) = true := dgs_okay _ (by omega) z
  have h2 : val 10 (dgs 10 (by omega) z) = z := by
    have := val_dgs (b := 10) (by omega) (by omega) [] rfl z
    simpa using this
  exact ⟨rdE_fine h0 h1 (by omega), by rw [rdN_fine h0 h1 (by omega), h2]⟩
theorem say_size {n : Int} (L : List Fd) {z : Nat} (h : z ≤ 20000) : sayF n (dlF L ++ [(lenS, decS z)]) = (1, z, 0) := by
  have h1 : allF tecS (dlF L ++ [(lenS, decS z)]) = [] := by rw [all_snoc, all_tecS, nm_tl]; rfl
  have h2 : allF lenS (dlF L ++ [(lenS, decS z)]) = [decS z] := by rw [all_snoc, all_lenS, nm_ll]; rfl
  rw [say_len (by rw [h1]; simp), h2]
  have hr := dec_reads h
  have hl : lsF (decS z) = (1, z, 0) := by unfold lsF; rw [hr.1, hr.2]; rfl
  show lensF (decS z) [] = _
  rw [lens_yes (by simp), hl]
  exact ls2_yes (by simp only; omega)

/-- What With tells, where it tells no error. -/
theorem wi_okay {L : List Fd} {K Z : Int} (h : wiE L K Z = 0) : rightF L = true ∧ 0 ≤ Z ∧ Z ≤ 20000 ∧ 0 ≤ K ∧ K ≤ 3 ∧ rightF (wiL L K Z) = true ∧ dlF (wiL L K Z) = dlF L ∧
    (K = 1 → ∀ n, sayF n (wiL L K Z) = (1, Z.toNat, 0)) ∧ (K = 2 → ∀ n : Int, n ≠ 0 → sayF n (wiL L K Z) = (2, 0, 0)) ∧ (K ≠ 1 → K ≠ 2 → ∀ n, sayF n (wiL L K Z) = (0, 0, 0)) := by
  cases hb : (rightF L && rbB K Z)
  · rw [(wi_arg hb).1] at h; exact absurd h (by decide)
  · have hb' := hb
    rw [Bool.and_eq_true] at hb'
    have hr := hb'.2
    unfold rbB at hr
    simp at hr
    have hz : Z.toNat ≤ 20000 := by omega
    by_cases k1 : K = 1
    · have e := wi_one hb k1
      rw [e.1] at h
      obtain ⟨a1, a2, a3, a4⟩ := add_zero h
      rw [a4] at e
      rw [e.2]
      refine ⟨hb'.1, hr.1.1.1, hr.1.1.2, hr.1.2, hr.2, right_add a1 a2 a3, by rw [dl_snoc, dl_dl, nm_ll]; simp, fun _ n => say_size L hz, fun k2 => absurd k2 (by omega), fun g => absurd k1 g⟩
    · by_cases k2 : K = 2
      · have e := wi_two hb k2
        rw [e.1] at h
        obtain ⟨a1, a2, a3, a4⟩ := add_zero h
        rw [a4] at e
        rw [e.2]
        refine ⟨hb'.1, hr.1.1.1, hr.1.1.2, hr.1.2, hr.2, right_add a1 a2 a3, by rw [dl_snoc, dl_dl, nm_lt, nm_tt]; simp, fun g => absurd g k1, fun _ n hn => say_chunk L hn, fun _ g => absurd k2 g⟩
      · have e := wi_else hb k1 k2
        rw [e.2]
        exact ⟨hb'.1, hr.1.1.1, hr.1.1.2, hr.1.2, hr.2, dl_right hb'.1, dl_dl L, fun g => absurd g k1, fun g => absurd g k2, fun _ _ n => say_dl n L⟩
theorem wi_bad {L : List Fd} {K Z : Int} (h : wiE L K Z ≠ 0) : wiL L K Z = [] := by
  cases hb : (rightF L && rbB K Z)
  · exact (wi_arg hb).2
  · by_cases k1 : K = 1
    · have e := wi_one hb k1
      rw [e.2]; rw [e.1] at h; exact add_bad h
    · by_cases k2 : K = 2
      · have e := wi_two hb k2
        rw [e.2]; rw [e.1] at h; exact add_bad h
      · exact absurd (wi_else hb k1 k2).1 h
theorem wi_short {L : List Fd} (K : Int) {Z : Int} (h : Sh L) : Sh (wiL L K Z) := by
  have hd := dl_short h
  have hadd : ∀ f : Fd, f.1.size ≤ 10000 → f.2.size ≤ 10000 → Sh (addL (dlF L) f) := by
    intro f h1 h2
    unfold addL
    split
    · split
      · intro x hx; cases hx
      · intro x hx
        rcases List.mem_append.1 hx with hx | hx
        · exact hd x hx
        · obtain rfl : x = f := by simpa using hx
          exact ⟨h1, h2⟩
    · intro x hx; cases hx
  unfold wiL
  split
  · next hb =>
    rw [Bool.and_eq_true] at hb
    have hr := hb.2
    unfold rbB at hr
    simp at hr
    split
    · exact hadd _ (show lenS.size ≤ 10000 by decide) (Nat.le_trans (decS_le _ (by omega)) (by decide))
    · split
      · exact hadd _ (by decide) (by decide)
      · exact hd
  · intro x hx; cases hx

end Go.Proofs.YtplanlhgcckioaaDoor
