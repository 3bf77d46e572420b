/- The walk of what tells whether a field asks a device. -/
import Derived.Test.YtkakinakjnpbjaaDoorBb
import Derived.Test.YtkakinakjnpbjaaDoorSo
namespace Go.Proofs.YtkakinakjnpbjaaDoor
set_option linter.unusedVariables false
set_option linter.unusedSimpArgs false
open Go.RowKit

theorem unescL_le : ∀ (n : Nat) (l : List UInt8), l.length ≤ n → (unescL l).length ≤ l.length
  | 0, l, h => by
    obtain rfl : l = [] := List.length_eq_zero_iff.1 (by omega)
    simp [unescL_nil]
  | n + 1, [], h => by simp [unescL_nil]
  | n + 1, c :: r, h => by
    by_cases hc : c = 92
    · subst hc
      cases r with
      | nil => rw [unescL.eq_def]; simp
      | cons d r =>
        rw [unescL_back]
        have := unescL_le n r (by simp at h; omega)
        simp; omega
    · rw [unescL_else r hc]
      have := unescL_le n r (by simp at h; omega)
      simp; omega
theorem val_len {c v : List UInt8} (h : valO c = some v) : v.length ≤ c.length := by
  unfold valO unqL at h
  split at h
  · obtain rfl := Option.some.inj h; exact Nat.le_refl _
  · split at h
    · obtain rfl := Option.some.inj h
      have h1 := unescL_le _ (midL c) (Nat.le_refl _)
      have h2 : (midL c).length ≤ c.length := by unfold midL; simp; omega
      omega
    · cases h
theorem tak_len {r n v : List UInt8} (h : takL 61 valO r = some (n, v)) : n.length ≤ r.length ∧ v.length ≤ r.length := by
  unfold takL at h
  cases hs : splitL 61 r with
  | none => rw [hs] at h; cases h
  | some P =>
    rw [hs] at h
    have hp := split_part hs
    rcases P with _ | ⟨a, _ | ⟨c, _ | ⟨d, P⟩⟩⟩
    · cases h
    · have h' : some (a, ([] : List UInt8)) = some (n, v) := h
      obtain ⟨rfl, rfl⟩ : a = n ∧ ([] : List UInt8) = v := by simpa using h'
      exact ⟨hp a (by simp), by simp⟩
    · have h' : (valO c).map (fun v => (a, v)) = some (n, v) := h
      cases hv : valO c with
      | none => rw [hv] at h'; cases h'
      | some u =>
        rw [hv] at h'
        obtain ⟨rfl, rfl⟩ : a = n ∧ u = v := by simpa using h'
        exact ⟨hp a (by simp), Nat.le_trans (val_len hv) (hp c (by simp))⟩
    · cases h
theorem tak59_len {p r d : List UInt8} (h : takL 59 tokO p = some (r, d)) : r.length ≤ p.length := by
  unfold takL at h
  cases hs : splitL 59 p with
  | none => rw [hs] at h; cases h
  | some P =>
    rw [hs] at h
    have hp := split_part hs
    rcases P with _ | ⟨a, _ | ⟨c, _ | ⟨d', P⟩⟩⟩
    · cases h
    · have h' : some (a, ([] : List UInt8)) = some (r, d) := h
      obtain ⟨rfl, -⟩ : a = r ∧ ([] : List UInt8) = d := by simpa using h'
      exact hp a (by simp)
    · have h' : (tokO c).map (fun v => (a, v)) = some (r, d) := h
      cases hv : tokO c with
      | none => rw [hv] at h'; cases h'
      | some u =>
        rw [hv] at h'
        obtain ⟨rfl, -⟩ : a = r ∧ u = d := by simpa using h'
        exact hp a (by simp)
    · cases h
theorem word_len {p : List UInt8} {x : W3} (h : wordP p = some x) : x.2.1.length ≤ p.length := by
  unfold wordP at h
  rcases h1 : takL 59 tokO p with _ | ⟨r, d⟩
  · rw [h1] at h; cases h
  · rw [h1] at h
    have h' : (takL 61 valO r).bind (nameP d) = some x := h
    rcases h2 : takL 61 valO r with _ | ⟨n, v⟩
    · rw [h2] at h'; cases h'
    · rw [h2] at h'
      have h3 : nameP d (n, v) = some x := h'
      unfold nameP at h3
      split at h3
      · obtain rfl := Option.some.inj h3
        exact Nat.le_trans (tak_len h2).2 (tak59_len h1)
      · cases h3
theorem all_len : ∀ {P : List (List UInt8)} {L : List W3} {N : Nat}, allP P = some L → (∀ p ∈ P, p.length ≤ N) → ∀ x ∈ L, x.2.1.length ≤ N
  | [], L, N, h, hp, x, hx => by simp [allP] at h; subst h; simp at hx
  | p :: ps, L, N, h, hp, x, hx => by
    rw [allP] at h
    split at h
    · exact all_len h (fun q hq => hp q (by simp [hq])) x hx
    · cases hw : wordP p with
      | none => rw [hw] at h; cases h
      | some y =>
        rw [hw] at h
        cases ha : allP ps with
        | none => rw [ha] at h; cases h
        | some M =>
          rw [ha] at h
          obtain rfl : y :: M = L := by simpa using h
          rcases List.mem_cons.1 hx with rfl | hx
          · exact Nat.le_trans (word_len hw) (hp p (by simp))
          · exact all_len ha (fun q hq => hp q (by simp [hq])) x hx
theorem rd_vals {s : List UInt8} {L : List W3} (h : rdL s = some L) : ∀ x ∈ L, x.2.1.length ≤ s.length := by
  obtain ⟨P, h1, h2⟩ := rdL_of h
  exact all_len h2 (split_part (b := 44) (by rw [split44]; exact h1))
theorem rd_count {s : List UInt8} {L : List W3} (h : rdL s = some L) : L.length ≤ s.length + 1 := by
  obtain ⟨P, h1, h2⟩ := rdL_of h
  exact Nat.le_trans (allP_len h2) (parts_le 44 s 0 [] P h1)

def contS : ByteArray := ⟨#[99, 111, 110, 116, 101, 110, 116]⟩
def esiS : ByteArray := ⟨#[69, 83, 73, 47, 49, 46, 48]⟩
theorem hit_toF (d : ByteArray) (x : W3) : hitF contS d (toF x) = forB d.data.toList x := by
  unfold hitF forB toF
  simp only [bs_toList]
  rw [ByteArray.toList_eq d, show contS.toList = contL by rw [ByteArray.toList_eq]; rfl]
theorem cnt_toF (d : ByteArray) (L : List W3) : cntF contS d (L.map toF) = (cntL L d.data.toList).map toF := by
  unfold cntF cntL
  have e1 : (hitF contS d) ∘ toF = forB d.data.toList := funext (hit_toF d)
  have e2 : (hitF contS ⟨#[]⟩) ∘ toF = forB [] := funext (hit_toF ⟨#[]⟩)
  rw [← List.map_reverse, List.find?_map, List.find?_map, e1, e2]
  cases L.reverse.find? (forB d.data.toList) <;> rfl
theorem cnt_mem {L : List W3} {d : List UInt8} {x : W3} (h : cntL L d = some x) : x ∈ L := by
  unfold cntL at h
  cases h1 : L.reverse.find? (forB d) with
  | some y =>
    rw [h1] at h
    obtain rfl : y = x := by simpa using h
    simpa using List.mem_of_find?_eq_some h1
  | none =>
    rw [h1] at h
    have h2 : L.reverse.find? (forB []) = some x := by simpa using h
    simpa using List.mem_of_find?_eq_some h2
def askB (s d : ByteArray) : Bool := askL s.data.toList d.data.toList
theorem rdE_le (s : ByteArray) : rdE s = 0 ∨ rdE s = 11 := by unfold rdE; split <;> simp

set_option maxHeartbeats 2000000 in
theorem asks_any (s d : ByteArray) (w : World) (hs : s.size ≤ 10000) :
    Calls Tryd.prog 12 #[.string s, .string d] w fun e w' => e = .returned (.bool (askB s d)) ∧ Below w.heap.size w w' := by
  have hrd := read_any s w (by omega)
  rcases hR : rdL s.data.toList with _ | L
  · have HA : Hid (askB s d = false) := by unfold Hid askB; rw [askL_is, hR]
    rw [(rd_none hR).1, (rd_none hR).2] at hrd
    clear hR
    go_enter Tryd.func12, Tryd.ntmps12
    go_wp2_with fail
    refine hrd.mono ?_
    rintro e w1 ⟨v, rfl, ho, hb1⟩
    go_wp2_with fail
    go_ret
    exact ⟨by rw [HA.out]; rfl, hb1⟩
  · rw [(rd_some hR).1, (rd_some hR).2] at hrd
    have hlen := rd_count hR
    rw [size_list] at hlen
    have HA : Hid (askB s d = match cntL L d.data.toList with | some x => hasW x.2.1 | none => false) := by unfold Hid askB; rw [askL_is, hR]; rfl
    have HV : Hid (∀ x, cntL L d.data.toList = some x → x.2.1.length ≤ 10000) := fun x hx => by have := rd_vals hR x (cnt_mem hx); rw [size_list] at this; omega
    clear hR
    have HC : Hid (∀ v W, Row W v (L.map toF) → Calls Tryd.prog 23 #[v, .string ⟨#[99, 111, 110, 116, 101, 110, 116]⟩, .string d] W fun e w' => ∃ f ok, e = .returned (.tuple #[fv f, .bool ok]) ∧ Cnt ((cntL L d.data.toList).map toF) f ok ∧ Below W.heap.size W w') := by
      intro v W hr
      have := counting_any (L.map toF) v contS d W (by simp; omega) hr
      rw [cnt_toF] at this
      exact this
    go_enter Tryd.func12, Tryd.ntmps12
    go_wp2_with fail
    refine hrd.mono ?_
    rintro e w1 ⟨v, rfl, ho, hb1⟩
    have hrow := ho.row
    clear hrd
    go_wp2_with fail
    refine (HC.out v w1 hrow).mono ?_
    rintro e w2 ⟨f, ok, rfl, hcn, hb2⟩
    have hB2 := hb1.trans (hb2.mono hb1.size)
    have hs2 := hB2.size
    clear ho hb1 hb2 hrow
    rcases hx : cntL L d.data.toList with _ | x
    · rw [hx] at hcn HA
      obtain rfl : ok = false := hcn
      obtain ⟨f0, f1, f2⟩ := f
      unfold fv
      have hB3 := hB2.alloc hs2 (.cells #[.string f0, .string f1, .string f2] 31)
      clear hx
      go_wp2_with fail
      go_ret
      exact ⟨by rw [HA.out]; rfl, hB3⟩
    · rw [hx] at hcn HA
      obtain ⟨rfl, rfl⟩ : ok = true ∧ f = toF x := hcn
      have hvl := HV.out x hx
      have HSZ : Hid ((bs x.2.1).size ≤ 10000) := by unfold Hid; rw [bs_size]; exact hvl
      have HAS : Hid (askB s d = (blP (bs x.2.1)).contains esiS.data.toList) := by unfold Hid; rw [HA.out]; unfold hasW blP; rw [bs_list]; rfl
      unfold fv toF
      have hB3 := hB2.alloc hs2 (.cells #[.string (bs x.1), .string (bs x.2.1), .string (bs x.2.2)] 31)
      have hs3 := hB3.size
      clear hx HA HV HC
      generalize bs x.2.1 = f1 at *
      have HPL : Hid ((blP f1).length ≤ 10001) := by unfold Hid blP; have := splB_len 32 f1.data.toList; rw [size_list] at this; have := HSZ.out; omega
      go_wp2_with fail
      refine (splitB_any f1 _ HSZ.out).mono ?_
      rintro e w3 ⟨rfl, rfl⟩
      have hB4 := hB3.alloc hs3 (.cells (strs (blP f1)).toArray 9)
      have hnew := World.alloc_heap_new (w2.alloc (.cells #[.string (bs x.1), .string f1, .string (bs x.2.2)] 31)) (.cells (strs (blP f1)).toArray 9)
      rw [World.size_alloc] at hnew
      go_wp2_with fail
      refine (contains_row (blP f1) esiS (w2.heap.size + 1) _ (by have := HPL.out; omega) hnew).mono ?_
      rintro e w4 ⟨rfl, rfl⟩
      rw [← HAS.out]
      go_wp2_with fail
      go_ret
      exact ⟨rfl, hB4⟩

end Go.Proofs.YtkakinakjnpbjaaDoor
