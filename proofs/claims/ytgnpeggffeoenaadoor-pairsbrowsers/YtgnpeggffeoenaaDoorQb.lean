/- The walk of the document's text as it is meant. -/
import Derived.Test.YtgnpeggffeoenaaDoorQa
import Derived.Test.YtgnpeggffeoenaaDoorWj
namespace Go.Proofs.YtgnpeggffeoenaaDoor
set_option linter.unusedVariables false
set_option linter.unusedSimpArgs false
open Go.RowKit

theorem one_cell (c : UInt8) (W : World) (n : Nat) (h : W.cell? ⟨n, 0, none⟩ = some (.int .u8 (c.toNat : Int))) : Sem.run Tryd.prog (convert 39 9 (.slice (some ⟨n, 0, none⟩) 1 1)) W = .ok (.string ⟨#[c]⟩) W :=
  run_convert_bytes_back (P := Tryd.prog) _ 39 9 5 ⟨n, 0, none⟩ 1 [c] Tryd.underlying39 Tryd.underlying5 Tryd.underlying9 (fun j hj => by
    obtain rfl : j = 0 := by simpa using hj
    simpa [add_none] using h)
theorem below_al {w W : World} (h : Below w.heap.size w W) (o : Obj) : Below w.heap.size w (W.alloc o) := h.alloc h.size o
theorem list_at {t : ByteArray} {k : Nat} {l r : List UInt8} {c : UInt8} (h : t.data.toList = l ++ c :: r) (hk : l.length = k) (hs : k < t.size) : t[k]'hs = c := by
  have h1 : k < t.data.toList.length := by rw [size_list]; exact hs
  have h2 := get_at t k hs
  rw [← h2]
  subst hk
  simp [h]

set_option maxHeartbeats 1000000 in
set_option maxRecDepth 100000 in
theorem refplain_any (s : ByteArray) (w : World) (hs : s.size ≤ 100000) :
    Calls Tryd.prog 38 #[.string s] w fun e w' => e = .returned (.string ⟨(decL s.data.toList).toArray⟩) ∧ Below w.heap.size w w' := by
  go_enter Tryd.func38, Tryd.ntmps38
  go_wp2_with fail
  go_loopw [0, 3] (fun vs vo wr => ∃ (t : ByteArray) (F : List UInt8), vs = .string t ∧ vo = .string ⟨F.toArray⟩ ∧ t.size ≤ 100000 ∧ F.length + t.size ≤ 100000 ∧ Below w.heap.size w wr ∧ Hid (decL s.data.toList = F ++ decL t.data.toList))
    (fun vs _ _ => match vs with | .string t => t.size | _ => 0)
  case atStart => exact ⟨s, [], rfl, rfl, hs, by simpa using hs, Below.refl _ _, by simp [Hid]⟩
  case round =>
    obtain ⟨t, F, rfl, rfl, ht, hF, hbr, hun⟩ := hrel
    by_cases h0 : 0 < t.size
    · obtain ⟨c, r, hcr⟩ : ∃ c r, t.data.toList = c :: r := by
        cases h : t.data.toList with
        | nil => have := size_list t; rw [h] at this; simp at this; omega
        | cons c r => exact ⟨c, r, rfl⟩
      have hne : t.toList.isEmpty = false := empty_not (by rw [hcr]; simp)
      have hrl : r.length + 1 = t.size := by have := size_list t; rw [hcr] at this; simpa using this
      have hc0 : t[0]'h0 = c := list_at (l := []) (by simpa using hcr) rfl h0
      have h1z : (1 : Int) ≤ (t.size : Int) := by omega
      obtain ⟨u, hu⟩ : ∃ u, t.extract 1 t.size = u := ⟨_, rfl⟩
      have hul : u.data.toList = r := by rw [← hu, ext_drop, hcr]; rfl
      have hus : u.size = t.size - 1 := by rw [← hu, ByteArray.size_extract]; omega
      by_cases h43 : c = 43
      · have hb43 : (((t[0]'h0).toNat : Int) == 43) = true := by rw [hc0, h43]; rfl
        have HU : Hid (decL s.data.toList = (F ++ [32]) ++ decL u.data.toList) := by
          unfold Hid; rw [hun.out, hcr, hul, h43, dec_plus]; simp
        have HS : Hid ((⟨F.toArray⟩ : ByteArray) ++ ⟨#[32]⟩ = ⟨(F ++ [32]).toArray⟩) := byte_snoc (x := ⟨#[32]⟩) rfl
        clear hcr hc0 h43 hul hrl
        go_wp2_with fail
        refine ⟨⟨u, F ++ [32], rfl, ?_, by omega, by simp; omega, hbr, HU⟩, ?_⟩
        · rw [HS.out]
        · show u.size < t.size; omega
      · have hb43 : (((t[0]'h0).toNat : Int) == 43) = false := by rw [hc0]; have := u8_beq c 43; rw [decide_eq_false h43] at this; exact this
        obtain ⟨x, hx⟩ : ∃ x, t.extract 0 1 = x := ⟨_, rfl⟩
        have hxl : x.data.toList = [c] := by rw [← hx, ext_take, hcr]; rfl
        have hxs : x.size ≤ 1 := by rw [← hx, ByteArray.size_extract]; omega
        have HS := hide (byte_snoc (F := F) hxl)
        have HE : Hid (decL (c :: r) = c :: decL r → decL s.data.toList = (F ++ [c]) ++ decL u.data.toList) := by
          unfold Hid; intro h; rw [hun.out, hcr, hul, h]; simp
        have hd0 : (0 : Int) < (t.size : Int) := by omega
        by_cases h37 : c = 37
        · have hb37 : (((t[0]'h0).toNat : Int) == 37) = true := by rw [hc0, h37]; rfl
          subst h37
          by_cases h2 : 2 < t.size
          · have h2z : (2 : Int) < (t.size : Int) := by omega
            have h3z : (3 : Int) ≤ (t.size : Int) := by omega
            obtain ⟨a, b, r', hr⟩ : ∃ a b r', r = a :: b :: r' := by
              cases r with
              | nil => rw [List.length_nil] at hrl; omega
              | cons a r1 =>
                cases r1 with
                | nil => rw [List.length_cons, List.length_nil] at hrl; omega
                | cons b r' => exact ⟨a, b, r', rfl⟩
            have h1s : 1 < t.size := by omega
            have hc1 : t[1]'h1s = a := list_at (l := [37]) (by rw [hcr, hr]; rfl) rfl h1s
            have hc2 : t[2]'h2 = b := list_at (l := [37, a]) (by rw [hcr, hr]; rfl) rfl h2
            subst hc1
            subst hc2
            by_cases ha : hxN (t[1]'h1s) < 16
            · have haz : (hxN (t[1]'h1s) : Int) < 16 := by omega
              by_cases hb : hxN (t[2]'h2) < 16
              · have hbz : (hxN (t[2]'h2) : Int) < 16 := by omega
                have hp : pct r = some (UInt8.ofNat (16 * hxN (t[1]'h1s) + hxN (t[2]'h2))) := by rw [hr, pct, if_pos ⟨ha, hb⟩]
                obtain ⟨u3, hu3⟩ : ∃ u3, t.extract 3 t.size = u3 := ⟨_, rfl⟩
                have hul3 : u3.data.toList = r.drop 2 := by rw [← hu3, ext_drop, hcr]; rfl
                have hus3 : u3.size = t.size - 3 := by rw [← hu3, ByteArray.size_extract]; omega
                obtain ⟨v, hv⟩ : ∃ v, UInt8.ofNat (16 * hxN (t[1]'h1s) + hxN (t[2]'h2)) = v := ⟨_, rfl⟩
                have hvz : 16 * (hxN (t[1]'h1s) : Int) + (hxN (t[2]'h2) : Int) = (v.toNat : Int) := by
                  rw [← hv, UInt8.toNat_ofNat', Nat.mod_eq_of_lt (by omega)]; omega
                rw [hv] at hp
                have HU : Hid (decL s.data.toList = (F ++ [v]) ++ decL u3.data.toList) := by
                  unfold Hid; rw [hun.out, hcr, hul3, dec_yes hp]; simp
                have HSV : Hid ((⟨F.toArray⟩ : ByteArray) ++ ⟨#[v]⟩ = ⟨(F ++ [v]).toArray⟩) := byte_snoc (x := ⟨#[v]⟩) rfl
                have HVZ := hide hvz
                have hcv := one_cell v
                have h0a : (0 : Int) ≤ hxN (t[1]'h1s) := by omega
                have h0b : (0 : Int) ≤ hxN (t[2]'h2) := by omega
                clear hp hv hvz ha hb hul3 hul hxl hcr hr hc0 hrl HE HS hu hx
                go_wp2_with (go_at_call 57; refine (value_any _ _).mono ?_; rintro e w1 ⟨rfl, rfl⟩)
                have q0 : IntKind.i64.wrap (16 * (hxN (t[1]'h1s) : Int)) = 16 * (hxN (t[1]'h1s) : Int) := i64_wrap_id _ (by omega) (by omega)
                have q1 : IntKind.i64.wrap (16 * (hxN (t[1]'h1s) : Int) + (hxN (t[2]'h2) : Int)) = (v.toNat : Int) := by rw [HVZ.out]; exact i64_wrap_id _ (by omega) (by have := v.toNat_lt; omega)
                have q2 : IntKind.u8.wrap (v.toNat : Int) = (v.toNat : Int) := by have := v.toNat_lt; simp [IntKind.wrap, IntKind.bits, IntKind.signed]; omega
                refine wp_region_held_drew (S := (fun w' => Below w.heap.size w w')) (by kernel_rfl) (hbr.drew) (fun hHeld => ?_)
                refine wpAnyH_take (i := 0) (oi := _) (v := .string ⟨F.toArray⟩) rfl (by kernel_rfl) (by kernel_rfl) (by kernel_rfl) (fun _ _ _ h => h) (Or.inl ⟨by rfl, fun wS hSw => by go_simp⟩) (by first | trivial | assumption) ?_
                simp only [Act.put, List.getElem_toArray, List.getElem_cons_zero, List.getElem_cons_succ, List.setIfInBounds_toArray, List.set_cons_zero, List.set_cons_succ]
                refine wpAnyH_take (i := 1) (oi := _) (v := .string t) rfl (by kernel_rfl) (by kernel_rfl) (by kernel_rfl) (fun _ _ _ h => h) (Or.inl ⟨by rfl, fun wS hSw => by go_simp⟩) (by first | trivial | assumption) ?_
                simp only [Act.put, List.getElem_toArray, List.getElem_cons_zero, List.getElem_cons_succ, List.setIfInBounds_toArray, List.set_cons_zero, List.set_cons_succ]
                refine wpAnyH_take (i := 2) (oi := _) (v := .int .u8 ((t[1]'h1s).toNat : Int)) rfl (by kernel_rfl) (by kernel_rfl) (by kernel_rfl) (fun _ _ _ h => h) (Or.inl ⟨by rfl, fun wS hSw => by go_simp⟩) (by first | trivial | assumption) ?_
                simp only [Act.put, List.getElem_toArray, List.getElem_cons_zero, List.getElem_cons_succ, List.setIfInBounds_toArray, List.set_cons_zero, List.set_cons_succ]
                refine wpAnyH_take (i := 5) (oi := _) (v := .string t) rfl (by kernel_rfl) (by kernel_rfl) (by kernel_rfl) (fun _ _ _ h => h) (Or.inl ⟨by rfl, fun wS hSw => by go_simp⟩) (by first | trivial | assumption) ?_
                simp only [Act.put, List.getElem_toArray, List.getElem_cons_zero, List.getElem_cons_succ, List.setIfInBounds_toArray, List.set_cons_zero, List.set_cons_succ]
                refine wpAnyH_take (i := 6) (oi := _) (v := .int .u8 ((t[2]'h2).toNat : Int)) rfl (by kernel_rfl) (by kernel_rfl) (by kernel_rfl) (fun _ _ _ h => h) (Or.inl ⟨by rfl, fun wS hSw => by go_simp⟩) (by first | trivial | assumption) ?_
                simp only [Act.put, List.getElem_toArray, List.getElem_cons_zero, List.getElem_cons_succ, List.setIfInBounds_toArray, List.set_cons_zero, List.set_cons_succ]
                refine wpAnyH_ready (rs := [3]) (by kernel_rfl) (by simp) ?_
                refine AllReadyH.cons (o := _) rfl (fun K hK => ?_) AllReadyH.nil
                go_simp
                refine (value_any _ _).mono ?_
                rintro e w2 ⟨rfl, rfl⟩
                refine hK.out _ _ (hbr.drew) (fun hHeld => ?_)
                clear hK K
                refine wpAnyH_take (i := 4) (oi := _) (v := .int .i64 (16 * (hxN (t[1]'h1s) : Int))) rfl (by kernel_rfl) (by kernel_rfl) (by kernel_rfl) (fun _ _ _ h => h) (Or.inl ⟨by rfl, fun wS hSw => by go_simp; exact q0⟩) (by first | trivial | assumption) ?_
                simp only [Act.put, List.getElem_toArray, List.getElem_cons_zero, List.getElem_cons_succ, List.setIfInBounds_toArray, List.set_cons_zero, List.set_cons_succ]
                refine wpAnyH_ready (rs := [7]) (by kernel_rfl) (by simp) ?_
                refine AllReadyH.cons (o := _) rfl (fun K hK => ?_) AllReadyH.nil
                go_simp
                refine (value_any _ _).mono ?_
                rintro e w2 ⟨rfl, rfl⟩
                refine hK.out _ _ (hbr.drew) (fun hHeld => ?_)
                clear hK K
                refine wpAnyH_take (i := 8) (oi := _) (v := .int .i64 (v.toNat : Int)) rfl (by kernel_rfl) (by kernel_rfl) (by kernel_rfl) (fun _ _ _ h => h) (Or.inl ⟨by rfl, fun wS hSw => by go_simp; exact q1⟩) (by first | trivial | assumption) ?_
                simp only [Act.put, List.getElem_toArray, List.getElem_cons_zero, List.getElem_cons_succ, List.setIfInBounds_toArray, List.set_cons_zero, List.set_cons_succ]
                refine wpAnyH_take (i := 9) (oi := _) (v := .int .u8 (v.toNat : Int)) rfl (by kernel_rfl) (by kernel_rfl) (by kernel_rfl) (fun _ _ _ h => h) (Or.inl ⟨by rfl, fun wS hSw => by go_simp⟩) (by first | trivial | assumption) ?_
                simp only [Act.put, List.getElem_toArray, List.getElem_cons_zero, List.getElem_cons_succ, List.setIfInBounds_toArray, List.set_cons_zero, List.set_cons_succ]
                refine wpAnyH_ready (rs := [10]) (by kernel_rfl) (by simp) ?_
                refine AllReadyH.cons (o := _) rfl (fun K hK => ?_) AllReadyH.nil
                go_simp
                refine hK.out _ _ (below_al hbr.drew _) (fun hHeld => ?_)
                clear hK K
                refine wpAnyH_ready (rs := [11]) (by kernel_rfl) (by simp) ?_
                refine AllReadyH.cons (o := _) rfl (fun K hK => ?_) AllReadyH.nil
                go_simp
                refine hK.out _ _ (below_al hbr.drew _) (fun hHeld => ?_)
                clear hK K
                refine wpAnyH_take (i := 12) (oi := _) (v := .string (⟨F.toArray⟩ ++ ⟨#[v]⟩)) rfl (by kernel_rfl) (by kernel_rfl) (by kernel_rfl) (fun _ _ _ h => h) (Or.inl ⟨by rfl, fun wS hSw => by go_simp; omega⟩) (by first | trivial | assumption) ?_
                simp only [Act.put, List.getElem_toArray, List.getElem_cons_zero, List.getElem_cons_succ, List.setIfInBounds_toArray, List.set_cons_zero, List.set_cons_succ]
                refine wpAnyH_take (i := 13) (oi := _) (v := .string (⟨F.toArray⟩ ++ ⟨#[v]⟩)) rfl (by kernel_rfl) (by kernel_rfl) (by kernel_rfl) (fun _ _ _ h => h) (Or.inl ⟨by rfl, fun wS hSw => by go_simp⟩) (by first | trivial | assumption) ?_
                simp only [Act.put, List.getElem_toArray, List.getElem_cons_zero, List.getElem_cons_succ, List.setIfInBounds_toArray, List.set_cons_zero, List.set_cons_succ]
                refine wpAnyH_done (by kernel_rfl) ?_ _
                go_wp2_with fail
                refine ⟨⟨u3, F ++ [v], rfl, by rw [HSV.out], by omega, by simp; omega, (below_al hbr _).drew, HU⟩, ?_⟩
                show u3.size < t.size; omega
              · have hbz : ¬ (hxN (t[2]'h2) : Int) < 16 := by omega
                have hp : pct r = none := by rw [hr, pct, if_neg (fun h => hb h.2)]
                have HU := hide (HE.out (dec_no hp))
                clear hp ha hb hul hxl hcr hr hc0 HE
                go_wp2_with (go_at_call 57; refine (value_any _ _).mono ?_; rintro e w1 ⟨rfl, rfl⟩)
                refine ⟨⟨u, F ++ [37], rfl, by rw [HS.out], by omega, by simp; omega, hbr, HU⟩, ?_⟩
                show u.size < t.size; omega
            · have haz : ¬ (hxN (t[1]'h1s) : Int) < 16 := by omega
              have hp : pct r = none := by rw [hr, pct, if_neg (fun h => ha h.1)]
              have HU := hide (HE.out (dec_no hp))
              clear hp ha hul hxl hcr hr hc0 HE
              go_wp2_with (go_at_call 57; refine (value_any _ _).mono ?_; rintro e w1 ⟨rfl, rfl⟩)
              refine ⟨⟨u, F ++ [37], rfl, by rw [HS.out], by omega, by simp; omega, hbr, HU⟩, ?_⟩
              show u.size < t.size; omega
          · have h2z : ¬ (2 : Int) < (t.size : Int) := by omega
            have hp : pct r = none := pct_short (by omega)
            have HU := hide (HE.out (dec_no hp))
            clear hp hul hxl hcr hc0 HE
            go_wp2_with (go_at_call 57; refine (value_any _ _).mono ?_; rintro e w1 ⟨rfl, rfl⟩)
            refine ⟨⟨u, F ++ [37], rfl, by rw [HS.out], by omega, by simp; omega, hbr, HU⟩, ?_⟩
            show u.size < t.size; omega
        · have hb37 : (((t[0]'h0).toNat : Int) == 37) = false := by rw [hc0]; have := u8_beq c 37; rw [decide_eq_false h37] at this; exact this
          have HU := hide (HE.out (dec_else _ h43 h37))
          clear hul hxl hcr hc0 HE h43 h37
          go_wp2_with (go_at_call 57; refine (value_any _ _).mono ?_; rintro e w1 ⟨rfl, rfl⟩)
          refine ⟨⟨u, F ++ [c], rfl, by rw [HS.out], by omega, by simp; omega, hbr, HU⟩, ?_⟩
          show u.size < t.size; omega
    · have hne : t.toList.isEmpty = true := empty_of (List.eq_nil_of_length_eq_zero (by rw [size_list]; omega))
      have HN : Hid (decL s.data.toList = F) := by
        unfold Hid
        rw [hun.out, List.eq_nil_of_length_eq_zero (show t.data.toList.length = 0 by rw [size_list]; omega), dec_nil, List.append_nil]
      go_wp2_with fail
      go_ret
      exact ⟨by rw [HN.out]; rfl, hbr⟩

end Go.Proofs.YtgnpeggffeoenaaDoor
