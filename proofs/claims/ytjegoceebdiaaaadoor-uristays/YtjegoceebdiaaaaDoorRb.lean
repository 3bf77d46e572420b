/- The walks of the document's own Write and Right. -/
import Derived.Test.YtjegoceebdiaaaaDoorRa
namespace Go.Proofs.YtjegoceebdiaaaaDoor
set_option linter.unusedVariables false
set_option linter.unusedSimpArgs false
open Go.RowKit

theorem decS_bytes (n : Nat) : (⟨(dgs 10 (by omega) n).toArray⟩ : ByteArray) = decS n := rfl

theorem wd_aa {u : U} {n : Nat} (ha : u.abs = true) (hn : u.port = n) (h0 : ¬ n = 0) (hq : u.asks = true) : wrS u = (⟨#[104, 116, 116, 112, 58, 47, 47]⟩ : ByteArray) ++ u.host ++ ⟨#[58]⟩ ++ decS n ++ u.path ++ ⟨#[63]⟩ ++ u.query := by
  rw [wr_aa ha hq, hn, prtS_some h0]
  apply bytes_ext
  simp only [app_list, List.append_assoc]
theorem wd_an {u : U} {n : Nat} (ha : u.abs = true) (hn : u.port = n) (h0 : ¬ n = 0) (hq : u.asks = false) : wrS u = (⟨#[104, 116, 116, 112, 58, 47, 47]⟩ : ByteArray) ++ u.host ++ ⟨#[58]⟩ ++ decS n ++ u.path := by
  rw [wr_an ha hq, hn, prtS_some h0]
  apply bytes_ext
  simp only [app_list, List.append_assoc]
theorem wz_aa {u : U} (ha : u.abs = true) (hn : u.port = 0) (hq : u.asks = true) : wrS u = (⟨#[104, 116, 116, 112, 58, 47, 47]⟩ : ByteArray) ++ u.host ++ u.path ++ ⟨#[63]⟩ ++ u.query := by
  rw [wr_aa ha hq, hn, prtS_zero]
  apply bytes_ext
  simp only [app_list, List.append_assoc]
  simp
theorem wz_an {u : U} (ha : u.abs = true) (hn : u.port = 0) (hq : u.asks = false) : wrS u = (⟨#[104, 116, 116, 112, 58, 47, 47]⟩ : ByteArray) ++ u.host ++ u.path := by
  rw [wr_an ha hq, hn, prtS_zero]
  apply bytes_ext
  simp only [app_list, List.append_assoc]
  simp
theorem wn_a {u : U} (ha : u.abs = false) (hq : u.asks = true) : wrS u = u.path ++ ⟨#[63]⟩ ++ u.query := by
  rw [wr_na ha hq]
  apply bytes_ext
  simp only [app_list, List.append_assoc]

set_option maxRecDepth 100000 in
set_option maxHeartbeats 1000000 in
theorem refwrite_any (u : U) (w : World) (hf : Fits u) :
    Calls Tryd.prog 16 #[u.v] w fun e w' => e = .returned (.string (wrS u)) ∧ Below w.heap.size w w' := by
  obtain ⟨f1, f2, f3, f4, f5⟩ := hf
  have hbn : ∀ vs : Array Value, Below w.heap.size w (w.alloc (.cells vs 23)) := fun vs => (Below.refl _ _).alloc (Nat.le_refl _) _
  have hnew := Six.new w u
  unfold U.cs at hnew
  obtain ⟨n, hn⟩ : ∃ n : Nat, u.port = n := ⟨u.port.toNat, by omega⟩
  unfold U.v
  cases ha : u.abs
  · cases hq : u.asks
    · have HR := hide (wr_nn ha hq)
      go_enter Tryd.func16, Tryd.ntmps16
      go_wp2_with fail
      go_ret
      exact ⟨ret_str HR.out.symm, hbn _⟩
    · have HR := hide (wn_a ha hq)
      go_enter Tryd.func16, Tryd.ntmps16
      go_wp2_with fail
      go_ret
      exact ⟨ret_str HR.out.symm, hbn _⟩
  · by_cases hz : n = 0
    · have hz0 : u.port = 0 := by omega
      cases hq : u.asks
      · have HR := hide (wz_an ha hz0 hq)
        go_enter Tryd.func16, Tryd.ntmps16
        go_wp2_with fail
        go_ret
        exact ⟨ret_str HR.out.symm, hbn _⟩
      · have HR := hide (wz_aa ha hz0 hq)
        go_enter Tryd.func16, Tryd.ntmps16
        go_wp2_with fail
        go_ret
        exact ⟨ret_str HR.out.symm, hbn _⟩
    · have hzb : ((n : Int) == 0) = false := by rw [beq_eq_false_iff_ne]; omega
      have hzn : ¬ (n : Int) = 0 := by omega
      have hw : IntKind.u64.wrap (n : Int) = n := by simp [IntKind.wrap, IntKind.bits, IntKind.signed]; omega
      have hds := decS_le n (by omega)
      rw [ha, hn] at hnew
      cases hq : u.asks
      · have HR := hide (wd_an ha hn hz hq)
        rw [hq] at hnew
        rw [hn]
        go_enter Tryd.func16, Tryd.ntmps16
        go_wp2_with fail
        have hbz := hbn #[Value.bool true, Value.string u.host, Value.int IntKind.i64 (n : Int), Value.string u.path, Value.bool false, Value.string u.query]
        generalize w.alloc _ = W1 at hnew hbz ⊢
        refine (refDigits10 n (by omega) _).mono ?_
        rintro e w1 ⟨rfl, m, rfl⟩
        rw [decS_bytes]
        obtain ⟨c0, c1, c2, c3, c4, c5, -, -⟩ := hnew.drewN m
        rw [hq] at c4
        go_wp2_with fail
        go_ret
        exact ⟨ret_str HR.out.symm, hbz.trans ((below_drewN _ m).mono hbz.size)⟩
      · have HR := hide (wd_aa ha hn hz hq)
        rw [hq] at hnew
        rw [hn]
        go_enter Tryd.func16, Tryd.ntmps16
        go_wp2_with fail
        have hbz := hbn #[Value.bool true, Value.string u.host, Value.int IntKind.i64 (n : Int), Value.string u.path, Value.bool true, Value.string u.query]
        generalize w.alloc _ = W1 at hnew hbz ⊢
        refine (refDigits10 n (by omega) _).mono ?_
        rintro e w1 ⟨rfl, m, rfl⟩
        rw [decS_bytes]
        obtain ⟨c0, c1, c2, c3, c4, c5, -, -⟩ := hnew.drewN m
        rw [hq] at c4
        go_wp2_with fail
        go_ret
        exact ⟨ret_str HR.out.symm, hbz.trans ((below_drewN _ m).mono hbz.size)⟩

end Go.Proofs.YtjegoceebdiaaaaDoor
