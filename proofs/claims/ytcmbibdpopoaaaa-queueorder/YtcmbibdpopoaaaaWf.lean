/- The walks of Line and what it calls. -/
import Derived.Test.YtcmbibdpopoaaaaWd
import Derived.Lib.Bytealg
import Derived.Lib.IndexLaws
import Derived.Lib.Strings
namespace Go.Proofs.Ytcmbibdpopoaaaa
set_option linter.unusedVariables false
set_option linter.unusedSimpArgs false
open Go.RowKit

set_option maxHeartbeats 400000 in
theorem lite_index (s : ByteArray) (c : Int) (w : World) :
    Calls Try.prog 28 #[.string s, .int .u8 c] w fun e w' => e = .returned (.int .i64 (Lib.indexByte s.data.toList c.toNat.toUInt8)) ∧ w' = w := by
  go_enter Try.func28, Try.ntmps28
  go_wp2
  rw [run_callFunc_extern Try.func30 (by kernel_rfl) (by kernel_rfl) (by kernel_rfl) (e := Extern.BytealgIndexByte.indexByte) (by kernel_rfl), Lib.run_indexByteString]
  simp only [Result.andThen]
  rw [Oper.upon_value]
  go_wp2
  go_ret
  exact ⟨rfl, rfl⟩

set_option maxHeartbeats 400000 in
theorem index_any (s : ByteArray) (c : Int) (w : World) :
    Calls Try.prog 26 #[.string s, .int .u8 c] w fun e w' => e = .returned (.int .i64 (Lib.indexByte s.data.toList c.toNat.toUInt8)) ∧ w' = w := by
  go_enter Try.func26, Try.ntmps26
  go_wp2_with fail
  refine (lite_index _ _ _).mono ?_
  rintro e w' ⟨rfl, rfl⟩
  go_wp2_with fail
  go_ret
  exact ⟨rfl, rfl⟩

/-- The text ends with a byte 13. -/
def endsCr (s : ByteArray) : Bool := decide (1 ≤ s.size) && ((s.extract (s.size - 1) s.size).toList == [13])

/-- Without a byte 13 at its end. -/
def noCr (s : ByteArray) : ByteArray := if endsCr s then s.extract 0 (s.size - 1) else s

set_option maxHeartbeats 400000 in
theorem lite_hasSuffix (s : ByteArray) (w : World) (hs : s.size ≤ 100000) :
    Calls Try.prog 31 #[.string s, .string ⟨#[13]⟩] w fun e w' => e = .returned (.bool (endsCr s)) ∧ w' = w := by
  go_enter Try.func31, Try.ntmps31
  go_wp2
  all_goals
    go_ret
    refine ⟨?_, rfl⟩
    simp [endsCr]
    try (intros; omega)

set_option maxHeartbeats 400000 in
theorem lite_trim (s : ByteArray) (w : World) (hs : s.size ≤ 100000) :
    Calls Try.prog 29 #[.string s, .string ⟨#[13]⟩] w fun e w' => e = .returned (.string (noCr s)) ∧ w' = w := by
  cases h : endsCr s
  · have H : Hid (endsCr s = false) := h
    clear h
    go_enter Try.func29, Try.ntmps29
    go_wp2_with fail
    refine (lite_hasSuffix _ _ hs).mono ?_
    rintro e w' ⟨rfl, rfl⟩
    rw [H.out]
    go_wp2_with fail
    go_ret
    exact ⟨by simp [noCr, H.out], rfl⟩
  · have H : Hid (endsCr s = true) := h
    have h1 : (1 : Int) ≤ (s.size : Int) := by simp [endsCr] at h; omega
    clear h
    go_enter Try.func29, Try.ntmps29
    go_wp2_with fail
    refine (lite_hasSuffix _ _ hs).mono ?_
    rintro e w' ⟨rfl, rfl⟩
    rw [H.out]
    go_wp2_with fail
    go_ret
    refine ⟨?_, rfl⟩
    simp [noCr, H.out]

set_option maxHeartbeats 400000 in
theorem trim_any (s : ByteArray) (w : World) (hs : s.size ≤ 100000) :
    Calls Try.prog 27 #[.string s, .string ⟨#[13]⟩] w fun e w' => e = .returned (.string (noCr s)) ∧ w' = w := by
  go_enter Try.func27, Try.ntmps27
  go_wp2_with fail
  refine (lite_trim _ _ hs).mono ?_
  rintro e w' ⟨rfl, rfl⟩
  go_wp2_with fail
  go_ret
  exact ⟨rfl, rfl⟩

theorem cf25 (a : Array Value) (w1 : World) : Sem.run Try.prog (callFunc 25 a) w1 = .ok (.enter 25 a) w1 := by kernel_rfl

/-- Where the first byte 10 stands, or -1. -/
def nl (b : ByteArray) : Int := Lib.indexByte b.data.toList 10

set_option maxHeartbeats 400000 in
theorem line1 (a : Nat) (b : ByteArray) (d : Int) (hd : nl b = d) (w : World) (h0 : w.cell? ⟨a, 0, none⟩ = some (.string b)) :
    Calls Try.prog 25 #[.pointer (some ⟨a, 0, none⟩)] w fun e w' => e = .returned (.tuple #[.int .i64 (if d < 0 then 0 else d), .int .i64 (if d < 0 then 3 else 0)]) ∧ Below w.heap.size w w' := by
  have HD : Hid (nl b = d) := hd
  clear hd
  go_enter Try.func25, Try.ntmps25
  go_wp2_with fail
  refine (index_any _ _ _).mono ?_
  rintro e w' ⟨rfl, rfl⟩
  rw [show Lib.indexByte b.data.toList (Int.toNat 10).toUInt8 = nl b from rfl, HD.out]
  go_wp2_with fail
  all_goals
    go_ret2
    refine ⟨?_, Below.refl _ _⟩
    simp
    try omega

theorem nl_lt (b : ByteArray) : nl b < b.size := by
  unfold nl
  by_cases h : Lib.indexByte b.data.toList 10 < 0
  · omega
  · obtain ⟨o, ho⟩ : ∃ o : Nat, Lib.indexByte b.data.toList 10 = o := ⟨(Lib.indexByte b.data.toList 10).toNat, by omega⟩
    have h1 := (Lib.indexByte_some ho).1
    obtain ⟨h2, -⟩ := List.getElem?_eq_some_iff.1 h1
    have h3 : b.data.toList.length = b.size := by rw [Array.length_toList]; rfl
    omega

set_option maxHeartbeats 400000 in
theorem line_no (b : ByteArray) (c : Int) (w : World) (h : rightB b.size c = false) :
    Calls Try.prog 16 #[.agg #[.string b, .int .i64 c]] w fun e w' => e = .returned (.tuple #[.agg #[.string ⟨#[]⟩, .int .i64 0], .string ⟨#[]⟩, .int .i64 1]) ∧ Below w.heap.size w w' := by
  have H : Hid (rightB b.size c = false) := h
  clear h
  go_enter Try.func16, Try.ntmps16
  go_wp2_with fail
  refine (ask_no _ _ _ _ H.out).mono ?_
  rintro e w1 ⟨rfl, hb1⟩
  have c0 : w1.cell? ⟨w.heap.size + 1, 0, none⟩ = some (.string ⟨#[]⟩) := (hb1.cell (p := ⟨w.heap.size + 1, 0, none⟩) (by simp)).trans (by go_simp)
  have c1 : w1.cell? ⟨w.heap.size + 1, 1, none⟩ = some (.int .i64 0) := (hb1.cell (p := ⟨w.heap.size + 1, 1, none⟩) (by simp)).trans (by go_simp)
  have f0 : ∀ o, w1.frozen? ⟨w.heap.size + 1, o, none⟩ = false := fun o => (hb1.frozen (p := ⟨w.heap.size + 1, o, none⟩) (by simp)).trans (by go_simp)
  go_wp2_with fail
  refine bodyPost_ret (v := .tuple #[.agg #[.string ⟨#[]⟩, .int .i64 0], .string ⟨#[]⟩, .int .i64 1]) (by simp [results, Try.results16, go_sem, c0, c1]) rfl ⟨rfl, ?_⟩
  exact ((((Below.refl _ _).alloc (Nat.le_refl _) _).alloc (by simp) _).trans (hb1.mono (by simp; omega))).setCell (by simp) _ |>.setCell (by simp) _

set_option maxHeartbeats 400000 in
theorem line_short (b : ByteArray) (c : Int) (w : World) (h : rightB b.size c = true) (hn : nl b < 0) :
    Calls Try.prog 16 #[.agg #[.string b, .int .i64 c]] w fun e w' => e = .returned (.tuple #[.agg #[.string b, .int .i64 c], .string ⟨#[]⟩, .int .i64 3]) ∧ Below w.heap.size w w' := by
  have H : Hid (rightB b.size c = true) := h
  clear h
  have HN : Hid (nl b < 0) := hn
  clear hn
  go_enter Try.func16, Try.ntmps16
  go_wp2_with fail
  refine (ask_yes _ _ _ _ _ H.out 0 3 (cf25 _) ?_).mono ?_
  · intro w1 hw1
    refine (line1 _ b _ rfl w1 ?_).mono ?_
    · exact (hw1.cell (p := ⟨w.heap.size, 0, none⟩) (by simp; omega)).trans (by go_simp)
    · rintro e w2 ⟨rfl, hb2⟩
      exact ⟨by rw [if_pos HN.out, if_pos HN.out], hb2⟩
  rintro e w1 ⟨rfl, hb1⟩
  have a0 : w1.cell? ⟨w.heap.size, 0, none⟩ = some (.string b) := (hb1.cell (p := ⟨w.heap.size, 0, none⟩) (by simp; omega)).trans (by go_simp)
  have a1 : w1.cell? ⟨w.heap.size, 1, none⟩ = some (.int .i64 c) := (hb1.cell (p := ⟨w.heap.size, 1, none⟩) (by simp; omega)).trans (by go_simp)
  have c0 : w1.cell? ⟨w.heap.size + 1, 0, none⟩ = some (.string ⟨#[]⟩) := (hb1.cell (p := ⟨w.heap.size + 1, 0, none⟩) (by simp)).trans (by go_simp)
  have c1 : w1.cell? ⟨w.heap.size + 1, 1, none⟩ = some (.int .i64 0) := (hb1.cell (p := ⟨w.heap.size + 1, 1, none⟩) (by simp)).trans (by go_simp)
  have f0 : ∀ o, w1.frozen? ⟨w.heap.size + 1, o, none⟩ = false := fun o => (hb1.frozen (p := ⟨w.heap.size + 1, o, none⟩) (by simp)).trans (by go_simp)
  go_wp2_with fail
  refine bodyPost_ret (v := .tuple #[.agg #[.string b, .int .i64 c], .string ⟨#[]⟩, .int .i64 3]) (by simp [results, Try.results16, go_sem, c0, c1]) rfl ⟨rfl, ?_⟩
  exact ((((Below.refl _ _).alloc (Nat.le_refl _) _).alloc (by simp) _).trans (hb1.mono (by simp; omega))).setCell (by simp) _ |>.setCell (by simp) _

theorem i64_wrap_id (x : Int) (h1 : -1000000 ≤ x) (h2 : x ≤ 1000000) : IntKind.i64.wrap x = x := by
  simp [IntKind.wrap, IntKind.bits, IntKind.signed]
  omega

theorem without_succ (b : ByteArray) (c : Int) (i : Nat) (w : World) (hb : b.size ≤ 65536) (hk : i + 1 ≤ b.size) :
    Calls Try.prog 24 #[.agg #[.string b, .int .i64 c], .int .i64 ((i : Int) + 1)] w fun e w' => e = .returned (.agg #[.string (b.extract (i + 1) b.size), .int .i64 c]) ∧ Below w.heap.size w w' := by
  have := without_any b c (i + 1) w hb hk
  rwa [show ((i + 1 : Nat) : Int) = (i : Int) + 1 from by omega] at this

set_option maxHeartbeats 1000000 in
theorem line_yes (b : ByteArray) (c : Int) (i : Nat) (w : World) (h : rightB b.size c = true) (hn : nl b = i) :
    Calls Try.prog 16 #[.agg #[.string b, .int .i64 c]] w fun e w' => e = .returned (.tuple #[.agg #[.string (b.extract (i + 1) b.size), .int .i64 c], .string (noCr (b.extract 0 i)), .int .i64 0]) ∧ Below w.heap.size w w' := by
  obtain ⟨r1, r2, r3⟩ := rightB_true h
  have H : Hid (rightB b.size c = true) := h
  clear h
  have hlt : i < b.size := by have := nl_lt b; omega
  have hlt1 : (i : Int) ≤ (b.size : Int) := by omega
  have hlt2 : i + 1 ≤ b.size := by omega
  have HN : Hid (nl b = i) := hn
  clear hn
  have hns : ¬ ((i : Int) < 0) := by omega
  have hwr : IntKind.i64.wrap ((i : Int) + 1) = (i : Int) + 1 := i64_wrap_id _ (by omega) (by omega)
  go_enter Try.func16, Try.ntmps16
  go_wp2_with fail
  refine (ask_yes _ _ _ _ _ H.out i 0 (cf25 _) ?_).mono ?_
  · intro w1 hw1
    refine (line1 _ b _ HN.out w1 ?_).mono ?_
    · exact (hw1.cell (p := ⟨w.heap.size, 0, none⟩) (by simp; omega)).trans (by go_simp)
    · rintro e w2 ⟨rfl, hb2⟩
      exact ⟨by rw [if_neg (by omega), if_neg (by omega)], hb2⟩
  rintro e w1 ⟨rfl, hb1⟩
  have a0 : w1.cell? ⟨w.heap.size, 0, none⟩ = some (.string b) := (hb1.cell (p := ⟨w.heap.size, 0, none⟩) (by simp; omega)).trans (by go_simp)
  have a1 : w1.cell? ⟨w.heap.size, 1, none⟩ = some (.int .i64 c) := (hb1.cell (p := ⟨w.heap.size, 1, none⟩) (by simp; omega)).trans (by go_simp)
  have c0 : w1.cell? ⟨w.heap.size + 1, 0, none⟩ = some (.string ⟨#[]⟩) := (hb1.cell (p := ⟨w.heap.size + 1, 0, none⟩) (by simp)).trans (by go_simp)
  have c1 : w1.cell? ⟨w.heap.size + 1, 1, none⟩ = some (.int .i64 0) := (hb1.cell (p := ⟨w.heap.size + 1, 1, none⟩) (by simp)).trans (by go_simp)
  have f0 : ∀ o, w1.frozen? ⟨w.heap.size + 1, o, none⟩ = false := fun o => (hb1.frozen (p := ⟨w.heap.size + 1, o, none⟩) (by simp)).trans (by go_simp)
  have hz : w.heap.size + 1 < w1.heap.size := by have := hb1.size; simp at this; omega
  have hB1 : Below w.heap.size w w1 := (((Below.refl _ _).alloc (Nat.le_refl _) _).alloc (by simp) _).trans (hb1.mono (by simp; omega))
  clear hb1 HN
  go_wp2_with fail
  go_region_held3 (fun w' => Below (w.heap.size + 1) w1 w' ∧ w'.cell? ⟨w.heap.size, 0, none⟩ = some (.string b) ∧ w'.cell? ⟨w.heap.size, 1, none⟩ = some (.int .i64 c))
    (first | exact ⟨(Below.refl _ _).drew, a0, a1⟩ | exact keepTs (keepTs (by assumption) (by omega) (Nat.le_refl _)) (by omega) (Nat.le_refl _) | exact keepT (by assumption) (by assumption) (by omega) (by omega) | assumption)
    (first | (go_at_call 24; refine (without_succ b c i _ (by omega) hlt2).mono ?_; rintro e w' ⟨rfl, hw'⟩; have z0 := (hw'.cell (p := ⟨w.heap.size + 1, 0, none⟩) hz).trans c0; have z1 := (hw'.cell (p := ⟨w.heap.size + 1, 1, none⟩) hz).trans c1; have zf : ∀ o, w'.frozen? ⟨w.heap.size + 1, o, none⟩ = false := fun o => (hw'.frozen (p := ⟨w.heap.size + 1, o, none⟩) hz).trans (f0 o)) | (go_at_call 27; refine (trim_any _ _ (by simp; omega)).mono ?_; rintro e w' ⟨rfl, rfl⟩))
  rename_i hS
  go_wp2_with fail
  refine bodyPost_ret (v := .tuple #[.agg #[.string (b.extract (i + 1) b.size), .int .i64 c], .string (noCr (b.extract 0 i)), .int .i64 0]) (by simp [results, Try.results16, go_sem, z0, z1]) rfl ⟨rfl, ?_⟩
  exact hB1.trans (hS.1.mono (by omega))

end Go.Proofs.Ytcmbibdpopoaaaa
