/- Data as chunks, the end, and how they are read, by plain reckoning: no condition beside each theorem's own. The walk of the statements' own question whether anything answers. -/
import Derived.Test.YtmpijlaidnhpnaaGreatDoorJHm
import Derived.Test.YtmpijlaidnhpnaaGreatDoorJKf
namespace Go.Proofs.YtmpijlaidnhpnaaGreatDoor.Ck
set_option linter.unusedVariables false
set_option linter.unusedSimpArgs false
set_option maxRecDepth 100000

/-- Nothing is being read, and so much was. -/
def zk (n : Int) : K := ⟨0, ⟨#[]⟩, 0, n⟩
def hexL (u : Nat) : List UInt8 := dgs 16 (by omega) u
/-- Data as a chunk. -/
def encL (x : List UInt8) : List UInt8 := if x = [] then [] else hexL x.length ++ [13, 10] ++ x ++ [13, 10]

theorem hexL_vl (u : Nat) : ∀ c ∈ hexL u, vl c < 16 := by
  have h := dgs_okay (b := 16) (by omega) (by omega) u
  intro c hc
  have := List.all_eq_true.1 h c hc
  simpa using this
theorem vl_ne {c d : UInt8} (h : vl c < 16) (g : vl d = 16) : c ≠ d := fun e => by rw [e, g] at h; omega
theorem hexL_ne (u : Nat) (d : UInt8) (g : vl d = 16) : ∀ c ∈ hexL u, neB d c = true := fun c hc => by
  have := vl_ne (hexL_vl u c hc) g
  simpa [neB] using this
theorem hexL_blank (u : Nat) : ∀ c ∈ hexL u, blankB c = false := fun c hc => by
  have h := hexL_vl u c hc
  have h1 : c ≠ 32 := vl_ne h (by decide)
  have h2 : c ≠ 9 := vl_ne h (by decide)
  unfold blankB
  simp [h1, h2]
theorem hexL_len (u : Nat) (h : u < 18446744073709551616) : (hexL u).length ≤ 16 := dgs_length_lt _ 15 u (by omega)

theorem hex_read (u : Nat) (h : u ≤ 1099511627776) : hexE (hexL u) = 0 ∧ hexN (hexL u) = u := by
  have h1 : (hexL u).takeWhile (neB 59) = hexL u := by
    have := tw_all (hexL_ne u 59 (by decide)) []
    rw [List.append_nil] at this
    rw [this]; simp
  have h2 : trimL (hexL u) = hexL u := trimL_same (fun c hc => hexL_blank u c (List.mem_of_head? hc)) (fun c hc => hexL_blank u c (List.mem_of_getLast? hc))
  have h3 := backN 16 (by omega) (by omega) 0 u
  rw [List.replicate_zero, List.nil_append, if_neg (by omega), if_neg (by omega)] at h3
  unfold hexE hexN
  rw [h1, h2]
  exact h3

theorem kl_zk (n : Int) : kl (zk n) ⟨#[]⟩ = zk n := rfl

/-- The line of a size. -/
theorem run_size (n : Int) (u : Nat) (h : u ≤ 1099511627776) (t : List UInt8) :
    run (zk n) (hexL u ++ [13, 10] ++ t) = if 20000 - n < (u : Int) then bad 2 else if u = 0 then run ⟨3, ⟨#[]⟩, 0, n⟩ t else run ⟨1, ⟨#[]⟩, (u : Int), n⟩ t := by
  have hl := hexL_len u (by omega)
  have e : hexL u ++ [13, 10] ++ t = (hexL u ++ [13]) ++ 10 :: t := by simp
  have hno : ∀ c ∈ hexL u ++ [13], neB 10 c = true := by
    intro c hc
    rcases List.mem_append.1 hc with hc | hc
    · exact hexL_ne u 10 (by decide) c hc
    · obtain rfl : c = 13 := by simpa using hc
      decide
  obtain ⟨h1, h2⟩ := hex_read u h
  rw [e, run_line (k := zk n) t (by simp [zk]) (by simp [zk]) hno (by show 0 + _ ≤ _; rw [List.length_append]; simp only [List.length_cons, List.length_nil]; omega)]
  have hb : bareL ((zk n).line.data.toList ++ (hexL u ++ [13])) = hexL u := by
    show bareL ([] ++ (hexL u ++ [13])) = _
    rw [List.nil_append, bareL_snoc]
  rw [hb, kl_zk]
  have hd : dd (zk n) (hexL u) = if 20000 - n < (u : Int) then (2, zk n) else if u = 0 then (0, ⟨3, ⟨#[]⟩, 0, n⟩) else (0, ⟨1, ⟨#[]⟩, (u : Int), n⟩) := by
    unfold dd
    rw [if_pos (show (zk n).st = 0 from rfl), h1, h2, if_neg (by decide)]
    by_cases g : 20000 - n < (u : Int)
    · rw [if_pos (show (0 : Nat) ≠ 0 ∨ 20000 - (zk n).size < (u : Int) from Or.inr g), if_pos g]
    · rw [if_neg (show ¬ ((0 : Nat) ≠ 0 ∨ 20000 - (zk n).size < (u : Int)) by simp; exact Int.not_lt.1 g), if_neg g]; rfl
  rw [hd]
  by_cases g : 20000 - n < (u : Int)
  · rw [if_pos g, if_pos g]; rfl
  · rw [if_neg g, if_neg g]
    by_cases g2 : u = 0
    · rw [if_pos g2, if_pos g2]; rfl
    · rw [if_neg g2, if_neg g2]; rfl

/-- An empty line. -/
theorem run_empty {k : K} (h1 : k.st ≠ 1) (h4 : k.st ≠ 4) (hl : k.line = ⟨#[]⟩) (t : List UInt8) :
    run k ([13, 10] ++ t) = if (dd k []).1 = 0 then run (dd k []).2 t else bad (dd k []).1 := by
  have e : kl k ⟨#[]⟩ = k := by cases k; simp only at hl; subst hl; rfl
  have := run_line (k := k) (x := [13]) t h1 h4 (by decide) (by rw [hl]; decide)
  rw [e, hl] at this
  exact this

/-- Data as a chunk are read as these data. -/
theorem run_enc (n : Nat) (x : List UInt8) (h : n + x.length ≤ 20000) (t : List UInt8) : run (zk n) (encL x ++ t) = (run (zk ((n + x.length : Nat) : Int)) t).on x := by
  unfold encL
  by_cases hx : x = []
  · subst hx; rw [if_pos rfl, on_nil]; rfl
  · have hp : 0 < x.length := List.length_pos_iff.2 hx
    rw [if_neg hx, show hexL x.length ++ [13, 10] ++ x ++ [13, 10] ++ t = hexL x.length ++ [13, 10] ++ (x ++ ([13, 10] ++ t)) by simp, run_size n x.length (by omega), if_neg (by omega), if_neg (by omega),
      run_data _ ⟨1, ⟨#[]⟩, (x.length : Int), n⟩ x.length rfl (by show (1 : Int) ≤ x.length; omega) (by show x.length = min ((x.length : Int)).toNat _; rw [List.length_append]; omega)]
    rw [List.take_left', List.drop_left' rfl]
    · congr 1
      have e : kd ⟨1, ⟨#[]⟩, (x.length : Int), n⟩ x.length = ⟨2, ⟨#[]⟩, 0, ((n + x.length : Nat) : Int)⟩ := by
        unfold kd
        simp only [Int.sub_self, if_true, K.mk.injEq, true_and]
        omega
      rw [e, run_empty (by simp) (by simp) rfl]
      rfl
    · rfl
theorem run_enc_long (n : Nat) (x : List UInt8) (h : 20000 < n + x.length) (hx : x ≠ []) (hl : x.length ≤ 1000000) (t : List UInt8) : run (zk n) (encL x ++ t) = bad 2 := by
  unfold encL
  rw [if_neg hx, show hexL x.length ++ [13, 10] ++ x ++ [13, 10] ++ t = hexL x.length ++ [13, 10] ++ (x ++ ([13, 10] ++ t)) by simp, run_size n x.length (by omega), if_pos (by omega)]

def endL : List UInt8 := [48, 13, 10, 13, 10]
def tailL : List UInt8 := [48, 59, 97, 61, 98, 13, 10, 116, 58, 32, 49, 10, 117, 58, 32, 50, 13, 10, 13, 10]
theorem run_last (n : Int) (t : List UInt8) : run ⟨3, ⟨#[]⟩, 0, n⟩ ([13, 10] ++ t) = ⟨0, ⟨4, ⟨#[]⟩, 0, n⟩, [], t⟩ := by
  rw [run_empty (by simp) (by simp) rfl]
  show (if (0 : Nat) = 0 then run ⟨4, ⟨#[]⟩, 0, n⟩ t else _) = _
  rw [if_pos rfl, run_done rfl]
theorem run_end (n : Int) (hn : n ≤ 20000) (t : List UInt8) : run (zk n) (endL ++ t) = ⟨0, ⟨4, ⟨#[]⟩, 0, n⟩, [], t⟩ := by
  have := run_size n 0 (by omega) ([13, 10] ++ t)
  rw [if_neg (by omega), if_pos rfl, run_last] at this
  exact this
theorem run_pass (n : Int) (x t : List UInt8) (h : ∀ c ∈ x, neB 10 c = true) (hl : x.length ≤ 200) (hb : bareL x ≠ []) : run ⟨3, ⟨#[]⟩, 0, n⟩ (x ++ 10 :: t) = run ⟨3, ⟨#[]⟩, 0, n⟩ t := by
  rw [run_line (k := ⟨3, ⟨#[]⟩, 0, n⟩) t (by simp) (by simp) h (by show 0 + _ ≤ _; omega)]
  have e : dd (kl ⟨3, ⟨#[]⟩, 0, n⟩ ⟨#[]⟩) (bareL ((⟨3, ⟨#[]⟩, 0, n⟩ : K).line.data.toList ++ x)) = (0, ⟨3, ⟨#[]⟩, 0, n⟩) := by
    show dd ⟨3, ⟨#[]⟩, 0, n⟩ (bareL ([] ++ x)) = _
    rw [List.nil_append]
    unfold dd
    rw [if_neg (by simp), if_neg (by simp), if_neg hb]
  rw [e, if_pos rfl]
theorem run_tail (n : Int) (hn : n ≤ 20000) (t : List UInt8) : run (zk n) (tailL ++ t) = ⟨0, ⟨4, ⟨#[]⟩, 0, n⟩, [], t⟩ := by
  have h1 : run (zk n) ([48, 59, 97, 61, 98, 13] ++ 10 :: ([116, 58, 32, 49] ++ 10 :: ([117, 58, 32, 50, 13] ++ 10 :: ([13, 10] ++ t)))) = run ⟨3, ⟨#[]⟩, 0, n⟩ ([116, 58, 32, 49] ++ 10 :: ([117, 58, 32, 50, 13] ++ 10 :: ([13, 10] ++ t))) := by
    rw [run_line (k := zk n) _ (by simp [zk]) (by simp [zk]) (by decide) (by show 0 + _ ≤ _; decide)]
    have e : dd (kl (zk n) ⟨#[]⟩) (bareL ((zk n).line.data.toList ++ [48, 59, 97, 61, 98, 13])) = (0, ⟨3, ⟨#[]⟩, 0, n⟩) := by
      show dd (zk n) (bareL ([] ++ [48, 59, 97, 61, 98, 13])) = _
      rw [show bareL ([] ++ [48, 59, 97, 61, 98, 13]) = [48, 59, 97, 61, 98] by decide +kernel]
      unfold dd
      rw [if_pos (show (zk n).st = 0 from rfl), show hexE [48, 59, 97, 61, 98] = 0 by decide +kernel, show hexN [48, 59, 97, 61, 98] = 0 by decide +kernel, if_neg (by decide), if_neg (by simp [zk]; omega), if_pos rfl]
      rfl
    rw [e, if_pos rfl]
  have h2 := run_pass n [116, 58, 32, 49] ([117, 58, 32, 50, 13] ++ 10 :: ([13, 10] ++ t)) (by decide) (by decide) (by decide +kernel)
  have h3 := run_pass n [117, 58, 32, 50, 13] ([13, 10] ++ t) (by decide) (by decide) (by decide +kernel)
  rw [h2, h3, run_last] at h1
  exact h1

/-- Chunks one behind the other. -/
def encs (l : List (List UInt8)) : List UInt8 := (l.map encL).flatten
theorem run_encs : ∀ (l : List (List UInt8)) (n : Nat) (t : List UInt8), n + l.flatten.length ≤ 20000 → run (zk n) (encs l ++ t) = (run (zk ((n + l.flatten.length : Nat) : Int)) t).on l.flatten
  | [], n, t, _ => by rw [List.flatten_nil, on_nil]; rfl
  | x :: l, n, t, h => by
    rw [List.flatten_cons, List.length_append] at h ⊢
    have e : encs (x :: l) ++ t = encL x ++ (encs l ++ t) := by unfold encs; rw [List.map_cons, List.flatten_cons, List.append_assoc]
    rw [e, run_enc n x (by omega), run_encs l (n + x.length) t (by omega), on_on, Nat.add_assoc]
theorem zk0 : zk 0 = k0 := rfl
/-- Data in chunks, and the end, are read as these data. -/
theorem run_back (l : List (List UInt8)) (m : List UInt8) (h : l.flatten.length ≤ 20000) : run k0 (encs l ++ (endL ++ m)) = ⟨0, ⟨4, ⟨#[]⟩, 0, (l.flatten.length : Int)⟩, l.flatten, m⟩ := by
  have := run_encs l 0 (endL ++ m) (by omega)
  rw [show ((0 : Nat) : Int) = 0 from rfl, zk0, Nat.zero_add, run_end _ (by omega)] at this
  rw [this]; unfold Rs.on; rw [if_pos rfl, List.append_nil]
theorem run_tails (l : List (List UInt8)) (h : l.flatten.length ≤ 20000) : run k0 (encs l ++ tailL) = ⟨0, ⟨4, ⟨#[]⟩, 0, (l.flatten.length : Int)⟩, l.flatten, []⟩ := by
  have h1 := run_encs l 0 (tailL ++ []) (by omega)
  rw [show ((0 : Nat) : Int) = 0 from rfl, zk0, Nat.zero_add, run_tail _ (by omega), List.append_nil] at h1
  rw [h1]; unfold Rs.on; rw [if_pos rfl, List.append_nil]
theorem run_some (l : List (List UInt8)) (h : l.flatten.length ≤ 20000) : run k0 (encs l) = ⟨0, zk (l.flatten.length : Int), l.flatten, []⟩ := by
  have h1 := run_encs l 0 [] (by omega)
  rw [show ((0 : Nat) : Int) = 0 from rfl, zk0, Nat.zero_add, List.append_nil] at h1
  rw [h1]
  show Rs.on _ ⟨0, _, [], []⟩ = _
  unfold Rs.on; rw [if_pos rfl, List.append_nil]
theorem run_much (x y : List UInt8) (hx : x.length ≤ 20000) (hy : y ≠ []) (hl : y.length ≤ 1000000) (h : 20000 < x.length + y.length) : run k0 (encL x ++ encL y) = bad 2 := by
  have h1 := run_enc 0 x (by omega) (encL y)
  rw [show ((0 : Nat) : Int) = 0 from rfl, zk0, Nat.zero_add] at h1
  have h2 := run_enc_long x.length y h hy hl []
  rw [List.append_nil] at h2
  rw [h1, h2, on_bad (by decide)]
theorem run_alive : run k0 [51, 13, 10, 97, 98, 99, 13, 10, 48, 13, 10, 13, 10] = ⟨0, ⟨4, ⟨#[]⟩, 0, 3⟩, [97, 98, 99], []⟩ := by
  have := run_back [[97, 98, 99]] [] (by decide)
  rw [show encs [[97, 98, 99]] ++ (endL ++ []) = [51, 13, 10, 97, 98, 99, 13, 10, 48, 13, 10, 13, 10] by decide +kernel] at this
  exact this

end Go.Proofs.YtmpijlaidnhpnaaGreatDoor.Ck

namespace Go.Proofs.YtmpijlaidnhpnaaGreatDoor.Ck
set_option linter.unusedVariables false
set_option linter.unusedSimpArgs false
set_option maxRecDepth 100000
open Go.RowKit

theorem fd_zero (l : List UInt8) : fd k0 l = run k0 l := by unfold fd; rw [if_pos ((rt_good k0).2 good0)]

/-- The value that nothing was read yet. -/
theorem feed_zero (s : ByteArray) (w : World) (hs : s.size ≤ 1000000) :
    Calls Tryz.prog 142 #[.agg #[.int .i64 0, .string ⟨#[]⟩, .int .i64 0, .int .i64 0], .string s] w fun e w' => e = .returned (fdV k0 s.data.toList) ∧ Below w.heap.size w w' :=
  feed_any k0 s w (by decide) hs

theorem alive_v : fdV k0 (⟨#[51, 13, 10, 97, 98, 99, 13, 10, 48, 13, 10, 13, 10]⟩ : ByteArray).data.toList = .tuple #[.agg #[.int .i64 4, .string ⟨#[]⟩, .int .i64 0, .int .i64 3], .string ⟨#[97, 98, 99]⟩, .int .i64 13, .int .i64 0] := by
  rw [show (⟨#[51, 13, 10, 97, 98, 99, 13, 10, 48, 13, 10, 13, 10]⟩ : ByteArray).data.toList = [51, 13, 10, 97, 98, 99, 13, 10, 48, 13, 10, 13, 10] from rfl, fdV_good ((fd_zero _).trans run_alive)]
  rfl

end Go.Proofs.YtmpijlaidnhpnaaGreatDoor.Ck
