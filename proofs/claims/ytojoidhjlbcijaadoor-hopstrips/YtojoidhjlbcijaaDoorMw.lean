/- What fields are for the next one alone, by plain reckoning: no condition beside each theorem's own. -/
import Derived.Test.YtojoidhjlbcijaaDoorMb
import Derived.Test.YtojoidhjlbcijaaDoorMs
namespace Go.Proofs.YtojoidhjlbcijaaDoor
set_option linter.unusedVariables false
set_option linter.unusedSimpArgs false
open Go.RowKit

/-- The names, in small letters, and as the program writes them. -/
def connectionwL : List UInt8 := [99, 111, 110, 110, 101, 99, 116, 105, 111, 110]
def connectionwS : ByteArray := ⟨#[67, 111, 110, 110, 101, 99, 116, 105, 111, 110]⟩
def keepalivewL : List UInt8 := [107, 101, 101, 112, 45, 97, 108, 105, 118, 101]
def keepalivewS : ByteArray := ⟨#[75, 101, 101, 112, 45, 65, 108, 105, 118, 101]⟩
def proxyconnectionwL : List UInt8 := [112, 114, 111, 120, 121, 45, 99, 111, 110, 110, 101, 99, 116, 105, 111, 110]
def proxyconnectionwS : ByteArray := ⟨#[80, 114, 111, 120, 121, 45, 67, 111, 110, 110, 101, 99, 116, 105, 111, 110]⟩
def tewL : List UInt8 := [116, 101]
def tewS : ByteArray := ⟨#[84, 69]⟩
def trailerwL : List UInt8 := [116, 114, 97, 105, 108, 101, 114]
def trailerwS : ByteArray := ⟨#[84, 114, 97, 105, 108, 101, 114]⟩
def transferencodingwL : List UInt8 := [116, 114, 97, 110, 115, 102, 101, 114, 45, 101, 110, 99, 111, 100, 105, 110, 103]
def transferencodingwS : ByteArray := ⟨#[84, 114, 97, 110, 115, 102, 101, 114, 45, 69, 110, 99, 111, 100, 105, 110, 103]⟩
def upgradewL : List UInt8 := [117, 112, 103, 114, 97, 100, 101]
def upgradewS : ByteArray := ⟨#[85, 112, 103, 114, 97, 100, 101]⟩
def contentlengthwL : List UInt8 := [99, 111, 110, 116, 101, 110, 116, 45, 108, 101, 110, 103, 116, 104]
def contentlengthwS : ByteArray := ⟨#[67, 111, 110, 116, 101, 110, 116, 45, 76, 101, 110, 103, 116, 104]⟩
def connW : ByteArray := ⟨#[99, 111, 110, 110, 101, 99, 116, 105, 111, 110]⟩
def connS : ByteArray := ⟨#[67, 111, 110, 110, 101, 99, 116, 105, 111, 110]⟩
def hostS : ByteArray := ⟨#[72, 111, 115, 116]⟩
def hostW : ByteArray := ⟨#[104, 111, 115, 116]⟩
def capS : ByteArray := ⟨#[83, 117, 114, 114, 111, 103, 97, 116, 101, 45, 67, 97, 112, 97, 98, 105, 108, 105, 116, 121]⟩
def capW : ByteArray := ⟨#[115, 117, 114, 114, 111, 103, 97, 116, 101, 45, 99, 97, 112, 97, 98, 105, 108, 105, 116, 121]⟩
def ctrS : ByteArray := ⟨#[83, 117, 114, 114, 111, 103, 97, 116, 101, 45, 67, 111, 110, 116, 114, 111, 108]⟩
def ctrW : ByteArray := ⟨#[115, 117, 114, 114, 111, 103, 97, 116, 101, 45, 99, 111, 110, 116, 114, 111, 108]⟩
def closeL : List UInt8 := [99, 108, 111, 115, 101]
def aliveL : List UInt8 := [107, 101, 101, 112, 45, 97, 108, 105, 118, 101]
def fixW : List (List UInt8) := [connectionwL, keepalivewL, proxyconnectionwL, tewL, trailerwL, transferencodingwL, upgradewL, contentlengthwL]

theorem nm_low {a b : ByteArray} (h : lowS a = lowS b) : nm a = nm b := by funext f; unfold nm sameB; rw [h]
theorem all_low {a b : ByteArray} (h : lowS a = lowS b) (L : List Fd) : allF a L = allF b L := by unfold allF; rw [nm_low h]
theorem del_low {a b : ByteArray} (h : lowS a = lowS b) (L : List Fd) : delF a L = delF b L := by unfold delF; rw [nm_low h]
theorem low_conn : lowS connW = lowS connS := by decide +kernel
theorem low_host : lowS hostW = lowS hostS := by decide +kernel
theorem low_cap : lowS capW = lowS capS := by decide +kernel
theorem low_ctr : lowS ctrW = lowS ctrS := by decide +kernel
theorem nm_iff (n : ByteArray) (f : Fd) : nm n f = decide (lowL f.1.data.toList = lowL n.data.toList) := by
  unfold nm sameB
  rw [ByteArray.toList_eq, ByteArray.toList_eq, lowS_list, lowS_list]
  rw [Bool.eq_iff_iff, beq_iff_eq, decide_eq_true_eq]

/-- A word that is told. -/
def wdL (p : List UInt8) : List UInt8 := lowL (trimL p)
/-- All words of a value; of a row. -/
def wsV (s : List UInt8) : List (List UInt8) := (splB 44 s).map wdL
def wds (L : List Fd) : List (List UInt8) := wsV (joinS (allF connS L)).data.toList
def aloneB (ws : List (List UInt8)) (x : List UInt8) : Bool := decide (lowL x ∈ fixW) || decide (lowL x ∈ ws)
def othF (ws : List (List UInt8)) (L : List Fd) : List Fd := L.filter fun f => !aloneB ws f.1.data.toList
def strF (L : List Fd) : List Fd := othF (wds L) L
def keepF (m : Int) (L : List Fd) : Bool := !decide (closeL ∈ wds L) && (decide (aliveL ∈ wds L) || decide (m = 1))

theorem oth_snoc (ws : List (List UInt8)) (L : List Fd) (f : Fd) : othF ws (L ++ [f]) = othF ws L ++ (if aloneB ws f.1.data.toList then [] else [f]) := by
  cases h : aloneB ws f.1.data.toList <;> simp [othF, h]
theorem oth_le (ws : List (List UInt8)) (L : List Fd) : (othF ws L).length ≤ L.length := List.length_filter_le _ _
theorem oth_mem {ws : List (List UInt8)} {L : List Fd} {f : Fd} (h : f ∈ othF ws L) : f ∈ L := (List.mem_filter.1 h).1
theorem filter_right {L : List Fd} (p : Fd → Bool) (h : rightF L = true) : rightF (L.filter p) = true := by
  unfold rightF at *
  simp only [Bool.and_eq_true, decide_eq_true_eq, List.all_eq_true] at *
  exact ⟨Nat.le_trans (List.length_filter_le _ _) h.1, fun x hx => h.2 x (List.mem_filter.1 hx).1⟩
theorem str_right {L : List Fd} (h : rightF L = true) : rightF (strF L) = true := filter_right _ h
theorem str_short {L : List Fd} (h : Sh L) : Sh (strF L) := fun f hf => h f (oth_mem hf)

theorem conn_fix : lowL connS.data.toList ∈ fixW := by decide +kernel
theorem wsV_nil : wsV [] = [[]] := by decide +kernel
/-- A row that tells nothing. -/
theorem wds_none {L : List Fd} (h : allF connS L = []) : wds L = [[]] := by
  unfold wds; rw [h, joinS_nil]; exact wsV_nil
theorem all_str (L : List Fd) : allF connS (strF L) = [] := all_none fun x hx => by
  have h := (List.mem_filter.1 hx).2
  rw [nm_iff, decide_eq_false_iff_not]
  intro e
  rw [aloneB, e, decide_eq_true conn_fix] at h
  simp at h
theorem tok_low {x : List UInt8} (h : tokL x = true) : lowL x ≠ [] := by
  intro e
  have := lowL_length x
  rw [e] at this
  have h0 : x = [] := List.length_eq_zero_iff.1 this.symm
  rw [h0] at h; simp [tokL] at h
/-- Names that are told alone by a row that tells nothing. -/
theorem alone_none {x : List UInt8} (h : tokL x = true) : aloneB [[]] x = decide (lowL x ∈ fixW) := by
  unfold aloneB
  rw [decide_eq_false (p := lowL x ∈ [[]]) (by simpa using tok_low h), Bool.or_false]
theorem right_tok {L : List Fd} (h : rightF L = true) {f : Fd} (hf : f ∈ L) : tokL f.1.data.toList = true ∧ f.2.size ≤ 1000 := by
  unfold rightF at h
  simp only [Bool.and_eq_true, List.all_eq_true] at h
  have := h.2 f hf
  unfold mayF valB at this
  simp only [Bool.and_eq_true, decide_eq_true_eq] at this
  exact ⟨this.1, this.2.1.1⟩
theorem oth_not {ws : List (List UInt8)} {L : List Fd} {f : Fd} (h : f ∈ othF ws L) : lowL f.1.data.toList ∉ fixW := by
  intro e
  have h := (List.mem_filter.1 h).2
  rw [aloneB, decide_eq_true e] at h; simp at h
theorem oth_same {L : List Fd} (hr : rightF L = true) (h : ∀ f ∈ L, lowL f.1.data.toList ∉ fixW) : othF [[]] L = L := by
  unfold othF
  rw [List.filter_eq_self]
  intro f hf
  rw [alone_none (right_tok hr hf).1, decide_eq_false (h f hf)]; rfl
/-- Stripped again it is the same. -/
theorem str_str {L : List Fd} (h : rightF L = true) : strF (strF L) = strF L := by
  have e : strF (strF L) = othF (wds (strF L)) (strF L) := rfl
  rw [e, wds_none (all_str L)]
  exact oth_same (str_right h) fun f hf => oth_not hf

/- What a row tells behind which a field is set. -/

theorem wsV_two (a b : List UInt8) : wsV (a ++ 44 :: b) = wsV a ++ wsV b := by unfold wsV; rw [splB_app, List.map_append]
theorem ws_closed : wsV (32 :: [120, 44, 32, 67, 76, 79, 83, 69]) = [[120], closeL] ∧ wsV [120, 44, 32, 67, 76, 79, 83, 69] = [[120], closeL] := by decide +kernel
theorem ws_kept : wsV (32 :: [75, 101, 101, 112, 45, 65, 108, 105, 118, 101]) = [aliveL] ∧ wsV [75, 101, 101, 112, 45, 65, 108, 105, 118, 101] = [aliveL] := by decide +kernel
theorem wds_snoc (L : List Fd) (f : Fd) (hf : nm connS f = true) : wds (L ++ [f]) = if allF connS L = [] then wsV f.2.data.toList else wds L ++ wsV (32 :: f.2.data.toList) := by
  unfold wds
  rw [all_snoc, if_pos hf]
  split
  · rename_i h; rw [h, List.nil_append, joinS_one]
  · rename_i h
    rw [joinS_snoc h, app_list, app_list, List.append_assoc, show (⟨#[44, 32]⟩ : ByteArray).data.toList ++ f.2.data.toList = 44 :: (32 :: f.2.data.toList) from rfl, wsV_two]

theorem keep_closed {L : List Fd} {f : Fd} (m : Int) (hf : nm connS f = true) (hv : f.2 = ⟨#[120, 44, 32, 67, 76, 79, 83, 69]⟩) : keepF m (L ++ [f]) = false := by
  have h : closeL ∈ wds (L ++ [f]) := by
    rw [wds_snoc L f hf, hv]
    split
    · show closeL ∈ wsV [120, 44, 32, 67, 76, 79, 83, 69]
      rw [ws_closed.2]; simp
    · rw [show (32 : UInt8) :: (⟨#[120, 44, 32, 67, 76, 79, 83, 69]⟩ : ByteArray).data.toList = 32 :: [120, 44, 32, 67, 76, 79, 83, 69] from rfl, ws_closed.1]; simp
  unfold keepF
  rw [decide_eq_true h]; rfl
theorem close_alive : closeL ∉ [aliveL] ∧ closeL ∉ [([] : List UInt8)] ∧ aliveL ∉ [([] : List UInt8)] := by decide +kernel
theorem keep_kept {L : List Fd} {f : Fd} (m : Int) (hf : nm connS f = true) (hv : f.2 = ⟨#[75, 101, 101, 112, 45, 65, 108, 105, 118, 101]⟩) : keepF m (L ++ [f]) = keepF 1 L := by
  have hk : keepF 1 L = !decide (closeL ∈ wds L) := by unfold keepF; simp
  rw [hk]
  by_cases h0 : allF connS L = []
  · have h1 : wds (L ++ [f]) = [aliveL] := by
      rw [wds_snoc L f hf, if_pos h0, hv]; exact ws_kept.2
    unfold keepF
    rw [h1, wds_none h0, decide_eq_false close_alive.1, decide_eq_false close_alive.2.1]
    simp
  · have h1 : wds (L ++ [f]) = wds L ++ [aliveL] := by
      rw [wds_snoc L f hf, if_neg h0, hv, show (32 : UInt8) :: (⟨#[75, 101, 101, 112, 45, 65, 108, 105, 118, 101]⟩ : ByteArray).data.toList = 32 :: [75, 101, 101, 112, 45, 65, 108, 105, 118, 101] from rfl, ws_kept.1]
    unfold keepF
    rw [h1]
    have e : decide (closeL ∈ wds L ++ [aliveL]) = decide (closeL ∈ wds L) := by
      have := close_alive.1
      rw [decide_eq_decide, List.mem_append]
      exact ⟨fun h => h.resolve_right this, Or.inl⟩
    rw [e, decide_eq_true (p := aliveL ∈ wds L ++ [aliveL]) (by simp)]
    simp
theorem keep_without (m : Int) (L : List Fd) : keepF m (delF connS L) = decide (m = 1) := by
  unfold keepF
  rw [wds_none (all_del connS L), decide_eq_false close_alive.2.1, decide_eq_false close_alive.2.2]
  simp

end Go.Proofs.YtojoidhjlbcijaaDoor
