/- Addresses whose scheme and host are written in great letters, by plain reckoning. -/
import Derived.Test.YtjegoceebdiaaaaDoorMy
import Derived.Lib.Case
namespace Go.Proofs.YtjegoceebdiaaaaDoor
set_option linter.unusedVariables false
set_option linter.unusedSimpArgs false

/-- A text in great letters. -/
def upS (s : ByteArray) : ByteArray := ⟨(Lib.toUpperA s.data.toList).toArray⟩
theorem upS_list (s : ByteArray) : (upS s).data.toList = s.data.toList.map Lib.upperB := by simp [upS, Lib.toUpperA]
theorem upS_size (s : ByteArray) : (upS s).size = s.size := by rw [← size_list, upS_list, List.length_map, size_list]

theorem up_host_fin : ((List.range 256).all fun n => decide (hostB (UInt8.ofNat n) = true → lowB (Lib.upperB (UInt8.ofNat n)) = UInt8.ofNat n ∧ lowB (UInt8.ofNat n) = UInt8.ofNat n ∧ (UInt8.ofNat n).toNat < 128)) = true := by decide +kernel
theorem up_host {c : UInt8} (h : hostB c = true) : lowB (Lib.upperB c) = c ∧ lowB c = c ∧ c.toNat < 128 := by
  have := u8_all (fun c => decide (hostB c = true → lowB (Lib.upperB c) = c ∧ lowB c = c ∧ c.toNat < 128)) up_host_fin c
  rw [decide_eq_true_eq] at this
  exact this h

theorem low_up {l : List UInt8} (h : ∀ c ∈ l, hostB c = true) : lowL (l.map Lib.upperB) = l := by
  induction l with
  | nil => rfl
  | cons x l ih =>
    have := ih (fun c hc => h c (by simp [hc]))
    unfold lowL at this ⊢
    rw [List.map_cons, List.map_cons, (up_host (h x (by simp))).1, this]

/-- The text of an address up to the end of its host, and what is behind. -/
def headS (u : U) : ByteArray := (wrS u).extract 0 (7 + u.host.size)
def tailS (u : U) : ByteArray := (wrS u).extract (7 + u.host.size) (wrS u).size

theorem wr_form {u : U} (ha : u.abs = true) : wrL u = (httpL ++ u.host.data.toList) ++ (prtL u.port ++ (u.path.data.toList ++ qryL u.asks u.query.data.toList)) := by
  unfold wrL; rw [ha, if_pos rfl]; simp only [List.append_assoc]
theorem head_len (u : U) : (httpL ++ u.host.data.toList).length = 7 + u.host.size := by rw [List.length_append, size_list]; rfl
theorem headS_list {u : U} (ha : u.abs = true) : (headS u).data.toList = httpL ++ u.host.data.toList := by
  unfold headS
  rw [ext_take, wrS_list, wr_form ha, ← head_len u, List.take_left]
theorem tailS_list {u : U} (ha : u.abs = true) : (tailS u).data.toList = prtL u.port ++ (u.path.data.toList ++ qryL u.asks u.query.data.toList) := by
  unfold tailS
  rw [ext_drop, wrS_list, wr_form ha, ← head_len u, List.drop_left]
theorem wr_long {u : U} (ha : u.abs = true) : 7 + u.host.size ≤ (wrS u).size := by
  rw [wrS_size, wr_form ha, List.length_append, head_len u]; omega

theorem host_all {u : U} (h : rtU u = true) (ha : u.abs = true) : ∀ c ∈ u.host.data.toList, hostB c = true := by
  have hk := (rt_abs h ha).1
  unfold hostOk allB at hk
  simp only [Bool.and_eq_true] at hk
  exact List.all_eq_true.1 hk.2
theorem host_len {u : U} (h : rtU u = true) (ha : u.abs = true) : u.host.data.toList.length ≤ 100 := by
  have hk := (rt_abs h ha).1
  unfold hostOk at hk
  simp only [Bool.and_eq_true, decide_eq_true_eq] at hk
  exact hk.1.2

/-- The head is ASCII. -/
theorem head_ascii {u : U} (h : rtU u = true) (ha : u.abs = true) : ∀ (j : Nat) (b : UInt8), (headS u).data.toList[j]? = some b → b.toNat < 128 := by
  intro j b hb
  have hm := List.mem_of_getElem? hb
  rw [headS_list ha] at hm
  rcases List.mem_append.1 hm with hm | hm
  · have : ∀ c ∈ httpL, c.toNat < 128 := by decide
    exact this b hm
  · exact (up_host (host_all h ha b hm)).2.2

theorem ps_of {l : List UInt8} {u : U} (hl : l.length ≤ 500) (hc : cand l = u) (h : rtU u = true) : psU l = u ∧ psE l = 0 := by
  have hn : ¬ 500 < l.length := by omega
  unfold psU psE
  rw [if_neg hn, if_neg hn, hc, h]
  exact ⟨rfl, rfl⟩

/-- In great letters it is read the same. -/
theorem ps_up {u : U} (h : rtU u = true) (ha : u.abs = true) : psU (upS (headS u) ++ tailS u).data.toList = u ∧ psE (upS (headS u) ++ tailS u).data.toList = 0 := by
  have e : (upS (headS u) ++ tailS u).data.toList = httpL.map Lib.upperB ++ (u.host.data.toList.map Lib.upperB ++ prtL u.port ++ (u.path.data.toList ++ qryL u.asks u.query.data.toList)) := by
    rw [app_list, upS_list, headS_list ha, tailS_list ha, List.map_append]
    simp only [List.append_assoc]
  have hl : (upS (headS u) ++ tailS u).data.toList.length ≤ 500 := by
    have := rt_len h
    rw [wr_form ha] at this
    rw [app_list, List.length_append, upS_list, List.length_map, headS_list ha, tailS_list ha, ← List.length_append]
    exact this
  rw [e] at hl ⊢
  exact ps_of hl (cand_back_abs h ha (by decide +kernel) (low_up (host_all h ha))) h

/-- What a scheme and a host alone are. -/
def bareU (u : U) : U := ⟨true, u.host, 0, ⟨#[47]⟩, false, ⟨#[]⟩⟩
theorem bare_right {u : U} (h : rtU u = true) (ha : u.abs = true) : rtU (bareU u) = true := by
  have hk := (rt_abs h ha).1
  have hh := host_len h ha
  have h1 : placeB (bareU u) = true := place_abs rfl hk (by show (0 : Int) ≤ 0; omega) (by show (0 : Int) ≤ 65535; omega) (by show pre [47] [47] = true; rfl)
  have h2 : bytesB (bareU u) = true := bytes_ok (by show ∀ c ∈ [(47 : UInt8)], addrB c = true; decide) (by show ∀ c ∈ ([] : List UInt8), addrB c = true; simp) (by show (63 : UInt8) ∉ [(47 : UInt8)]; decide) (Or.inr rfl)
  rw [rt_of h1 h2, decide_eq_true_eq, wr_form rfl]
  show ((httpL ++ u.host.data.toList) ++ ([] ++ ([47] ++ []))).length ≤ 500
  simp only [List.length_append, List.length_cons, List.length_nil, httpL]
  omega
theorem ps_bare {u : U} (h : rtU u = true) (ha : u.abs = true) : psU (headS u).data.toList = bareU u ∧ psE (headS u).data.toList = 0 := by
  have hk := (rt_abs h ha).1
  have hh := host_len h ha
  rw [headS_list ha]
  refine ps_of (by simp only [List.length_append, List.length_cons, List.length_nil, httpL]; omega) ?_ (bare_right h ha)
  have hl : lowL u.host.data.toList = u.host.data.toList := lowL_same (fun c hc => (up_host (host_all h ha c hc)).2.1)
  have := cand_written (P := httpL) (h := u.host.data.toList) (H := u.host.data.toList) (t := []) (p := 0) (by decide +kernel) hl hk (by omega) (by omega) (Or.inl rfl)
  rw [show prtL 0 = [] from rfl, List.append_nil, List.append_nil] at this
  rw [this, bytes_back]
  rfl

end Go.Proofs.YtjegoceebdiaaaaDoor
