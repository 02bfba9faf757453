/- Facts: the listed words are the accepted ones. -/
import Derived.Test.YtohoiebofkmjeacDfaG
import Derived.Test.YtohoiebofkmjeacDfaR
namespace Go.Proofs.Ytohoiebofkmjeac
open Go
open Go.Proofs.Ytohoiebofkmjeac.wrd.WordM (wordB letB mayB ltW ltW_trans ltW_irrefl ext_list cmpW cmpW_lt cmpW_gt)
set_option linter.unusedVariables false
def bytesX (xs : List Nat) : List Int := xs.map fun (x : Nat) => 97 + (x : Int)
theorem bytesX_data (xs : List Nat) : (strOfNums (bytesX xs)).data.toList = xs.map fun x => UInt8.ofNat (97 + x) := by
  rw [strOfNums_data, bytesX, List.map_map]
  refine List.map_congr_left fun x _ => ?_
  show UInt8.ofNat (97 + (x : Int)).toNat = _
  congr 1
theorem byte_nat {x : Nat} (h : x < 6) : (UInt8.ofNat (97 + x)).toNat = 97 + x := by
  simp only [UInt8.toNat_ofNat']; omega
theorem letsD_bytes {xs : List Nat} (h : ∀ x, x ∈ xs → x < 6) : letsD (strOfNums (bytesX xs)) = xs := by
  unfold letsD
  rw [bytesX_data, List.map_map]
  conv => rhs; rw [← List.map_id xs]
  refine List.map_congr_left fun x hx => ?_
  show (UInt8.ofNat (97 + x)).toNat - 97 = x
  rw [byte_nat (h x hx)]; omega
theorem word_bytes {L : Int} {xs : List Nat} (h1 : 1 ≤ L) (h6 : L ≤ 6) (hl : xs.length ≤ 2048) (h : ∀ x, x ∈ xs → (x : Int) < L) : wordB L (strOfNums (bytesX xs)).data.toList = true := by
  rw [bytesX_data]
  simp only [wordB, Bool.and_eq_true, decide_eq_true_eq, List.all_eq_true]
  refine ⟨⟨wrd.WordM.mayB_iff.2 ⟨h1, h6⟩, by simpa using hl⟩, fun b hb => ?_⟩
  obtain ⟨x, hx, rfl⟩ := List.mem_map.1 hb
  have := h x hx
  rw [wrd.WordM.letB_iff, byte_nat (by omega)]
  omega
theorem bytes_lets {L : Int} {s : ByteArray} (h : wordB L s.data.toList = true) : s = strOfNums (bytesX (letsD s)) := by
  apply ext_list
  rw [bytesX_data]
  unfold letsD
  rw [List.map_map]
  conv => lhs; rw [← List.map_id s.data.toList]
  refine List.map_congr_left fun b hb => ?_
  simp only [wordB, Bool.and_eq_true, List.all_eq_true] at h
  have h1 := (wrd.WordM.letB_iff.1 (h.2 b hb)).1
  show b = UInt8.ofNat (97 + (b.toNat - 97))
  apply UInt8.toNat_inj.1
  have := b.toNat_lt
  simp only [UInt8.toNat_ofNat']; omega
theorem OkD.l6 {d : DF} (h : OkD d) : d.L.toNat ≤ 6 := by have := h.l2; omega
/-- the words of at most 2048 letters that are accepted are all words of the list -/
theorem OkD.acc_iff {d : DF} (h : OkD d) (u : ByteArray) : u ∈ d.allw 2049 ↔ d.accV u = true := by
  have hl1 := h.l1
  have hl2 := h.l2
  constructor
  · intro hu
    have hsz := d.allw_size hu
    obtain ⟨k, hk, hu⟩ := List.mem_flatMap.1 hu
    obtain ⟨xs, e1, e2, rfl, e4⟩ := (d.full_mem _ _ _ u).1 hu
    have e5 : ∀ x, x ∈ xs → x < 6 := fun x hx => by have := e2 x hx; omega
    rw [List.nil_append] at hsz ⊢
    rw [show (xs.map fun (x : Nat) => 97 + (x : Int)) = bytesX xs from rfl] at hsz ⊢
    rw [strOfNums_size] at hsz
    have hw : wordB d.L (strOfNums (bytesX xs)).data.toList = true := word_bytes hl1 hl2 (by simp [bytesX] at hsz; omega) (fun x hx => by have := e2 x hx; omega)
    unfold DF.accV
    rw [hw, letsD_bytes e5, e4]; rfl
  · intro hu
    unfold DF.accV at hu
    rw [Bool.and_eq_true] at hu
    obtain ⟨hw, hf⟩ := hu
    have hsz := word_size hw
    refine List.mem_flatMap.2 ⟨(letsD u).length, List.mem_range.2 (by rw [letsD_len]; omega), (d.full_mem _ _ _ u).2 ⟨letsD u, rfl, fun x hx => by have := lets_lt hw x hx; omega, ?_, hf⟩⟩
    rw [List.nil_append]; exact bytes_lets hw
theorem DF.words_take (d : DF) (n : Nat) : d.words n = (d.allw 2049).take n := d.wds_allw n 2049
theorem OkD.w_acc {d : DF} (h : OkD d) {n : Nat} {u : ByteArray} (hu : u ∈ d.words n) : d.accV u = true := by
  rw [d.words_take] at hu; exact (h.acc_iff u).1 (List.mem_of_mem_take hu)
theorem OkD.w_asc {d : DF} (h : OkD d) (n : Nat) : (d.words n).Pairwise ltW := by
  rw [d.words_take]; exact (d.allw_asc h.l6 2049).sublist (List.take_sublist _ _)
theorem OkD.w_cmp {d : DF} (h : OkD d) {n i : Nat} {u v : ByteArray} (hu : (d.words n)[i]? = some u) (hv : (d.words n)[i + 1]? = some v) : cmpW u v = -1 := by
  obtain ⟨h1, rfl⟩ := List.getElem?_eq_some_iff.1 hu
  obtain ⟨h2, rfl⟩ := List.getElem?_eq_some_iff.1 hv
  exact cmpW_lt (List.pairwise_iff_getElem.1 (h.w_asc n) i (i + 1) h1 h2 (by omega))
theorem OkD.w_miss {d : DF} (h : OkD d) {n : Nat} {u : ByteArray} (hn : 0 < n) (ha : d.accV u = true) (hu : u ∉ d.words n) : (d.words n).length = n ∧ ∀ v, (d.words n)[n - 1]? = some v → cmpW u v = 1 := by
  rw [d.words_take] at hu ⊢
  have hm := (h.acc_iff u).2 ha
  obtain ⟨j, hj, rfl⟩ := List.mem_iff_getElem.1 hm
  have hjn : n ≤ j := by
    apply Nat.le_of_not_lt; intro hlt
    exact hu (List.mem_take_iff_getElem.2 ⟨j, by omega, rfl⟩)
  have hlen : ((d.allw 2049).take n).length = n := by rw [List.length_take]; omega
  refine ⟨hlen, fun v hv => cmpW_gt ?_⟩
  obtain ⟨h1, rfl⟩ := List.getElem?_eq_some_iff.1 hv
  rw [List.getElem_take]
  exact List.pairwise_iff_getElem.1 (d.allw_asc h.l6 2049) (n - 1) j (by omega) hj (by omega)
theorem OkD.w_cnt {d : DF} (h : OkD d) {n k : Nat} (hk : k ≤ 8) (hc : (d.words n).length < n ∨ ∃ u, u ∈ d.words n ∧ k < u.size) : d.cn k d.S.toNat % pr61 = cntK (d.words n) k := by
  rw [d.words_take] at hc ⊢
  rw [d.words_cnt (by omega) hc]
  apply Nat.mod_eq_of_lt
  have h1 := d.cn_le h.l6 k d.S.toNat
  have h2 : 6 ^ k ≤ 6 ^ 8 := Nat.pow_le_pow_right (by omega) hk
  have h3 : (6 : Nat) ^ 8 = 1679616 := by decide
  unfold pr61; omega
theorem DF.words_len (d : DF) (n : Nat) : (d.words n).length ≤ n := by rw [d.words_take, List.length_take]; omega
theorem DF.words_short (d : DF) {n : Nat} {u : ByteArray} (hu : u ∈ d.words n) : u.size ≤ 2049 := by
  rw [d.words_take] at hu
  have := d.allw_size (List.mem_of_mem_take hu)
  omega
end Go.Proofs.Ytohoiebofkmjeac
