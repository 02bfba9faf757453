/- Contracts: the reference's Same for lists of words; Words where nothing is listed; odd; awake. -/
import Derived.Test.YtohoiebofkmjeacDfaXW
import Derived.Lib.Bytes
namespace Go.Proofs.Ytohoiebofkmjeac
open Go Go.RowKit
set_option linter.unusedVariables false
theorem ext_list {u v : ByteArray} (h : u.data.toList = v.data.toList) : u = v := by
  obtain ⟨⟨a⟩⟩ := u; obtain ⟨⟨b⟩⟩ := v; simp at h; subst h; rfl

def eqS (l m : List ByteArray) : Bool := decide (l = m)
theorem eqS_self (l : List ByteArray) : eqS l l = true := by simp [eqS]
theorem RowSt.at {w : World} {a : Option Addr} {l : List ByteArray} (h : RowSt w a l) {j : Nat} (hj : j < l.length) : ∃ b off, a = some ⟨b, off, none⟩ ∧ w.cell? ⟨b, off + j, none⟩ = some (.string l[j]) := by
  obtain ⟨b, off, rfl, _, hc⟩ := RowV.at h hj
  exact ⟨b, off, rfl, by rw [hc]; simp [List.getD, hj]⟩
set_option maxHeartbeats 1000000 in
theorem sameS_eq (a : Option Addr) (c : Nat) (l : List ByteArray) (a' : Option Addr) (c' : Nat) (m : List ByteArray) (w : World) (hr : RowSt w a l) (hs : RowSt w a' m) (hn : l.length ≤ maxLen) (hlm : l.length = m.length) :
    Calls Try.prog 21 #[.slice a l.length c, .slice a' m.length c'] w fun e w' => e = .returned (.bool (eqS l m)) ∧ Below w.heap.size w w' := by
  have H1 := Lib.hid hr
  have H2 := Lib.hid hs
  have HL := Lib.hid hlm
  clear hr hs
  unfold maxLen at hn
  obtain ⟨n, hn1⟩ : ∃ n, n = l.length := ⟨_, rfl⟩
  rw [← hlm, ← hn1]
  rw [← hn1] at hn
  have HN := Lib.hid hn1
  clear hlm hn1
  go_enter Try.func21, Try.ntmps21
  go_wp2_with fail
  go_loopw [13] (fun i wr => ∃ j : Nat, j ≤ n ∧ i = .int .i64 j ∧ (∀ t : Nat, t < j → l[t]? = m[t]?) ∧ Below w.heap.size w wr) (fun i _ => n - (intOf i).toNat)
  case atStart => exact ⟨0, Nat.zero_le _, rfl, fun t ht => by omega, Below.refl _ _⟩
  case round =>
    obtain ⟨j, hj, rfl, hall, hb⟩ := hrel
    have HA := Lib.hid hall
    have HB := Lib.hid hb
    clear hall hb
    by_cases hlt : j < n
    · have hl1 : j < l.length := by rw [← HN.out]; exact hlt
      have hl2 : j < m.length := by rw [← HL.out]; exact hl1
      obtain ⟨b, off, rfl, hcj⟩ := (H1.out.keep HB.out).at hl1
      obtain ⟨b', off', rfl, hcj'⟩ := (H2.out.keep HB.out).at hl2
      have e1 := Lib.hid (List.getElem?_eq_getElem hl1)
      have e2 := Lib.hid (List.getElem?_eq_getElem hl2)
      generalize l[j] = x at *
      generalize m[j] = y at *
      clear hl1 hl2
      have hj0 : (0 : Int) ≤ (j : Int) := by omega
      have hjn : (j : Int) < (n : Int) := by omega
      by_cases hf : x = y
      · have h1 : (x.toList == y.toList) = true := by rw [hf]; simp
        have h2 : (x.toList != y.toList) = false := by rw [hf]; simp
        have HF := Lib.hid (show l[j]? = m[j]? by rw [e1.out, e2.out, hf])
        clear hf
        go_wp2_with fail
        go_quiet (fail)
        go_wp2_with fail
        exact ⟨⟨j + 1, by omega, by go_num, fun t ht => by
            by_cases et : t = j
            · subst et; exact HF.out
            · exact HA.out t (by omega), ⟨HB.out.os, HB.out.tape, HB.out.output, HB.out.size, HB.out.block⟩⟩, by simp [intOf]; omega⟩
      · have h1 : (x.toList == y.toList) = false := by
          rw [beq_eq_false_iff_ne, Lib.toList_data, Lib.toList_data]; exact fun e => hf (ext_list e)
        have h2 : (x.toList != y.toList) = true := by
          rw [bne_iff_ne, Lib.toList_data, Lib.toList_data]; exact fun e => hf (ext_list e)
        have HF := Lib.hid (show eqS l m = false by
          rw [eqS, decide_eq_false_iff_not]; intro h; apply hf
          have := e1.out; rw [h, e2.out] at this; injection this with this; exact this.symm)
        clear hf
        go_wp2_with fail
        go_quiet (fail)
        go_wp2_with fail
        go_ret
        exact ⟨by rw [HF.out]; rfl, ⟨HB.out.os, HB.out.tape, HB.out.output, HB.out.size, HB.out.block⟩⟩
    · obtain rfl : n = j := by omega
      have HF := Lib.hid (show eqS l m = true by
        rw [eqS, decide_eq_true_iff]
        apply List.ext_getElem?
        intro t
        by_cases ht : t < n
        · exact HA.out t ht
        · rw [List.getElem?_eq_none (by rw [← HN.out]; omega), List.getElem?_eq_none (by rw [← HL.out, ← HN.out]; omega)])
      go_wp2_with fail
      go_ret
      exact ⟨by rw [HF.out]; rfl, HB.out⟩
set_option maxHeartbeats 400000 in
/-- the reference's Same -/
theorem sameS_any (a : Option Addr) (c : Nat) (l : List ByteArray) (a' : Option Addr) (c' : Nat) (m : List ByteArray) (w : World) (hr : RowSt w a l) (hs : RowSt w a' m) (hn : l.length ≤ maxLen) :
    Calls Try.prog 21 #[.slice a l.length c, .slice a' m.length c'] w fun e w' => e = .returned (.bool (eqS l m)) ∧ Below w.heap.size w w' := by
  by_cases hnm : l.length = m.length
  · exact sameS_eq a c l a' c' m w hr hs hn hnm
  · have HF := Lib.hid (show eqS l m = false by rw [eqS, decide_eq_false_iff_not]; intro h; exact hnm (by rw [h]))
    have h1 : ((l.length : Int) != (m.length : Int)) = true := by rw [bne_iff_ne]; omega
    clear hnm hr hs
    go_enter Try.func21, Try.ntmps21
    go_wp2_with fail
    go_ret
    exact ⟨by rw [HF.out]; rfl, Below.refl _ _⟩


set_option maxHeartbeats 1000000 in
theorem words_bad (d : DF) (af : Option Addr) (cf : Nat) (an : Option Addr) (cn : Nat) (n : Int) (w : World) (hin : InD w d af an) (hv : valD d = false ∨ n < 0 ∨ 200 < n) :
    Calls Try.prog 8 #[dV d af cf an cn, .int .i64 n] w (GivesS w []) := by
  have HI := Lib.hid (hin.box (dO d af cf an cn))
  have HB0 := Lib.hid ((Below.refl w.heap.size w).alloc (Nat.le_refl _) (dO d af cf an cn))
  have HQ := Lib.hid (fun W (h : InD W d af an) => dvalid_any d af cf an cn W h)
  clear hin
  cases hd : valD d
  · rw [hd] at HQ
    clear hd hv
    go_enter Try.func8, Try.ntmps8
    go_wp2_with fail
    refine (HQ.out _ HI.out).mono ?_
    rintro e w2 ⟨rfl, hB⟩
    have HB1 := Lib.hid (HB0.out.trans (hB.mono (by simp)))
    clear hB
    go_wp2_with fail
    go_ret
    exact ⟨none, 0, rfl, .inl rfl, HB1.out⟩
  · have hv2 : n < 0 ∨ (0 ≤ n ∧ 200 < n) := by
      rcases hv with h | h | h
      · rw [hd] at h; cases h
      · exact .inl h
      · exact .inr ⟨by omega, h⟩
    rw [hd] at HQ
    clear hd hv
    rcases hv2 with h | ⟨h, h2⟩
    all_goals
      go_enter Try.func8, Try.ntmps8
      go_wp2_with fail
      refine (HQ.out _ HI.out).mono ?_
      rintro e w2 ⟨rfl, hB⟩
      have HB1 := Lib.hid (HB0.out.trans (hB.mono (by simp)))
      clear hB
      go_wp2_with fail
      go_ret
      exact ⟨none, 0, rfl, .inl rfl, HB1.out⟩
/-! ### odd -/
def oddD : DF := ⟨2, 0, 2, fun i => i == 1, 2, fun _ => 2, fun q x => if q = 0 then (if x = 0 then 1 else 0) else if x = 0 then 0 else 1⟩
theorem odd_val : valD oddD = true := by decide +kernel
def oddW : List ByteArray := [⟨#[97]⟩, ⟨#[97, 98]⟩, ⟨#[98, 97]⟩]
theorem odd_words3 : oddD.wds 3 3 = oddW := by decide +kernel
theorem odd_words : oddD.words 3 = oddW := by
  rw [oddD.words_full (k := 3) (by omega) (by rw [odd_words3]; decide), odd_words3]
theorem row_two {w : World} {b : Nat} {t : TypeId} {x y : Value} {f : Nat → Value} (h : w.heap[b]? = some (.cells #[x, y] t)) (h0 : f 0 = x) (h1 : f 1 = y) : RowV w (some ⟨b, 0, none⟩) 2 f := by
  have hb : b < w.heap.size := by
    apply Nat.lt_of_not_le; intro hle; rw [Array.getElem?_eq_none hle] at h; cases h
  refine .inr ⟨b, 0, rfl, hb, fun i hi => ?_⟩
  match i, hi with
  | 0, _ => simp [World.cell?, h, h0]
  | 1, _ => simp [World.cell?, h, h1]
theorem odd_in {w : World} {b0 b1 b2 b3 : Nat} (h0 : w.heap[b0]? = some (.cells #[.bool false, .bool true] 4)) (h1 : w.heap[b1]? = some (.cells #[.int .i64 1, .int .i64 0] 3)) (h2 : w.heap[b2]? = some (.cells #[.int .i64 0, .int .i64 1] 3))
    (h3 : w.heap[b3]? = some (.cells #[.slice (some ⟨b1, 0, none⟩) 2 2, .slice (some ⟨b2, 0, none⟩) 2 2] 30)) : InD w oddD (some ⟨b0, 0, none⟩) (some ⟨b3, 0, none⟩) := by
  have hb : b3 < w.heap.size := by
    apply Nat.lt_of_not_le; intro hle; rw [Array.getElem?_eq_none hle] at h3; cases h3
  refine ⟨row_two h0 rfl rfl, .inr ⟨b3, 0, rfl, hb, fun i hi => ?_⟩, by unfold B64 oddD; dsimp only; omega, by unfold B64 oddD; dsimp only; omega, by unfold oddD; dsimp only; omega, by unfold oddD; dsimp only; omega, fun i _ => by unfold oddD; dsimp only; omega, fun i x _ _ => by unfold B64 oddD; dsimp only; split <;> split <;> omega⟩
  match i, hi with
  | 0, _ => exact ⟨some ⟨b1, 0, none⟩, 2, by simp [World.cell?, h3]; rfl, row_two h1 rfl rfl⟩
  | 1, _ => exact ⟨some ⟨b2, 0, none⟩, 2, by simp [World.cell?, h3]; rfl, row_two h2 rfl rfl⟩
theorem heap_old1 {w : World} {o o' : Obj} {b : Nat} (h : w.heap[b]? = some o) : (w.alloc o').heap[b]? = some o := by
  have hb : b < w.heap.size := by
    apply Nat.lt_of_not_le; intro hle; rw [Array.getElem?_eq_none hle] at h; cases h
  rw [Below.heap_alloc _ _ _ hb]; exact h
theorem heap_new' {w : World} {o : Obj} {b : Nat} (h : b = w.heap.size) : (w.alloc o).heap[b]? = some o := by rw [h]; exact heap_new1 w o
set_option maxRecDepth 100000 in
set_option maxHeartbeats 2000000 in
theorem odd_any (w : World) : Calls Try.prog 22 #[] w fun e w' => ∃ af an, e = .returned (dV oddD af 2 an 2) ∧ InD w' oddD af an ∧ Below w.heap.size w w' := by
  go_enter Try.func22, Try.ntmps22
  go_wp2_with fail
  refine bodyPost_ret (v := .agg #[.int .i64 2, .int .i64 0, .slice (some ⟨w.heap.size + 1, 0, none⟩) 2 2, .slice (some ⟨w.heap.size + 4, 0, none⟩) 2 2]) (by simp [results, Try.results22, go_sem]) rfl ⟨some ⟨w.heap.size + 1, 0, none⟩, some ⟨w.heap.size + 4, 0, none⟩, rfl, odd_in (b1 := w.heap.size + 2) (b2 := w.heap.size + 3) ?_ ?_ ?_ ?_, ?_⟩
  · exact heap_old1 (heap_old1 (heap_old1 (heap_new' (by simp))))
  · exact heap_old1 (heap_old1 (heap_new' (by simp)))
  · exact heap_old1 (heap_new' (by simp))
  · exact heap_new' (by simp)
  · exact (((((Below.refl w.heap.size w).alloc (Nat.le_refl _) _).alloc (by simp) _).alloc (by simp; omega) _).alloc (by simp; omega) _).alloc (by simp; omega) _
theorem strs3 {w : World} {b : Nat} {x y z : ByteArray} (h : w.heap[b]? = some (.cells #[.string x, .string y, .string z] 9)) : RowSt w (some ⟨b, 0, none⟩) [x, y, z] := by
  have hb : b < w.heap.size := by
    apply Nat.lt_of_not_le; intro hle; rw [Array.getElem?_eq_none hle] at h; cases h
  refine .inr ⟨b, 0, rfl, hb, fun i hi => ?_⟩
  match i, hi with
  | 0, _ => simp [World.cell?, h]
  | 1, _ => simp [World.cell?, h]
  | 2, _ => simp [World.cell?, h]
set_option maxRecDepth 100000 in
set_option maxHeartbeats 2000000 in
theorem awake_any (w : World) : Calls Try.prog 7 #[] w fun e w' => e = .returned (.bool true) ∧ Below w.heap.size w w' := by
  have HW := Lib.hid (fun af an W (h : InD W oddD af an) => words_ok oddD af 2 an 2 3 W h (valD_iff.1 odd_val) (by omega))
  rw [odd_words] at HW
  have HS := Lib.hid (fun a c a' c' W h1 h2 => sameS_any a c oddW a' c' oddW W h1 h2 (by unfold maxLen oddW; simp))
  rw [eqS_self, show oddW.length = 3 from rfl] at HS
  unfold GivesS at HW
  rw [show oddW.length = 3 from rfl] at HW
  unfold dV at HW
  go_enter Try.func7, Try.ntmps7
  go_wp2_with fail
  refine (odd_any _).mono ?_
  rintro e w1 ⟨af, an, rfl, hin, hB⟩
  have HI := Lib.hid hin
  have HB1 := Lib.hid hB
  clear hin hB
  unfold dV
  go_wp2_with fail
  refine (HW.out af an _ HI.out).mono ?_
  rintro e w2 ⟨r, c, rfl, hr, hB⟩
  have HR := Lib.hid hr
  have HB2 := Lib.hid (HB1.out.trans (hB.mono HB1.out.size))
  clear hr hB
  go_wp2_with fail
  refine (HS.out r c _ 3 _ (HR.out.keep ((Below.refl _ _).alloc (Nat.le_refl _) _)) (strs3 (heap_new1 _ _))).mono ?_
  rintro e w3 ⟨rfl, hB⟩
  have HB3 := Lib.hid ((HB2.out.alloc HB2.out.size _).trans (hB.mono (by have := HB2.out.size; simp; omega)))
  clear hB
  go_wp2_with fail
  go_ret
  exact ⟨rfl, HB3.out⟩
end Go.Proofs.Ytohoiebofkmjeac
