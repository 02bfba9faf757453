/- Contract: the reference's Insert. -/
import Derived.Test.YtbmbgdfnhbkelabWordSM
import Derived.Test.YtbmbgdfnhbkelabWordCR
namespace Go.Proofs.Ytbmbgdfnhbkelab
open Go Go.RowKit
open WordM
set_option linter.unusedVariables false

theorem own_lit0 (W : World) (base : Nat) (h : base ≤ W.heap.size) (e : TypeId) : (W.alloc (.cells #[] e)).ownsRow base e 1 (.slice (some ⟨W.heap.size, 0, none⟩) 0 0) 0 [] :=
  World.ownsRow_lit W #[] 0 h (by unfold maxLen; omega) rfl

theorem rowS_inv {l : List ByteArray} {j : Nat} {u : Value} (h : (rowS l)[j]? = some u) : ∃ z, l[j]? = some z ∧ u = .string z := by
  simp only [rowS, List.getElem?_map, Option.map_eq_some_iff] at h
  obtain ⟨z, h1, rfl⟩ := h
  exact ⟨z, h1, rfl⟩
theorem take_inv {l : List ByteArray} {j k : Nat} {z : ByteArray} (h : (l.take k)[j]? = some z) : j < k ∧ l[j]? = some z := by
  rw [List.getElem?_take] at h
  split at h
  · exact ⟨by assumption, h⟩
  · cases h
/-- the world at the first append, whatever the order -/
theorem first_below (w : World) (x : ByteArray) (W : World) (h : W = (w.alloc (.cells #[] 9)).drew ∨ W = ((w.alloc (.cells #[] 9)).alloc (.cells #[.string x] 9)).drew ∨ W = ((w.alloc (.cells #[.string x] 9)).alloc (.cells #[] 9)).drew) : Below w.heap.size w W := by
  rcases h with rfl | rfl | rfl
  · exact ((Below.refl _ w).alloc (Nat.le_refl _) _).drew
  · exact (((Below.refl _ w).alloc (Nat.le_refl _) _).alloc (by simp) _).drew
  · exact (((Below.refl _ w).alloc (Nat.le_refl _) _).alloc (by simp) _).drew
theorem first_own (w : World) (x : ByteArray) (W : World) {g : Nat} (h : (g = w.heap.size ∧ W = (w.alloc (.cells #[] 9)).drew) ∨ (g = w.heap.size ∧ W = ((w.alloc (.cells #[] 9)).alloc (.cells #[.string x] 9)).drew) ∨ (g = w.heap.size + 1 ∧ W = ((w.alloc (.cells #[.string x] 9)).alloc (.cells #[] 9)).drew)) :
    W.ownsRow w.heap.size 9 1 (.slice (some ⟨g, 0, none⟩) 0 0) 0 [] := by
  rcases h with ⟨rfl, rfl⟩ | ⟨rfl, rfl⟩ | ⟨rfl, rfl⟩
  · exact own_lit0 w _ (Nat.le_refl _) _
  · exact (own_lit0 w _ (Nat.le_refl _) _).alloc _
  · have := own_lit0 (w.alloc (.cells #[.string x] 9)) w.heap.size (by simp) 9
    have h2 : ((w.alloc (.cells #[.string x] 9)).alloc (.cells #[] 9)).ownsRow w.heap.size 9 1 (.slice (some ⟨w.heap.size + 1, 0, none⟩) 0 0) 0 [] := by simpa using this
    exact h2

theorem own_ins {w : World} {base : Nat} {e : TypeId} {v : Value} {l : List ByteArray} {x : ByteArray} {k n : Nat} (hk : k ≤ n) (hn : n = l.length) (h : w.ownsRow base e 1 v (0 + k + 1 + (n - k)) ([] ++ rowS (l.take k) ++ [Value.string x] ++ rowS (l.drop k))) :
    w.ownsRow base e 1 v (l.take k ++ [x] ++ l.drop k).length (rowS (l.take k ++ [x] ++ l.drop k)) := by
  have e1 : (l.take k ++ [x] ++ l.drop k).length = 0 + k + 1 + (n - k) := by
    rw [List.length_append, List.length_append, List.length_take, List.length_drop]; simp; omega
  rw [e1, rowS_append, rowS_append]
  exact h

set_option maxRecDepth 100000 in
set_option maxHeartbeats 4000000 in
theorem insert_some (b off c : Nat) (l : List ByteArray) (x : ByteArray) (w : World) (hr : RowS w (some ⟨b, off, none⟩) c l) (hl : l.length ≤ 1048576) (hx : x.size ≤ maxLen) (hls : ∀ y, y ∈ l → y.size ≤ maxLen) :
    Calls Try.prog 21 #[.slice (some ⟨b, off, none⟩) l.length c, .string x] w (GivesS w (insF l x)) := by
  obtain ⟨hbz, hlc, hcm, hcell⟩ : b < w.heap.size ∧ l.length ≤ c ∧ c ≤ maxLen ∧ ∀ (i : Nat) (x : ByteArray), l[i]? = some x → w.cell? ⟨b, off + i, none⟩ = some (.string x) := by
    rcases hr with ⟨h, _⟩ | ⟨b', off', he, h⟩
    · cases h
    · obtain ⟨rfl, rfl⟩ : b = b' ∧ off = off' := by injection he with he; injection he with h1 h2; exact ⟨h1, h2⟩
      exact h
  have HR := Lib.hid hr
  have HC := Lib.hid hcell
  have HLS := Lib.hid hls
  have HX := Lib.hid hx
  clear hr hcell hls hx
  unfold maxLen at hcm
  obtain ⟨i0, hi, hz0, hz1, hz2⟩ := info_parts infoS
  obtain ⟨n, hn⟩ : ∃ n, n = l.length := ⟨_, rfl⟩
  rw [← hn] at hl hlc ⊢
  have HN := Lib.hid hn
  clear hn
  go_enter Try.func21, Try.ntmps21
  go_wp2_with fail
  go_loop [5] (fun vk => ∃ k : Nat, k ≤ n ∧ vk = .int .i64 k ∧ posN l x n = posN l x k) (fun vk => (intOf vk).toNat)
  case atStart => exact ⟨n, Nat.le_refl _, rfl, rfl⟩
  case round =>
    obtain ⟨k, hk, rfl, hp⟩ := hrel
    have HP := Lib.hid hp
    clear hp
    by_cases h0 : 0 < k
    · have hlk : k - 1 < l.length := by rw [← HN.out]; omega
      have hck := HC.out (k - 1) _ (List.getElem?_eq_getElem hlk)
      have hgd : l.getD (k - 1) ⟨#[]⟩ = l[k - 1] := by rw [List.getD_eq_getElem?_getD, List.getElem?_eq_getElem hlk]; rfl
      have hys := HLS.out _ (List.getElem_mem hlk)
      have HGD := Lib.hid hgd
      have hmem := Lib.hid (List.getElem?_eq_getElem hlk)
      generalize l[k - 1] = y at *
      clear hgd
      have e1 : (off : Int) + ((k : Int) - 1) = ((off + (k - 1) : Nat) : Int) := by omega
      clear e1
      by_cases hc : cmpW x y < 0
      · have HPS := Lib.hid (show posN l x k = posN l x (k - 1) by
          obtain ⟨k', rfl⟩ : ∃ k', k = k' + 1 := ⟨k - 1, by omega⟩
          rw [posN_yes (by rw [Nat.add_sub_cancel] at HGD; rw [HGD.out]; exact hc)]; rfl)
        go_wp2_with fail
        refine (rcompare_any x y HX.out hys _).mono ?_
        rintro e w' ⟨rfl, rfl⟩
        go_wp2_with fail
        exact ⟨⟨k - 1, by omega, by go_num, by rw [HP.out, HPS.out]⟩, by simp [intOf]; omega⟩
      · have hpk : posN l x n = k := by
          rw [HP.out]
          obtain ⟨k', rfl⟩ : ∃ k', k = k' + 1 := ⟨k - 1, by omega⟩
          rw [posN_no (by rw [Nat.add_sub_cancel] at HGD; rw [HGD.out]; exact hc)]
        by_cases hyx : y = x
        · have HF := Lib.hid (show insF l x = l by
            rw [insF, ← HN.out, hpk, if_pos ⟨h0, by rw [HGD.out, hyx]⟩])
          have hb1 : (y.toList == x.toList) = true := by rw [hyx]; simp
          clear hpk hyx
          go_wp2_with fail
          refine (rcompare_any x y HX.out hys _).mono ?_
          rintro e w' ⟨rfl, rfl⟩
          go_wp2_with fail
          go_ret
          exact ⟨some ⟨b, off, none⟩, c, by rw [HF.out, ← HN.out]; rfl, by rw [HF.out]; exact HR.out, Below.refl _ _⟩
        · have HF := Lib.hid (show insF l x = l.take k ++ [x] ++ l.drop k by
            rw [insF, ← HN.out, hpk, if_neg (fun h => hyx (by rw [← HGD.out]; exact h.2))])
          have hb1 : (y.toList == x.toList) = false := by
            rw [beq_eq_false_iff_ne, Lib.toList_data, Lib.toList_data]; intro h; exact hyx (ext_list h)
          clear hpk hyx
          go_wp2_with fail
          refine (rcompare_any x y HX.out hys _).mono ?_
          rintro e w' ⟨rfl, rfl⟩
          go_wp2_with fail
          have hk0 : (0 : Int) ≤ (k : Int) := by omega
          have hkn : (k : Int) ≤ (n : Int) := by omega
          have hkc : (k : Int) ≤ (c : Int) := by omega
          have HT2 := Lib.hid (show ∀ j u, (rowS (l.take k))[j]? = some u → w.cell? ((⟨b, off, none⟩ : Addr).add j) = some u from fun j u hu => by
            obtain ⟨z, hz, rfl⟩ := rowS_inv hu
            have h2 : (⟨b, off, none⟩ : Addr).add j = ⟨b, off + j, none⟩ := by unfold Addr.add; split <;> simp_all
            rw [h2]
            exact HC.out j z (take_inv hz).2)
          have HT1 := Lib.hid (show (rowS (l.take k)).length = k by rw [rowS_length, List.length_take]; have := HN.out; omega)
          obtain ⟨A, hA, hAb, hAc⟩ : ∃ A : Addr, (if c = k then some (⟨b, off, none⟩ : Addr) else some ⟨b, off + k, none⟩) = some A ∧ A.block = b ∧ Hid (∀ j u, (rowS (l.drop k))[j]? = some u → w.cell? (A.add j) = some u) := by
            by_cases h : c = k
            · refine ⟨⟨b, off, none⟩, by simp [h], rfl, fun j u hu => ?_⟩
              obtain ⟨z, hz, rfl⟩ := rowS_inv hu
              rw [List.getElem?_drop] at hz
              have := (List.getElem?_eq_some_iff.1 hz).1
              have := HN.out
              omega
            · refine ⟨⟨b, off + k, none⟩, by simp [h], rfl, fun j u hu => ?_⟩
              obtain ⟨z, hz, rfl⟩ := rowS_inv hu
              rw [List.getElem?_drop] at hz
              have h2 : (⟨b, off + k, none⟩ : Addr).add j = ⟨b, off + (k + j), none⟩ := by unfold Addr.add; split <;> simp_all <;> omega
              rw [h2]
              exact HC.out _ _ hz
          have HAB := Lib.hid (show A.block < w.heap.size by rw [hAb]; exact hbz)
          have HD1 := Lib.hid (show (rowS (l.drop k)).length = n - k by rw [rowS_length, List.length_drop]; have := HN.out; omega)
          have HBZ := Lib.hid hbz
          have m1 : 0 + k ≤ maxLen := by unfold maxLen; omega
          have m2 : (0 + k) * 16 ≤ 140737488355328 := by omega
          have m3 : 0 + k + 1 ≤ maxLen := by unfold maxLen; omega
          have m4 : (0 + k + 1) * 16 ≤ 140737488355328 := by omega
          have m5 : 0 + k + 1 + (n - k) ≤ maxLen := by unfold maxLen; omega
          have m6 : (0 + k + 1 + (n - k)) * 16 ≤ 140737488355328 := by omega
          have M1 := Lib.hid m1
          have M2 := Lib.hid m2
          have M3 := Lib.hid m3
          have M4 := Lib.hid m4
          have M5 := Lib.hid m5
          have M6 := Lib.hid m6
          clear m1 m2 m3 m4 m5 m6 hAb
          go_region_law (first
            | (refine step_append_from rfl (.tmp 34) (.tmp 37) 23 rfl w 9 i0 (.string ⟨#[]⟩) 16 Try.underlying23 hi hz0 hz1 hz2 rfl (.slice (some ⟨_, 0, none⟩) 0 0) 0 [] rfl (first_own w x _ (by first | exact .inl ⟨rfl, rfl⟩ | exact .inr (.inl ⟨rfl, rfl⟩) | exact .inr (.inr ⟨by simp, rfl⟩))) ⟨b, off, none⟩ k c (rowS (l.take k)) rfl HT1.out HT2.out HBZ.out rowS_one M1.out M2.out (first_below w x _ (by first | exact .inl rfl | exact .inr (.inl rfl) | exact .inr (.inr rfl))) ?_; intro v1 w1 ho1 hg1 hn1 hb1)
            | (refine step_append_one rfl (.tmp 38) (.tmp 40) 23 rfl w 9 i0 (.string ⟨#[]⟩) 16 Try.underlying23 hi hz0 hz1 hz2 rfl v1 (0 + k) ([] ++ rowS (l.take k)) rfl (by first | exact ho1 | exact ho1.alloc _) _ 1 (.string x) rfl (by first | (simp; done) | exact hg1.cell (by simp) (by simp [Value.ownBlock])) rfl M3.out M4.out (by first | exact hb1 | exact hb1.alloc hb1.size _) ?_; intro v2 w2 ho2 hg2 hn2 hb2)
            | (refine step_append_from rfl (.tmp 41) (.tmp 44) 23 rfl w 9 i0 (.string ⟨#[]⟩) 16 Try.underlying23 hi hz0 hz1 hz2 rfl v2 (0 + k + 1) ([] ++ rowS (l.take k) ++ [.string x]) rfl ho2 A (n - k) (c - k) (rowS (l.drop k)) rfl HD1.out hAc.out HAB.out rowS_one M5.out M6.out hb2 ?_; intro v3 w3 ho3 hg3 hn3 hb3))
          all_goals
            obtain ⟨a4, c4, rfl, hrow⟩ := RowS.of_own (own_ins hk HN.out ho3)
            go_wp2_with fail
            go_ret
            exact ⟨a4, c4, by rw [HF.out]; rfl, by rw [HF.out]; exact hrow, hb3⟩
    · have hk00 : k = 0 := by omega
      have HF := Lib.hid (show insF l x = l.take k ++ [x] ++ l.drop k by
        rw [insF, ← HN.out, HP.out, hk00, posN, if_neg (fun h => absurd h.1 (by omega))])
      clear hk00
      go_wp2_with fail
      have hk0 : (0 : Int) ≤ (k : Int) := by omega
      have hkn : (k : Int) ≤ (n : Int) := by omega
      have hkc : (k : Int) ≤ (c : Int) := by omega
      have HT2 := Lib.hid (show ∀ j u, (rowS (l.take k))[j]? = some u → w.cell? ((⟨b, off, none⟩ : Addr).add j) = some u from fun j u hu => by
        obtain ⟨z, hz, rfl⟩ := rowS_inv hu
        have h2 : (⟨b, off, none⟩ : Addr).add j = ⟨b, off + j, none⟩ := by unfold Addr.add; split <;> simp_all
        rw [h2]
        exact HC.out j z (take_inv hz).2)
      have HT1 := Lib.hid (show (rowS (l.take k)).length = k by rw [rowS_length, List.length_take]; have := HN.out; omega)
      obtain ⟨A, hA, hAb, hAc⟩ : ∃ A : Addr, (if c = k then some (⟨b, off, none⟩ : Addr) else some ⟨b, off + k, none⟩) = some A ∧ A.block = b ∧ Hid (∀ j u, (rowS (l.drop k))[j]? = some u → w.cell? (A.add j) = some u) := by
        by_cases h : c = k
        · refine ⟨⟨b, off, none⟩, by simp [h], rfl, fun j u hu => ?_⟩
          obtain ⟨z, hz, rfl⟩ := rowS_inv hu
          rw [List.getElem?_drop] at hz
          have := (List.getElem?_eq_some_iff.1 hz).1
          have := HN.out
          omega
        · refine ⟨⟨b, off + k, none⟩, by simp [h], rfl, fun j u hu => ?_⟩
          obtain ⟨z, hz, rfl⟩ := rowS_inv hu
          rw [List.getElem?_drop] at hz
          have h2 : (⟨b, off + k, none⟩ : Addr).add j = ⟨b, off + (k + j), none⟩ := by unfold Addr.add; split <;> simp_all <;> omega
          rw [h2]
          exact HC.out _ _ hz
      have HAB := Lib.hid (show A.block < w.heap.size by rw [hAb]; exact hbz)
      have HD1 := Lib.hid (show (rowS (l.drop k)).length = n - k by rw [rowS_length, List.length_drop]; have := HN.out; omega)
      have HBZ := Lib.hid hbz
      have m1 : 0 + k ≤ maxLen := by unfold maxLen; omega
      have m2 : (0 + k) * 16 ≤ 140737488355328 := by omega
      have m3 : 0 + k + 1 ≤ maxLen := by unfold maxLen; omega
      have m4 : (0 + k + 1) * 16 ≤ 140737488355328 := by omega
      have m5 : 0 + k + 1 + (n - k) ≤ maxLen := by unfold maxLen; omega
      have m6 : (0 + k + 1 + (n - k)) * 16 ≤ 140737488355328 := by omega
      have M1 := Lib.hid m1
      have M2 := Lib.hid m2
      have M3 := Lib.hid m3
      have M4 := Lib.hid m4
      have M5 := Lib.hid m5
      have M6 := Lib.hid m6
      clear m1 m2 m3 m4 m5 m6 hAb
      go_region_law (first
        | (refine step_append_from rfl (.tmp 34) (.tmp 37) 23 rfl w 9 i0 (.string ⟨#[]⟩) 16 Try.underlying23 hi hz0 hz1 hz2 rfl (.slice (some ⟨_, 0, none⟩) 0 0) 0 [] rfl (first_own w x _ (by first | exact .inl ⟨rfl, rfl⟩ | exact .inr (.inl ⟨rfl, rfl⟩) | exact .inr (.inr ⟨by simp, rfl⟩))) ⟨b, off, none⟩ k c (rowS (l.take k)) rfl HT1.out HT2.out HBZ.out rowS_one M1.out M2.out (first_below w x _ (by first | exact .inl rfl | exact .inr (.inl rfl) | exact .inr (.inr rfl))) ?_; intro v1 w1 ho1 hg1 hn1 hb1)
        | (refine step_append_one rfl (.tmp 38) (.tmp 40) 23 rfl w 9 i0 (.string ⟨#[]⟩) 16 Try.underlying23 hi hz0 hz1 hz2 rfl v1 (0 + k) ([] ++ rowS (l.take k)) rfl (by first | exact ho1 | exact ho1.alloc _) _ 1 (.string x) rfl (by first | (simp; done) | exact hg1.cell (by simp) (by simp [Value.ownBlock])) rfl M3.out M4.out (by first | exact hb1 | exact hb1.alloc hb1.size _) ?_; intro v2 w2 ho2 hg2 hn2 hb2)
        | (refine step_append_from rfl (.tmp 41) (.tmp 44) 23 rfl w 9 i0 (.string ⟨#[]⟩) 16 Try.underlying23 hi hz0 hz1 hz2 rfl v2 (0 + k + 1) ([] ++ rowS (l.take k) ++ [.string x]) rfl ho2 A (n - k) (c - k) (rowS (l.drop k)) rfl HD1.out hAc.out HAB.out rowS_one M5.out M6.out hb2 ?_; intro v3 w3 ho3 hg3 hn3 hb3))
      all_goals
        obtain ⟨a4, c4, rfl, hrow⟩ := RowS.of_own (own_ins hk HN.out ho3)
        go_wp2_with fail
        go_ret
        exact ⟨a4, c4, by rw [HF.out]; rfl, by rw [HF.out]; exact hrow, hb3⟩

set_option maxRecDepth 100000 in
set_option maxHeartbeats 4000000 in
theorem insert_nil (x : ByteArray) (w : World) (hx : x.size ≤ maxLen) :
    Calls Try.prog 21 #[.slice none 0 0, .string x] w (GivesS w [x]) := by
  obtain ⟨i0, hi, hz0, hz1, hz2⟩ := info_parts infoS
  have M3 := Lib.hid (show 0 + 1 ≤ maxLen by unfold maxLen; omega)
  go_enter Try.func21, Try.ntmps21
  go_wp2_with fail
  go_loop [5] (fun vk => vk = .int .i64 0) (fun _ => 0)
  case atStart => rfl
  case round =>
    subst hrel
    go_wp2_with fail
    go_region_law (first | (refine step_append_none rfl (.tmp 41) (.tmp 44) 23 rfl w.heap.size 9 i0 Try.underlying23 hi hz1 v2 (0 + 1) ([] ++ [.string x]) rfl ho2 rfl ?_) | (refine step_append_one rfl (.tmp 38) (.tmp 40) 23 rfl w 9 i0 (.string ⟨#[]⟩) 16 Try.underlying23 hi hz0 hz1 hz2 rfl (.slice (some ⟨_, 0, none⟩) 0 0) 0 [] rfl (first_own w x _ (by first | exact .inr (.inl ⟨rfl, rfl⟩) | exact .inr (.inr ⟨by simp, rfl⟩))) _ 1 (.string x) rfl (by simp) rfl M3.out (by omega) (first_below w x _ (by first | exact .inr (.inl rfl) | exact .inr (.inr rfl))) ?_; intro v2 w2 ho2 hg2 hn2 hb2))
    all_goals
      obtain ⟨a4, c4, rfl, hrow⟩ := RowS.of_own (l := [x]) (by simpa [rowS] using ho2)
      go_wp2_with fail
      go_ret
      exact ⟨a4, c4, rfl, hrow, hb2⟩

/-- the reference's Insert -/
theorem insert_any (a : Option Addr) (c : Nat) (l : List ByteArray) (x : ByteArray) (w : World) (hr : RowS w a c l) (hl : l.length ≤ 1048576) (hx : x.size ≤ maxLen) (hls : ∀ y, y ∈ l → y.size ≤ maxLen) :
    Calls Try.prog 21 #[.slice a l.length c, .string x] w (GivesS w (insF l x)) := by
  rcases hr with ⟨rfl, rfl, rfl⟩ | ⟨b, off, rfl, h⟩
  · have e : insF [] x = [x] := by simp [insF, posN]
    rw [e]
    exact insert_nil x w hx
  · exact insert_some b off c l x w (.inr ⟨b, off, rfl, h⟩) hl hx hls
end Go.Proofs.Ytbmbgdfnhbkelab
