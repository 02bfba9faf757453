/- Contract: word.Subwords. -/
import Derived.Test.YtbmbgdfnhbkelabWordWB
import Derived.Test.YtbmbgdfnhbkelabWordSH
namespace Go.Proofs.Ytbmbgdfnhbkelab
open Go Go.RowKit Go.Maps Go.Sort
open WordM
set_option linter.unusedVariables false

/-- an entry of a map literal -/
theorem wpList_insert_own {H : Type} {P : Program} (w : World) {ops : Array Oper} {rest : List Oper} {o : Oper} {a : Act} {Q : Exit → Act → World → Prop}
    (hg : o.guard = none) (m x v : Operand) (t : TypeId) (hop : o.op = Op.insert t m x v)
    (k e : TypeId) (K : Keyed P k) (ht : P.underlying t = some (.map k e)) (R : Value → Option (DataW H × List MemPlace)) (b n : Nat) (D : DataW H)
    (hm : a.eval m = .map (some b)) (hown : w.ownsMap P k R b n D) (hn : n < maxLen) (key val : Value) (kl : Lit) (hx : a.eval x = key) (hv : a.eval v = val) (hkey : keyOf P k key = some kl)
    (d : DataW H) (ps : List MemPlace) (hval : R val = some (d, ps))
    (hK : ∀ w', w'.ownsMap P k R b (n + 1) (D.put kl d) → w.grownBy w' (some b) → wpList P ops Q rest (a.put o.dst undef) w') :
    wpList P ops Q (o :: rest) a w := by
  refine wpList_plain hg fun K' hK' => ?_
  obtain ⟨w', hrun, r1, r2⟩ := hown.update K ht hn hkey hval
  unfold Oper.wp
  simp [execOp, hop, hm, hx, hv, hrun, Result.andThen]
  exact hK' _ _ (hK w' r1 r2)

theorem lawKS : Keyed Try.prog 9 := string_keyed Try.underlying9
abbrev OwnsS (w : World) (b nn : Nat) (L : List ByteArray) : Prop := w.ownsMap Try.prog 9 (plainElem (H := Unit) Try.prog 4) b nn (setW Unit L)
theorem OwnsS.below {w w' : World} {b nn base : Nat} {L : List ByteArray} (h : OwnsS w b nn L) (hB : Below base w w') (hb : b < base) : OwnsS w' b nn L := by
  obtain ⟨es, clock, hx, F, hs, hD⟩ := h
  exact ⟨es, clock, (hB.block b hb).trans hx, F, hs, hD⟩
/-- a row that a map's block is not -/
def RowM (w : World) (b : Nat) (a : Option Addr) (c : Nat) (l : List ByteArray) : Prop := RowS w a c l ∧ ∀ p : Addr, a = some p → p.block ≠ b
theorem RowM.put {w w' : World} {b : Nat} {a : Option Addr} {c : Nat} {l : List ByteArray} (h : RowM w b a c l) (hg : w.grownBy w' (some b)) : RowM w' b a c l := by
  refine ⟨?_, h.2⟩
  rcases h.1 with h1 | ⟨g, off, rfl, hl, h1, h2, hc⟩
  · exact .inl h1
  · have hne : g ≠ b := h.2 _ rfl
    refine .inr ⟨g, off, rfl, Nat.lt_of_lt_of_le hl hg.size, h1, h2, fun i x hi => ?_⟩
    exact hg.cell (hc i x hi) (fun e => hne (by injection e))
theorem RowM.of_own {w : World} {base b : Nat} {e : TypeId} {v : Value} {l : List ByteArray} (h : w.ownsRow base e 1 v l.length (rowS l)) (hb : b < base) : ∃ a c, v = .slice a l.length c ∧ RowM w b a c l := by
  obtain ⟨a, c, rfl, hr⟩ := RowS.of_own h
  refine ⟨a, c, rfl, hr, fun p hp => ?_⟩
  subst hp
  have := (h.lt p.block rfl).1
  omega
theorem nil_subO (s : ByteArray) (n : Nat) : ∀ i, (⟨#[]⟩ : ByteArray) ∈ subO s n i
  | 0 => by simp [subO]
  | i + 1 => subO_mem.2 (.inl (nil_subO s n i))
theorem subO_ne (s : ByteArray) (n i : Nat) : subO s n i ≠ [] := fun h => by have := nil_subO s n i; rw [h] at this; cases this

set_option maxRecDepth 100000 in
set_option maxHeartbeats 4000000 in
theorem subwords_ok (s : ByteArray) (n : Nat) (w : World) (hs : s.size ≤ 16) (hn : n ≤ 9223372036854775807) :
    Calls Try.prog 7 #[.string s, .int .i64 n] w (GivesS w (subO s n s.size)) := by
  have hmm := @run_makeMap Try.prog
  have HSZ := Lib.hid (subO_size s n)
  have HLE := Lib.hid (subO_len s n)
  obtain ⟨N, hN⟩ : ∃ N, N = s.size := ⟨_, rfl⟩
  have HN := Lib.hid hN
  rw [← hN]
  have hN16 : N ≤ 16 := by omega
  have hk0 : keyOf Try.prog 9 (.string ⟨#[]⟩) = some (keyW ⟨#[]⟩) := Go.WideMaps.keyOf_string_mk Try.underlying9 (Nat.zero_le _)
  have HK0 := Lib.hid hk0
  have HBN := Lib.hid ((Below.refl w.heap.size w).alloc (Nat.le_refl _) (.map #[] 0))
  have HOM := Lib.hid (show OwnsS (w.alloc (.map #[] 0)) w.heap.size 0 [] from World.ownsMap_made _ _ _ _)
  have HS0 := Lib.hid (setW_snoc (H := Unit) [] ⟨#[]⟩)
  have HM0 := Lib.hid (show ∀ y : ByteArray, y ∈ ([] ++ [⟨#[]⟩] : List ByteArray) ↔ y ∈ subO s n 0 from fun y => Iff.rfl)
  clear hN hk0
  have hd1 : decide ((n : Int) < 0) = false := by simp
  go_enter Try.func7, Try.ntmps7
  go_wp2_with (refine wpList_insert_own _ rfl _ _ _ 32 rfl 9 4 lawKS Try.underlying32 _ w.heap.size 0 _ rfl HOM.out (by unfold maxLen; omega) _ _ _ rfl rfl HK0.out _ [] (plainElem_bool Try.underlying4 true) ?_; intro w0 hown0 hgrow0)
  have HO0 := Lib.hid (show OwnsS w0 w.heap.size 1 ([] ++ [⟨#[]⟩]) by rw [OwnsS, HS0.out]; exact hown0)
  have HB0 := Lib.hid (HBN.out.grown hgrow0 HBN.out.size (fun j hj => by cases hj; exact Nat.le_refl _))
  clear hown0 hgrow0
  go_wp2_with fail
  go_loopw [20] (fun vi wr => ∃ (i nn : Nat) (L : List ByteArray), i ≤ N ∧ vi = .int .i64 i ∧ nn ≤ 2 ^ i ∧ OwnsS wr w.heap.size nn L ∧ (∀ y, y ∈ L ↔ y ∈ subO s n i) ∧ Below w.heap.size w wr) (fun vi _ => N - (intOf vi).toNat)
  case atStart => exact ⟨0, 1, _, Nat.zero_le _, rfl, Nat.le_refl _, HO0.out, HM0.out, HB0.out⟩
  case round =>
    obtain ⟨i, nn, L, hi, rfl, hnn, hown, hL, hb⟩ := hrel
    have hp16 := pow_le16 (show i ≤ 16 by omega)
    have HMX := Lib.hid (show Maps.size (setW Unit L) ≤ 1000000 by have := hown.size_le; omega)
    have HO := Lib.hid hown
    have HL := Lib.hid hL
    have HB := Lib.hid hb
    have hwl := Lib.hid hown.lt
    clear hown hL hb
    by_cases hlt : i < N
    · have hsi : i < s.size := by rw [← HN.out]; exact hlt
      go_wp2_with fail
      refine (keys_ok _ _).mono ?_
      rintro e w1 ⟨rfl, rfl⟩
      go_wp2_with fail
      refine (collect_keys w.heap.size nn L _ HO.out HMX.out).mono ?_
      rintro e w1 ⟨v, ss, rfl, hS, hrow, hB⟩
      rw [← rowS_words, ← words_length] at hrow
      have hpm := words_perm (subO_sorted s n i) (fun x => (HL.out x).symm) hS
      have hxl : (wordsOf ss).length ≤ 2 ^ i := by rw [hpm.length_eq]; exact HLE.out i
      have HXM := Lib.hid (show ∀ y, y ∈ wordsOf ss ↔ y ∈ subO s n i from fun y => hpm.mem_iff)
      generalize wordsOf ss = xs at *
      have hwl2 : w.heap.size < _ := hwl.out
      obtain ⟨a, c, rfl, hr⟩ := RowM.of_own (b := w.heap.size) hrow (by omega)
      have HR := Lib.hid hr
      have HO1 := Lib.hid (OwnsS.below (World.ownsMap.alloc HO.out (.cells #[.map (some w.heap.size)] 32)) hB (by omega))
      have HB1 := Lib.hid ((HB.out.alloc HB.out.size (.cells #[.map (some w.heap.size)] 32)).trans (hB.mono (by omega)))
      clear hrow hS hpm hr hB hwl2
      have hl0 : xs.length ≤ 65536 := by omega
      go_wp2_with fail
      go_loopw [27] (fun vk wq => ∃ (k nn2 : Nat) (L2 : List ByteArray), k ≤ xs.length ∧ vk = .int .i64 k ∧ nn2 ≤ 2 ^ i + k ∧ OwnsS wq w.heap.size nn2 L2 ∧ SetAt n (s.extract i (i + 1)) L xs L2 k ∧ RowM wq w.heap.size a c xs ∧ Below w.heap.size w wq) (fun vk _ => xs.length - (intOf vk).toNat)
      case atStart => exact ⟨0, nn, L, Nat.zero_le _, rfl, hnn, HO1.out, SetAt.zero, HR.out, HB1.out⟩
      case round =>
        obtain ⟨k, nn2, L2, hk, rfl, hnn2, hown2, hset, hr2, hb2⟩ := hrel
        have HO2 := Lib.hid hown2
        have HST := Lib.hid hset
        have HR2 := Lib.hid hr2
        have HB2 := Lib.hid hb2
        clear hown2 hset hr2 hb2
        by_cases hkl : k < xs.length
        · obtain ⟨b, off, rfl, hck⟩ := HR2.out.1.at hkl
          have HX := Lib.hid (List.getElem?_eq_getElem hkl)
          have hxs : xs[k].size ≤ 16 := by have := HSZ.out i _ ((HXM.out _).1 (List.getElem_mem hkl)); omega
          generalize xs[k] = x at *
          by_cases hx : x.size < n
          · have hkey : keyOf Try.prog 9 (.string (x ++ s.extract i (i + 1))) = some (keyW (x ++ s.extract i (i + 1))) := Go.WideMaps.keyOf_string_mk Try.underlying9 (by rw [ByteArray.size_append, ByteArray.size_extract]; unfold maxLen; omega)
            have HK := Lib.hid hkey
            have HS := Lib.hid (setW_snoc (H := Unit) L2 (x ++ s.extract i (i + 1)))
            have HST2 := Lib.hid (HST.out.yes HX.out hx)
            clear hkey
            go_wp2_with (at_mapUpdate; refine wpList_mapUpdate_own _ rfl _ _ _ 32 rfl 9 4 lawKS Try.underlying32 _ w.heap.size nn2 _ rfl HO2.out (by unfold maxLen; omega) _ _ _ rfl rfl HK.out _ [] (plainElem_bool Try.underlying4 true) ?_; intro w3 hown3 hgrow3)
            have HO3 := Lib.hid (show OwnsS w3 w.heap.size (nn2 + 1) (L2 ++ [x ++ s.extract i (i + 1)]) by rw [OwnsS, HS.out]; exact hown3)
            have HB3 := Lib.hid (HB2.out.grown hgrow3 HB2.out.size (fun j hj => by cases hj; exact Nat.le_refl _))
            have HR3 := Lib.hid (HR2.out.put hgrow3)
            clear hown3 hgrow3
            go_wp2_with fail
            exact ⟨⟨k + 1, nn2 + 1, _, by omega, by go_num, by omega, HO3.out, HST2.out, HR3.out, HB3.out⟩, by simp [intOf]; omega⟩
          · have HST2 := Lib.hid (HST.out.no HX.out hx)
            go_wp2_with fail
            exact ⟨⟨k + 1, nn2, L2, by omega, by go_num, by omega, HO2.out, HST2.out, HR2.out, HB2.out⟩, by simp [intOf]; omega⟩
        · obtain rfl : k = xs.length := by omega
          have HL2 := Lib.hid (HST.out.last HL.out HXM.out)
          have hpp : 2 ^ (i + 1) = 2 ^ i + 2 ^ i := by rw [Nat.pow_succ]; omega
          go_wp2_with fail
          exact ⟨⟨i + 1, nn2, L2, by omega, by go_num, by omega, HO2.out, HL2.out, HB2.out⟩, by simp [intOf]; omega⟩
    · obtain rfl : N = i := by omega
      have hsi : N = s.size := HN.out
      have C := Lib.hid (sortedFunc_keys w.heap.size nn L (subO s n N) _ HO.out HMX.out (subO_sorted s n N) (fun x => (HL.out x).symm) (fun x hx => by have := HSZ.out N x hx; unfold maxLen; omega) (subO_ne s n N) (by have := HLE.out N; omega))
      generalize subO s n N = m at *
      go_wp2_with fail
      refine (keys_ok _ _).mono ?_
      rintro e w1 ⟨rfl, rfl⟩
      go_wp2_with fail
      refine C.out.mono ?_
      rintro e w1 ⟨a4, c4, rfl, hr4, hb4⟩
      have HR4 := Lib.hid hr4
      have HB4 := Lib.hid (HB.out.trans (hb4.mono HB.out.size))
      clear hr4 hb4
      go_wp2_with fail
      go_ret
      exact ⟨a4, c4, rfl, HR4.out, HB4.out⟩
end Go.Proofs.Ytbmbgdfnhbkelab
