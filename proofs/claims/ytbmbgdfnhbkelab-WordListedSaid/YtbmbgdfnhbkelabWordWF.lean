/- The walk of the law on the listed subwords. -/
import Derived.Test.YtbmbgdfnhbkelabWordWE
import Derived.Test.YtbmbgdfnhbkelabWordSH
namespace Go.Proofs.Ytbmbgdfnhbkelab
open Go Go.RowKit
open WordM
set_option linter.unusedVariables false

theorem keep_cell {w w' : World} {p : Addr} {v : Value} (h : w.cell? p = some v) (hb : Below w.heap.size w w') : w'.cell? p = some v :=
  hb.cell (p := p) (World.block_lt_of_cell? w _ h) ▸ h
/-- is u among the first k words? -/
def memK (l : List ByteArray) (u : ByteArray) (k : Nat) : Bool := (l.take k).any fun y => decide (y = u)
theorem memK_iff (l : List ByteArray) (u : ByteArray) (k : Nat) : memK l u k = true ↔ u ∈ l.take k := by
  rw [memK, List.any_eq_true]
  constructor
  · rintro ⟨x, hx, h⟩; exact of_decide_eq_true h ▸ hx
  · intro h; exact ⟨u, h, decide_eq_true rfl⟩
theorem memK_zero (l : List ByteArray) (u : ByteArray) : memK l u 0 = false := by simp [memK]
theorem memK_old {l : List ByteArray} {u : ByteArray} {k : Nat} (h : memK l u k = true) : memK l u (k + 1) = true := by
  rw [memK_iff] at *
  rw [List.take_add_one]
  exact List.mem_append_left _ h
theorem memK_new {l : List ByteArray} {u x : ByteArray} {k : Nat} (hx : l[k]? = some x) (h : memK l u k = false) : memK l u (k + 1) = decide (x = u) := by
  have e : l.take (k + 1) = l.take k ++ [x] := by rw [List.take_add_one, hx]; rfl
  rw [memK] at h
  rw [memK, e, List.any_append, h]
  simp

set_option maxRecDepth 100000 in
set_option maxHeartbeats 4000000 in
theorem wWordListed {w : World} (s0 : ByteArray) (hs0 : s0.size ≤ maxLen) (u : ByteArray) (hu : u.size ≤ maxLen) (n : Int) (hwf : (Lit.int .i64 n).wf = true) :
    Calls Try.prog 5 #[.string s0, .string u, .int .i64 n] w fun e w' => e = .returned (.bool true) ∧ Below w.heap.size w w' := by
  have c1 := cutS_le s0 10
  have hn : n ≤ 9223372036854775807 := by simp [Lit.wf] at hwf; omega
  have HU := Lib.hid hu
  have hu2 : (u.size : Int) ≤ 9223372036854775807 := by unfold maxLen at hu; omega
  clear hwf hu
  go_enter Try.func5, Try.ntmps5
  go_wp2_with fail
  refine (cut_any _ _ _ (by omega) (by omega)).mono ?_
  rintro e w2 ⟨rfl, rfl⟩
  rw [show (10 : Int).toNat = 10 from rfl]
  generalize cutS s0 10 = s at *
  obtain ⟨l, C, hl, hsort, hmem, hsz⟩ := subwords_all s n c1 hn
  have C1 := Lib.hid C
  have HSO := Lib.hid hsort
  have HME := Lib.hid hmem
  have HSZ := Lib.hid hsz
  have HS := Lib.hid (show s.size ≤ maxLen by unfold maxLen; omega)
  have HS10 := Lib.hid c1
  clear C hsort hmem hsz
  go_wp2_with fail
  refine (C1.out _).mono ?_
  rintro e w3 ⟨a3, cc, rfl, hR, hB⟩
  have HR := Lib.hid hR
  have HB := Lib.hid hB
  clear hR hB
  go_wp2_with fail
  go_loopw [8, 18] (fun vf vi wr => ∃ k : Nat, k ≤ l.length ∧ vi = .int .i64 k ∧ vf = .bool (memK l u k) ∧ RowS wr a3 cc l ∧ Below w.heap.size w wr) (fun _ vi _ => l.length - (intOf vi).toNat)
  case atStart => exact ⟨0, Nat.zero_le _, rfl, by rw [memK_zero], HR.out, HB.out⟩
  case round =>
    obtain ⟨k, hk, rfl, rfl, hr, hb⟩ := hrel
    have HR2 := Lib.hid hr
    have HB2 := Lib.hid hb
    clear hr hb
    by_cases hlt : k < l.length
    · obtain ⟨b, off, rfl, hck⟩ := HR2.out.at hlt
      have HX := Lib.hid (List.getElem?_eq_getElem hlt)
      obtain ⟨m1, m2, m3⟩ := (HME.out _).1 (List.getElem_mem hlt)
      have m4 := HSZ.out _ (List.getElem_mem hlt)
      by_cases h0 : 0 < k
      · have hlk : k - 1 < l.length := by omega
        obtain ⟨b', off', hab, hck1⟩ := HR2.out.at hlk
        obtain ⟨rfl, rfl⟩ : b = b' ∧ off = off' := by injection hab with he; injection he with h1 h2; exact ⟨h1, h2⟩
        have hlt1 : cmpW l[k - 1] l[k] = -1 := cmpW_lt (List.pairwise_iff_getElem.1 HSO.out (k - 1) k hlk hlt (by omega))
        have m5 := HSZ.out _ (List.getElem_mem hlk)
        generalize l[k - 1] = y at *
        generalize l[k] = x at *
        have HC1 := Lib.hid hck1
        have HCM := Lib.hid hlt1
        have HSU := Lib.hid m3
        obtain ⟨z1, z2⟩ := occZ_one m3 HS10.out
        have HOC := Lib.hid (fun W : World => occ_any x s 2147483648 W (by omega) HS.out)
        generalize occZ 2147483648 x s = z at *
        have hz : (0 : Int) ≤ z := by omega
        clear hck1 hlt1 m3 hab
        by_cases hf : memK l u k = true
        · have HN := Lib.hid (memK_old hf)
          rw [hf]
          clear hf
          go_wp2_with fail
          refine (sub_any x s _ (by unfold maxLen; omega) HS.out).mono ?_
          rintro e w5 ⟨rfl, hb5⟩
          rw [HSU.out]
          have HB5 := Lib.hid hb5
          clear hb5
          go_wp2_with fail
          refine (HOC.out _).mono ?_
          rintro e w6 ⟨rfl, hb6⟩
          have HB6 := Lib.hid (HB5.out.trans (hb6.mono HB5.out.size))
          have hcy := keep_cell HC1.out HB6.out
          clear hb6
          go_wp2_with fail
          refine (compare_any y x (by unfold maxLen; omega) (by unfold maxLen; omega) _).mono ?_
          rintro e w7 ⟨rfl, rfl⟩
          rw [HCM.out]
          clear hcy
          go_wp2_with fail
          exact ⟨⟨k + 1, by omega, by go_num, by rw [HN.out], HR2.out.keep HB6.out, HB2.out.trans (HB6.out.mono HB2.out.size)⟩, by simp [intOf]; omega⟩
        · have hf' : memK l u k = false := by simpa using hf
          have HN := Lib.hid (memK_new HX.out hf')
          rw [hf']
          clear hf hf'
          go_wp2_with fail
          refine (sub_any x s _ (by unfold maxLen; omega) HS.out).mono ?_
          rintro e w5 ⟨rfl, hb5⟩
          rw [HSU.out]
          have HB5 := Lib.hid hb5
          clear hb5
          go_wp2_with fail
          refine (HOC.out _).mono ?_
          rintro e w6 ⟨rfl, hb6⟩
          have HB6 := Lib.hid (HB5.out.trans (hb6.mono HB5.out.size))
          have hcy := keep_cell HC1.out HB6.out
          clear hb6
          go_wp2_with fail
          refine (compare_any y x (by unfold maxLen; omega) (by unfold maxLen; omega) _).mono ?_
          rintro e w7 ⟨rfl, rfl⟩
          rw [HCM.out]
          clear hcy
          by_cases hxu : x = u
          · have h1 : (x.toList == u.toList) = true := by rw [hxu]; simp
            have HN2 := Lib.hid (show memK l u (k + 1) = true by rw [HN.out]; simpa using hxu)
            clear hxu
            go_wp2_with fail
            exact ⟨⟨k + 1, by omega, by go_num, by rw [HN2.out], HR2.out.keep HB6.out, HB2.out.trans (HB6.out.mono HB2.out.size)⟩, by simp [intOf]; omega⟩
          · have h1 : (x.toList == u.toList) = false := by
              rw [beq_eq_false_iff_ne, Lib.toList_data, Lib.toList_data]; exact fun e => hxu (ext_list e)
            have HN2 := Lib.hid (show memK l u (k + 1) = false by rw [HN.out]; simpa using hxu)
            clear hxu
            go_wp2_with fail
            exact ⟨⟨k + 1, by omega, by go_num, by rw [HN2.out], HR2.out.keep HB6.out, HB2.out.trans (HB6.out.mono HB2.out.size)⟩, by simp [intOf]; omega⟩
      · have hk0 : k = 0 := by omega
        have hz0 : memK l u k = false := by rw [hk0, memK_zero]
        clear hk0
        generalize l[k] = x at *
        have HSU := Lib.hid m3
        obtain ⟨z1, z2⟩ := occZ_one m3 HS10.out
        have HOC := Lib.hid (fun W : World => occ_any x s 2147483648 W (by omega) HS.out)
        generalize occZ 2147483648 x s = z at *
        have hz : (0 : Int) ≤ z := by omega
        clear m3
        have HN := Lib.hid (memK_new HX.out hz0)
        rw [hz0]
        clear hz0
        go_wp2_with fail
        refine (sub_any x s _ (by unfold maxLen; omega) HS.out).mono ?_
        rintro e w5 ⟨rfl, hb5⟩
        rw [HSU.out]
        have HB5 := Lib.hid hb5
        clear hb5
        go_wp2_with fail
        refine (HOC.out _).mono ?_
        rintro e w6 ⟨rfl, hb6⟩
        have HB6 := Lib.hid (HB5.out.trans (hb6.mono HB5.out.size))
        clear hb6
        by_cases hxu : x = u
        · have h1 : (x.toList == u.toList) = true := by rw [hxu]; simp
          have HN2 := Lib.hid (show memK l u (k + 1) = true by rw [HN.out]; simpa using hxu)
          clear hxu
          go_wp2_with fail
          exact ⟨⟨k + 1, by omega, by go_num, by rw [HN2.out], HR2.out.keep HB6.out, HB2.out.trans (HB6.out.mono HB2.out.size)⟩, by simp [intOf]; omega⟩
        · have h1 : (x.toList == u.toList) = false := by
            rw [beq_eq_false_iff_ne, Lib.toList_data, Lib.toList_data]; exact fun e => hxu (ext_list e)
          have HN2 := Lib.hid (show memK l u (k + 1) = false by rw [HN.out]; simpa using hxu)
          clear hxu
          go_wp2_with fail
          exact ⟨⟨k + 1, by omega, by go_num, by rw [HN2.out], HR2.out.keep HB6.out, HB2.out.trans (HB6.out.mono HB2.out.size)⟩, by simp [intOf]; omega⟩
    · obtain rfl : k = l.length := by omega
      have hfin : memK l u l.length = true ↔ 0 ≤ n ∧ (u.size : Int) ≤ n ∧ subB u s = true := by
        rw [memK_iff, List.take_length]; exact HME.out u
      by_cases hn0 : 0 ≤ n
      · by_cases hun : (u.size : Int) ≤ n
        · have e : memK l u l.length = subB u s := by
            cases h : subB u s
            · rw [← Bool.not_eq_true, hfin, h]; simp
            · exact hfin.2 ⟨hn0, hun, h⟩
          have HSB := Lib.hid (fun W : World => sub_any u s W HU.out HS.out)
          rw [e]
          generalize subB u s = bb at *
          clear e hfin
          go_wp2_with fail
          refine (HSB.out _).mono ?_
          rintro e w5 ⟨rfl, hb5⟩
          have HB5 := Lib.hid (HB2.out.trans (hb5.mono HB2.out.size))
          clear hb5
          have hbb : (bb == bb) = true := by simp
          cases bb
          all_goals
            go_wp2_with fail
            refine (awake_any _).mono ?_
            rintro e w6 ⟨rfl, hB⟩
            have HB6 := Lib.hid (HB5.out.trans (hB.mono HB5.out.size))
            clear hB
            go_wp2_with fail
            go_ret
            exact ⟨rfl, HB6.out⟩
        · have e : memK l u l.length = false := by rw [← Bool.not_eq_true, hfin]; rintro ⟨_, h, _⟩; exact hun h
          rw [e]
          clear e hfin
          go_wp2_with fail
          refine (awake_any _).mono ?_
          rintro e w6 ⟨rfl, hB⟩
          have HB6 := Lib.hid (HB2.out.trans (hB.mono HB2.out.size))
          clear hB
          go_wp2_with fail
          go_ret
          exact ⟨rfl, HB6.out⟩
      · have e : memK l u l.length = false := by rw [← Bool.not_eq_true, hfin]; rintro ⟨h, _⟩; exact hn0 h
        rw [e]
        clear e hfin
        go_wp2_with fail
        refine (awake_any _).mono ?_
        rintro e w6 ⟨rfl, hB⟩
        have HB6 := Lib.hid (HB2.out.trans (hB.mono HB2.out.size))
        clear hB
        go_wp2_with fail
        go_ret
        exact ⟨rfl, HB6.out⟩
end Go.Proofs.Ytbmbgdfnhbkelab
