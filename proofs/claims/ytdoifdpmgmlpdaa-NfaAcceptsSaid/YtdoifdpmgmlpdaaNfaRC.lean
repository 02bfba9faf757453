/- Contract: the reference's Runs. -/
import Derived.Test.YtdoifdpmgmlpdaaNfaRB
import Derived.Test.YtdoifdpmgmlpdaaNfaVA
import Derived.RegionTactic
namespace Go.Proofs.Ytdoifdpmgmlpdaa
open Go Go.RowKit
open Go.Proofs.Ytdoifdpmgmlpdaa.wrd.WordM (wordB)
set_option linter.unusedVariables false
/-- the first k entries are f's, the others 0 -/
def upC (k : Nat) (f : Nat → Nat) (t : Nat) : Nat := if t < k then f t else 0
set_option maxRecDepth 100000 in
set_option maxHeartbeats 8000000 in
theorem rruns_any (L : Int) (m st fi : Nat) (es : List Ed) (a : Option Addr) (c : Nat) (s : ByteArray) (w : World) (hin : InN w L (m : Int) st fi a es) (hv : valN L (m : Int) st fi es = true) :
    Calls Try.prog 19 #[.agg #[.int .i64 L, .int .i64 (m : Int), .int .u64 st, .int .u64 fi, .slice a es.length c], .string s] w fun e w' => e = .returned (.int .i64 (runsW L m st fi es s : Nat)) ∧ Below w.heap.size w w' := by
  obtain ⟨i0, hi0, hz0, hz1, hz2⟩ := info_parts infoInt
  have hlen := hin.2.2.2.2.2
  have HI := Lib.hid hin
  have hv' := valN_iff.1 hv
  have hto := valN_to hv
  rw [Int.toNat_natCast] at hto hv'
  have HTO := Lib.hid hto
  have h64 : m ≤ 64 := by omega
  have HSU := Lib.hid (show st < 18446744073709551616 ∧ fi < 18446744073709551616 from ⟨hin.2.2.2.1, hin.2.2.2.2.1⟩)
  obtain ⟨n, hn⟩ : ∃ n, n = es.length := ⟨_, rfl⟩
  have HN := Lib.hid hn
  rw [← hn] at hlen ⊢
  have HB0 := Lib.hid ((Below.refl w.heap.size w).alloc (Nat.le_refl _) (.cells #[.int .i64 L, .int .i64 (m : Int), .int .u64 st, .int .u64 fi, .slice a n c] 25))
  have HI0 := Lib.hid (HI.out.box (.cells #[.int .i64 L, .int .i64 (m : Int), .int .u64 st, .int .u64 fi, .slice a n c] 25))
  obtain ⟨z0, z1, z2, z3, z4⟩ := (nbox_cells (Below.refl (w.heap.size + 1) (w.alloc (.cells #[.int .i64 L, .int .i64 (m : Int), .int .u64 st, .int .u64 fi, .slice a n c] 25))))
  clear hin hv hn hto hv'
  cases hw : wordB L s.data.toList
  · have HW := Lib.hid hw
    have HF := Lib.hid (show runsW L m st fi es s = 0 by simp [runsW, hw])
    rw [HF.out]
    clear hw
    go_enter Try.func19, Try.ntmps19
    go_wp2_with fail
    refine (wrd.rvalid_any s L _).mono ?_
    rintro r w' ⟨rfl, rfl⟩
    rw [HW.out]
    go_wp2_with fail
    go_ret
    exact ⟨rfl, HB0.out⟩
  · have HW := Lib.hid hw
    have hsz := word_size hw
    have HL := Lib.hid (fun i hi => @word_letter L s hw i hi)
    have HF := Lib.hid (show runsW L m st fi es s = sumF fi (longW es (wdL s) (cntS st)) m by simp [runsW, hw, runsN])
    rw [HF.out]
    clear hw
    go_enter Try.func19, Try.ntmps19
    go_wp2_with fail
    refine (wrd.rvalid_any s L _).mono ?_
    rintro r w' ⟨rfl, rfl⟩
    rw [HW.out]
    go_wp2_with (refine wpList_make_full _ rfl _ _ 54 rfl w.heap.size 3 i0 (.int .i64 0) 1 Try.underlying54 hi0 hz0 hz1 .i64 .i64 _ _ m rfl rfl (by simp) (by simp) ?c1 ?c2 ?c3 ?_)
    case c1 => rw [hz2]; omega
    case c2 => unfold maxLen; omega
    case c3 => simp
    intro w3 hown0 hg1
    have HO := Lib.hid (ownsC.made hown0)
    have hgw : Below (w.heap.size + 1) (w.alloc (.cells #[.int .i64 L, .int .i64 (m : Int), .int .u64 st, .int .u64 fi, .slice a n c] 25)) w3 := (Below.refl _ _).grown hg1 (by simp) (by intro k hk; cases hk)
    have HB3 := Lib.hid hgw
    clear hown0 hg1 hgw z0 z1 z2 z3 z4
    go_wp2_with fail
    go_loopw [23] (fun vi wr => ∃ i : Nat, i ≤ m ∧ vi = .int .i64 i ∧ ownsC wr w.heap.size (w.heap.size + 1) m (upC i (cntS st)) ∧ Below (w.heap.size + 1) (w.alloc (.cells #[.int .i64 L, .int .i64 (m : Int), .int .u64 st, .int .u64 fi, .slice a n c] 25)) wr) (fun vi _ => m - (intOf vi).toNat)
    case atStart => exact ⟨0, Nat.zero_le _, rfl, HO.out.congr (fun t _ => by simp [upC]), HB3.out⟩
    case round =>
      rename World => wA
      obtain ⟨i, hi, rfl, ho, hb⟩ := hrel
      have HOA := Lib.hid ho
      have HB := Lib.hid hb
      obtain ⟨z0, z1, z2, z3, z4⟩ := nbox_cells hb
      by_cases hlt : i < m
      · have hcj := ho.cell hlt
        have hfj := ho.free i
        have hi0' : (0 : Int) ≤ (i : Int) := by omega
        have hin2 : (i : Int) < (m : Int) := by omega
        have hwi : IntKind.i64.wrap (i : Int) = (i : Int) := IntWalk.i64_in _ (by omega)
        cases ht : st.testBit i
        · have HT := Lib.hid ht
          have HX := Lib.hid (show ∀ t, t < m → upC i (cntS st) t = upC (i + 1) (cntS st) t from fun t _ => by
            unfold upC
            by_cases e1 : t = i
            · subst e1; simp [cntS, ht]
            · by_cases e2 : t < i
              · rw [if_pos e2, if_pos (by omega)]
              · rw [if_neg e2, if_neg (by omega)])
          clear ht ho hb
          go_wp2_with fail
          refine (rel.rhas_any st i _ HSU.out.1 (by omega)).mono ?_
          rintro r w' ⟨rfl, rfl⟩
          rw [HT.out]
          go_wp2_with fail
          exact ⟨⟨i + 1, by omega, by go_num, HOA.out.congr HX.out, HB.out⟩, by simp [intOf]; omega⟩
        · have HT := Lib.hid ht
          have HX := Lib.hid (show ∀ t, t < m → (if t = i then 1 else upC i (cntS st) t) = upC (i + 1) (cntS st) t from fun t _ => by
            unfold upC
            by_cases e1 : t = i
            · subst e1; simp [cntS, ht]
            · rw [if_neg e1]
              by_cases e2 : t < i
              · rw [if_pos e2, if_pos (by omega)]
              · rw [if_neg e2, if_neg (by omega)])
          clear ht ho hb
          go_wp2_with fail
          refine (rel.rhas_any st i _ HSU.out.1 (by omega)).mono ?_
          rintro r w' ⟨rfl, rfl⟩
          rw [HT.out]
          go_wp2_with fail
          exact ⟨⟨i + 1, by omega, by go_num, (ownsC.set HOA.out i 1).congr HX.out, HB.out.setCell (by simp) _⟩, by simp [intOf]; omega⟩
      · obtain rfl : i = m := by omega
        have HRC := Lib.hid ((HOA.out.congr (f' := cntS st) (fun t ht => by unfold upC; rw [if_pos ht])).row fun j _ => cntS_le st j)
        clear ho hb z0 z1 z2 z3 z4
        go_wp2_with fail
        go_loopw [5, 7] (fun v5 vi wr => ∃ (j : Nat) (a' : Option Addr), j ≤ s.size ∧ vi = .int .i64 j ∧ v5 = .slice a' i i ∧ RowC wr a' i (longW es ((wdL s).take j) (cntS st)) ∧ Below (w.heap.size + 1) (w.alloc (.cells #[.int .i64 L, .int .i64 (i : Int), .int .u64 st, .int .u64 fi, .slice a n c] 25)) wr) (fun _ vi _ => s.size - (intOf vi).toNat)
        case atStart => exact ⟨0, _, Nat.zero_le _, rfl, rfl, HRC.out, HB.out⟩
        case round =>
          rename World => wC
          obtain ⟨j, a', hj, rfl, rfl, hrc, hb⟩ := hrel
          have HRC2 := Lib.hid hrc
          have HBC := Lib.hid hb
          obtain ⟨z0, z1, z2, z3, z4⟩ := nbox_cells hb
          by_cases hjl : j < s.size
          · obtain ⟨l1, l2⟩ := HL.out j hjl
            have hb8 := (s[j]'hjl).toNat_lt
            have HT := Lib.hid (show longW es ((wdL s).take (j + 1)) (cntS st) = longL es (longW es ((wdL s).take j) (cntS st)) (((s[j]'hjl).toNat : Int) - 97) by rw [wdL_take hjl, longW_append]; rfl)
            have HSC := Lib.hid (show w.heap.size + 1 ≤ wC.heap.size by have := hb.size; simp at this; omega)
            obtain ⟨cc, hcc⟩ : ∃ cc, cc = longW es ((wdL s).take j) (cntS st) := ⟨_, rfl⟩
            rw [← hcc] at HT HRC2
            have hj0 : (0 : Int) ≤ (j : Int) := by omega
            have hjn : (j : Int) < (s.size : Int) := by omega
            clear hrc hb hcc
            go_wp2_with (refine wpList_make_full _ rfl _ _ 54 rfl w.heap.size 3 i0 (.int .i64 0) 1 Try.underlying54 hi0 hz0 hz1 .i64 .i64 _ _ i rfl rfl (by simp) (by simp) ?c4 ?c5 ?c6 ?_)
            case c4 => rw [hz2]; omega
            case c5 => unfold maxLen; omega
            case c6 => have := HSC.out; omega
            intro w5 hown5 hg5
            have HO5 := Lib.hid (ownsC.made hown5)
            have hgw : Below wC.heap.size wC w5 := (Below.refl _ wC).grown hg5 (Nat.le_refl _) (by intro k hk; cases hk)
            have HG5 := Lib.hid hgw
            have HB5 := Lib.hid (HBC.out.trans (hgw.mono HSC.out))
            clear z0 z1 z2 z3 z4
            obtain ⟨z0, z1, z2, z3, z4⟩ := nbox_cells HB5.out
            clear hown5 hg5 hgw
            go_wp2_with fail
            go_loopw [46] (fun vi wr => ∃ k : Nat, k ≤ n ∧ vi = .int .i64 k ∧ ownsC wr w.heap.size wC.heap.size i (longL (es.take k) cc (((s[j]'hjl).toNat : Int) - 97)) ∧ Below wC.heap.size wC wr ∧ Below (w.heap.size + 1) (w.alloc (.cells #[.int .i64 L, .int .i64 (i : Int), .int .u64 st, .int .u64 fi, .slice a n c] 25)) wr) (fun vi _ => n - (intOf vi).toNat)
            case atStart => exact ⟨0, Nat.zero_le _, rfl, HO5.out, HG5.out, HB5.out⟩
            case round =>
              rename World => wD
              obtain ⟨k, hk, rfl, ho, hgd, hb⟩ := hrel
              have HOD := Lib.hid ho
              have HGD := Lib.hid hgd
              have HBD := Lib.hid hb
              by_cases hlt2 : k < n
              · have hle : k < es.length := by rw [← HN.out]; exact hlt2
                have HIN := Lib.hid ((HI0.out.1).keep (hb.mono (by simp)))
                obtain ⟨b, off, rfl, hbz, c1, c2, c3, g1, g2, g3⟩ := HIN.out.at hle
                obtain ⟨k1, k2, k3, k4⟩ := HTO.out.at hle
                have hk0' : (0 : Int) ≤ (k : Int) := by omega
                have hkn2 : (k : Int) < (n : Int) := by omega
                have hwk : IntKind.i64.wrap (k : Int) = (k : Int) := IntWalk.i64_in _ (by omega)
                have HST := Lib.hid (longL_take (c := cc) (x := ((s[j]'hjl).toNat : Int) - 97) hle)
                obtain ⟨e, he⟩ : ∃ e, e = es.getD k noE := ⟨_, rfl⟩
                rw [← he] at c1 c2 c3 g1 g2 g3 k1 k2 k3 k4 HST
                clear he hle
                obtain ⟨ef, el, et⟩ := e
                dsimp only at c1 c2 c3 g1 g2 g3 k1 k2 k3 k4 HST
                obtain ⟨fn, rfl⟩ : ∃ q : Nat, ef = (q : Int) := ⟨ef.toNat, by omega⟩
                obtain ⟨tn, rfl⟩ : ∃ q : Nat, et = (q : Int) := ⟨et.toNat, by omega⟩
                have hft : fn < i ∧ tn < i := by omega
                have hle31 := @longL_le cc (((s[j]'hjl).toNat : Int) - 97) (es.take k) tn
                obtain ⟨xx, hxx⟩ : ∃ xx : Int, xx = ((s[j]'hjl).toNat : Int) - 97 := ⟨_, rfl⟩
                have HXX := Lib.hid hxx
                rw [← hxx] at hle31 HST HOD
                have HSN := Lib.hid (show longL (es.take (k + 1)) cc xx = longE cc xx (longL (es.take k) cc xx) ⟨(fn : Int), el, (tn : Int)⟩ from HST.out)
                obtain ⟨cur, hc⟩ : ∃ q, q = longL (es.take k) cc xx := ⟨_, rfl⟩
                rw [← hc] at hle31 HSN HOD
                have HOB := Lib.hid (HOD.out.keep ((Below.refl _ wD).alloc (Nat.le_refl _) (.cells #[.int .i64 fn, .int .i64 el, .int .i64 tn] 44)))
                have HB1' := Lib.hid (hb.alloc (by have := hb.size; simp at this; omega) (.cells #[.int .i64 fn, .int .i64 el, .int .i64 tn] 44))
                have HG1' := Lib.hid (hgd.alloc hgd.size (.cells #[.int .i64 fn, .int .i64 el, .int .i64 tn] 44))
                have hw8 := wrd.WordM.w8sub l1
                have hu8 : IntKind.u8.wrap (((s[j]'hjl).toNat : Int) - 97) = ((s[j]'hjl).toNat : Int) - 97 := by simp [IntKind.wrap, IntKind.bits, IntKind.signed]; omega
                have hwx : IntKind.i64.wrap (((s[j]'hjl).toNat : Int) - 97) = ((s[j]'hjl).toNat : Int) - 97 := IntWalk.i64_in _ (by omega)
                clear hc k1 k2 k3 k4 ho HST
                by_cases hx : el = xx
                · have tx : (el == ((s[j]'hjl).toNat : Int) - 97) = true := by rw [← hxx]; simpa using hx
                  rcases HRC2.out.keep hgd with h0 | ⟨b2, rfl, hb2, hc2⟩
                  · omega
                  have hcf0 := (hc2 fn hft.1).1
                  have hc31 := (hc2 fn hft.1).2
                  have hcf : (World.alloc wD (.cells #[.int .i64 fn, .int .i64 el, .int .i64 tn] 44)).cell? ⟨b2, fn, none⟩ = some (.int .i64 (cc fn : Int)) := by rw [cell_alloc_lt hb2]; exact hcf0
                  have hct := HOB.out.cell hft.2
                  have hfz := HOB.out.free tn
                  obtain ⟨z, hz⟩ : ∃ z, z = satR (cur tn + cc fn) := ⟨_, rfl⟩
                  have HX := Lib.hid (show ∀ t, t < i → (if t = tn then z else cur t) = longE cc xx cur ⟨(fn : Int), el, (tn : Int)⟩ t from fun t _ => by
                    rw [longE_yes hx, hz]
                    simp only [Int.toNat_natCast]
                    by_cases e1 : t = tn
                    · subst e1; rfl
                    · rw [if_neg e1, if_neg e1])
                  obtain ⟨u1, hu1⟩ : ∃ u, u = cur tn := ⟨_, rfl⟩
                  obtain ⟨u2, hu2⟩ : ∃ u, u = cc fn := ⟨_, rfl⟩
                  rw [← hu1] at hct hz hle31
                  rw [← hu2] at hcf hz hc31
                  have hmin : min ((u1 : Int) + (u2 : Int)) 2147483648 = (z : Int) := by rw [hz]; unfold satR; omega
                  have hsum : IntKind.i64.wrap ((u1 : Int) + (u2 : Int)) = (u1 : Int) + (u2 : Int) := IntWalk.i64_in _ (by omega)
                  have j1 : (0 : Int) ≤ (fn : Int) := by omega
                  have j2 : (fn : Int) < (i : Int) := by omega
                  have j3 : IntKind.i64.wrap (fn : Int) = (fn : Int) := IntWalk.i64_in _ (by omega)
                  have j4 : (0 : Int) ≤ (tn : Int) := by omega
                  have j5 : (tn : Int) < (i : Int) := by omega
                  have j6 : IntKind.i64.wrap (tn : Int) = (tn : Int) := IntWalk.i64_in _ (by omega)
                  have x0 : (World.alloc wD (.cells #[.int .i64 fn, .int .i64 el, .int .i64 tn] 44)).cell? ⟨wD.heap.size, 0, none⟩ = some (.int .i64 fn) := by simp [go_sem]
                  have x1 : (World.alloc wD (.cells #[.int .i64 fn, .int .i64 el, .int .i64 tn] 44)).cell? ⟨wD.heap.size, 1, none⟩ = some (.int .i64 el) := by simp [go_sem]
                  have x2 : (World.alloc wD (.cells #[.int .i64 fn, .int .i64 el, .int .i64 tn] 44)).cell? ⟨wD.heap.size, 2, none⟩ = some (.int .i64 tn) := by simp [go_sem]
                  clear hb hgd hc2 hcf0 hz hu1 hu2 hle31 hc31 hb2 hxx hx
                  go_wp2_with fail
                  generalize World.alloc wD (.cells #[.int .i64 fn, .int .i64 el, .int .i64 tn] 44) = wB at *
                  go_region
                  all_goals
                    go_wp2_with fail
                    go_region
                    all_goals
                      go_wp2_with fail
                      exact ⟨⟨k + 1, by omega, by go_num, by rw [← HXX.out, HSN.out]; exact (ownsC.set (ownsC.drew (ownsC.drew HOB.out)) tn z).congr HX.out, HG1'.out.drew.drew.setCell (Nat.le_refl _) _, HB1'.out.drew.drew.setCell (by have := HSC.out; omega) _⟩, by simp [intOf]; omega⟩
                · have HF := Lib.hid (longE_no (c := cc) (acc := cur) (e := ⟨(fn : Int), el, (tn : Int)⟩) hx)
                  have tx : (el == ((s[j]'hjl).toNat : Int) - 97) = false := by rw [← hxx]; simpa using hx
                  have x1 : (World.alloc wD (.cells #[.int .i64 fn, .int .i64 el, .int .i64 tn] 44)).cell? ⟨wD.heap.size, 1, none⟩ = some (.int .i64 el) := by simp [go_sem]
                  clear hx hb hgd hxx
                  go_wp2_with fail
                  generalize World.alloc wD (.cells #[.int .i64 fn, .int .i64 el, .int .i64 tn] 44) = wB at *
                  go_region
                  all_goals
                    go_wp2_with fail
                    exact ⟨⟨k + 1, by omega, by go_num, by rw [← HXX.out, HSN.out, HF.out]; exact HOB.out, HG1'.out.drew, HB1'.out.drew⟩, by simp [intOf]; omega⟩
              · obtain rfl : k = n := by omega
                have hE : es.take k = es := by rw [HN.out, List.take_length]
                rw [hE] at HOD
                have HR := Lib.hid (HOD.out.row fun q _ => longL_le es q)
                rw [← HT.out] at HR
                clear ho hgd hb hE
                go_wp2_with fail
                exact ⟨⟨j + 1, _, by omega, by go_num, rfl, HR.out, HBD.out⟩, by simp [intOf]; omega⟩
          · obtain rfl : j = s.size := by omega
            have hE : (wdL s).take s.size = wdL s := by rw [← wdL_len, List.take_length]
            rw [hE] at HRC2
            obtain ⟨CC, hCC⟩ : ∃ CC, CC = longW es (wdL s) (cntS st) := ⟨_, rfl⟩
            rw [← hCC] at HRC2
            have HCC := Lib.hid hCC
            clear hrc hb hE hCC
            go_wp2_with fail
            go_loopw [11, 78] (fun v9 vi wr => ∃ q : Nat, q ≤ i ∧ vi = .int .i64 q ∧ v9 = .int .i64 (sumF fi CC q : Nat) ∧ wC = wr) (fun _ vi _ => i - (intOf vi).toNat)
            case atStart => exact ⟨0, Nat.zero_le _, rfl, rfl, rfl⟩
            case round =>
              obtain ⟨q, hq, rfl, rfl, rfl⟩ := hrel
              by_cases hlt2 : q < i
              · rcases HRC2.out with h0 | ⟨b3, rfl, hb3, hc3⟩
                · omega
                have hcq := (hc3 q hlt2).1
                have hq31 := (hc3 q hlt2).2
                have ht31 := sumF_le fi CC q
                have HT := Lib.hid (show sumF fi CC (q + 1) = if fi.testBit q then satR (sumF fi CC q + CC q) else sumF fi CC q from rfl)
                obtain ⟨tt, htt⟩ : ∃ tt, tt = sumF fi CC q := ⟨_, rfl⟩
                rw [← htt] at HT ht31 ⊢
                obtain ⟨u2, hu2⟩ : ∃ u, u = CC q := ⟨_, rfl⟩
                rw [← hu2] at hcq HT hq31
                have hq0 : (0 : Int) ≤ (q : Int) := by omega
                have hqi : (q : Int) < (i : Int) := by omega
                have hwq : IntKind.i64.wrap (q : Int) = (q : Int) := IntWalk.i64_in _ (by omega)
                cases hb : fi.testBit q
                · have HBT := Lib.hid hb
                  rw [hb] at HT
                  clear hb hc3 htt hu2
                  go_wp2_with fail
                  refine (rel.rhas_any fi q _ HSU.out.2 (by omega)).mono ?_
                  rintro r w' ⟨rfl, rfl⟩
                  rw [HBT.out]
                  go_wp2_with fail
                  exact ⟨⟨q + 1, by omega, by go_num, by rw [HT.out]; rfl, trivial⟩, by simp [intOf]; omega⟩
                · have HBT := Lib.hid hb
                  rw [hb, if_pos rfl] at HT
                  obtain ⟨z, hz⟩ : ∃ z, z = satR (tt + u2) := ⟨_, rfl⟩
                  rw [← hz] at HT
                  have hmin : min ((tt : Int) + (u2 : Int)) 2147483648 = (z : Int) := by rw [hz]; unfold satR; omega
                  have hsum : IntKind.i64.wrap ((tt : Int) + (u2 : Int)) = (tt : Int) + (u2 : Int) := IntWalk.i64_in _ (by omega)
                  clear hb hc3 htt hu2 hz
                  go_wp2_with fail
                  refine (rel.rhas_any fi q _ HSU.out.2 (by omega)).mono ?_
                  rintro r w' ⟨rfl, rfl⟩
                  rw [HBT.out]
                  go_wp2_with fail
                  exact ⟨⟨q + 1, by omega, by go_num, by rw [HT.out], trivial⟩, by simp [intOf]; omega⟩
              · obtain rfl : q = i := by omega
                rw [HCC.out]
                go_wp2_with fail
                go_ret
                exact ⟨rfl, below_nbox HBC.out⟩
end Go.Proofs.Ytdoifdpmgmlpdaa
