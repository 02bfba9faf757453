/- Contracts: appendList, appendText, Format. -/
import Derived.Test.YthmdndondlffeaaExprG
namespace Go.Proofs.Ythmdndondlffeaa
open Go Go.RowKit Go.Lib
set_option linter.unusedVariables false
attribute [local go_sem ↓] Go.wp_at_zero Go.wp_at_succ
theorem fmtL_take_len (sep : List Int) (least : Int) (ks : List T) (i : Nat) : (fmtL sep least (ks.take i)).length ≤ (fmtL sep least ks).length := by
  have h : ∃ r, fmtL sep least ks = fmtL sep least (ks.take i) ++ r := by
    have e := List.take_append_drop i ks
    cases ht : ks.take i with
    | nil => exact ⟨_, by simp [fmtL]; rfl⟩
    | cons x a =>
      rw [ht] at e
      have h2 : fmtL sep least (x :: a ++ ks.drop i) = fmtL sep least (x :: a) ++ fmtS sep least (ks.drop i) := by simp [fmtL, fmtS_append, List.append_assoc]
      rw [e] at h2
      exact ⟨_, h2⟩
  obtain ⟨r, hr⟩ := h
  rw [hr, List.length_append]; omega
/-- where the text lies behind 'append(text, s...)' -/
theorem append_str_at {P : Program} {w : World} {base : Nat} {t u ty e : TypeId} {i : TypeInfo} (ht : P.underlying t = some (.slice e)) (hu : P.underlying u = some .string) (hi : P.info? e = some i) (hz : i.zero = some (.int .u8 0))
    (hsize : i.size = 1) (hby : i.bytes = 1) {v : Value} {n : Nat} {xs : List Value} (hown : w.ownsRow base e 1 v n xs) {s : ByteArray} (hs : n + s.size ≤ 1000000)
    {v' : Value} {w' : World} (hr : (Builtin.append_ #[t, u] ty #[v, .string s]).run P w = .ok v' w') (hnil : v' = .slice none 0 0 ↔ v = .slice none 0 0 ∧ s.size = 0) : v'.ownBlock = v.ownBlock ∨ v'.ownBlock = some w.heap.size := by
  rcases hown.2 with ⟨rfl, rfl⟩ | ⟨g, cap, cur, rfl, hbg, hg, hnc, hcm, hcs, htake⟩
  · by_cases h0 : s.size = 0
    · rw [hnil.2 ⟨rfl, h0⟩]; exact .inl rfl
    · rw [run_append_nil_string (P := P) w t u ty e i (.int .u8 0) ht hu hi hz s (by omega) (by omega) (by rw [hby]; omega)] at hr
      injection hr with h1 h2
      rw [← h1]; exact .inr rfl
  · by_cases hroom : n + s.size ≤ cap
    · rw [run_append_room_string (P := P) w t u ty e i ht hu hi hsize g n cap cur hg s hroom (by omega)] at hr
      injection hr with h1 h2
      rw [← h1]; exact .inl rfl
    · have hx := hown.1
      rw [run_append_grow_string (P := P) w t u ty e i (.int .u8 0) ht hu hi hz ⟨g, 0, none⟩ n cap xs (by rw [hsize]; exact hx) (hown.cells (g := g) rfl) s (by omega) (by omega) (by rw [hby]; exact growslice_fits (by omega) (by omega))] at hr
      injection hr with h1 h2
      rw [← h1]; exact .inr rfl
theorem wpList_push_string {w : World} {ops : Array Oper} {rest : List Oper} {o : Oper} {a : Act} {Q : Exit → Act → World → Prop} (hgd : o.guard = none) (sl x : Operand)
    (ho : o.op = .call { callee := .builtin .append, args := #[sl, x], argTypes := #[53, 9] })
    (base : Nat) (v : Value) (l : List Int) (hs : a.eval sl = v) (hown : OwnB w base v l) (s : ByteArray) (m : List Int) (hx : a.eval x = .string s) (hm : strCells s = m.map encB) (hlen : l.length + s.size ≤ 1000000) (hbase : base ≤ w.heap.size)
    (h : ∀ v' w', TextS base w w' v v' (l ++ m) → wpList Try.prog ops Q rest (a.put o.dst v') w') : wpList Try.prog ops Q (o :: rest) a w := by
  obtain ⟨i0, hi, hz0, hz1, hz2⟩ := info_parts infoB
  refine wpList_plain hgd fun K hK => ?_
  obtain ⟨v', w', hr, h2, h3, h4⟩ := run_append_own_string (P := Try.prog) w base 53 9 o.type 5 i0 Try.underlying53 Try.underlying9 hi hz0 hz1 hz2 v l.length (l.map encB) hown s (by unfold maxLen; omega) (by omega) hbase
  have hat := append_str_at Try.underlying53 Try.underlying9 hi hz0 hz1 hz2 hown hlen hr h4
  have hsm : s.size = m.length := by have := congrArg List.length hm; rw [strCells_length, List.length_map] at this; exact this
  have hS : TextS base w w' v v' (l ++ m) := ⟨by unfold OwnB; rw [List.length_append, List.map_append, ← hm, ← hsm]; exact h2, h3, hat.imp id fun e => ⟨_, e, Nat.le_refl _⟩⟩
  unfold Oper.wp execOp
  simp only [ho, resolve, invoke, builtin, Sem.run_bind, Sem.run_pure, Result.andThen_ok, List.map_toArray, List.map_cons, List.map_nil, hs, hx, hr]
  exact hK _ _ (h v' w' hS)
set_option maxRecDepth 100000 in
set_option maxHeartbeats 2000000 in
theorem appendList_any (ks : List T) (hT : ∀ (i : Nat) (op l : Int) (ls : List T), ks[i]? = some (.node op l ls) → TextOf op l ls) (sb : ByteArray) (sep : List Int) (hsb : strCells sb = sep.map encB) (hsz : sb.size = sep.length) (least : Int)
    (base : Nat) (v : Value) (s : List Int) (a : Option Addr) (c : Nat) (w0 w : World) (hin : InX w0 0 0 ks a) (hbase : base = w0.heap.size) (hbel : Below base w0 w) (hown : OwnB w base v s) (hlen : s.length + (fmtL sep least ks).length ≤ 100000) :
    Calls Try.prog 49 #[v, .slice a ks.length c, .string sb, .int .i64 least] w (TextP base w v (s ++ fmtL sep least ks)) := by
  have hbs : base ≤ w.heap.size := by rw [hbase]; exact hbel.size
  have hkl := hin.2.2.2
  have HI := Lib.hid hin
  have HTT := Lib.hid hT
  have HSB := Lib.hid hsb
  have HSZ := Lib.hid hsz
  have HLEN := Lib.hid (show ∀ i, s.length + (fmtL sep least (ks.take i)).length ≤ 100000 from fun i => by have := fmtL_take_len sep least ks i; omega)
  have HB0 := Lib.hid hbel
  have HO := Lib.hid hown
  have HBASE := Lib.hid hbase
  obtain ⟨i0, hi, hz0, hz1, hz2⟩ := info_parts infoB
  clear hin hT hsb hsz hlen hbel hown hbase
  go_enter Try.func49, Try.ntmps49
  go_wp2_with fail
  go_loopw [0, 12] (fun vt vi wr => ∃ (i : Nat), i ≤ ks.length ∧ vi = .int .i64 i ∧ TextS base w wr v vt (s ++ fmtL sep least (ks.take i))) (fun _ vi _ => ks.length - (intOf vi).toNat)
  case atStart => exact ⟨0, Nat.zero_le _, rfl, by simp only [List.take_zero, fmtL_zero, List.append_nil]; exact TextS.refl HO.out⟩
  case round =>
    rename World => wA
    obtain ⟨i, hi', rfl, htx⟩ := hrel
    have HTX := Lib.hid htx
    clear htx
    by_cases hlt : i < ks.length
    · obtain ⟨ko, kl, kk, hk, hk2⟩ := kid_some hlt
      have HBA := Lib.hid (HTX.out.below HO.out HB0.out hbs)
      obtain ⟨b, off, a', c', rfl, hbz, d1, d2, d3, hin0⟩ := HI.out.kid hk
      have hbz2 : b < base := by rw [HBASE.out]; exact hbz
      have c1 := (HBA.out.cell (p := ⟨b, off + i * 3, none⟩) hbz2).trans d1
      have c2 := (HBA.out.cell (p := ⟨b, off + i * 3 + 1, none⟩) hbz2).trans d2
      have c3 := (HBA.out.cell (p := ⟨b, off + i * 3 + 2, none⟩) hbz2).trans d3
      have hi0 : (0 : Int) ≤ (i : Int) := by omega
      have hin2 : (i : Int) < (ks.length : Int) := by omega
      have hwi : IntKind.i64.wrap (i : Int) = (i : Int) := IntWalk.i64_in _ (by omega)
      have HQ := Lib.hid (fun v1 s1 W (h1 : Below base w0 W) (h2 : OwnB W base v1 s1) (h3 : s1.length + (fmtK least (.node ko kl kk)).length ≤ 100000) => appendKid_any ko kl kk (HTT.out i ko kl kk hk) least base v1 s1 a' c' w0 W hin0 HBASE.out h1 h2 h3)
      obtain ⟨kn, hkn⟩ : ∃ kn, kn = kk.length := ⟨_, rfl⟩
      rw [← hkn] at c3 d3 HQ
      have HD := Lib.hid (And.intro d1 (And.intro d2 d3))
      by_cases h0 : i = 0
      · have HT1 := Lib.hid (show s ++ fmtL sep least (ks.take (i + 1)) = (s ++ fmtL sep least (ks.take i)) ++ fmtK least (.node ko kl kk) by
          subst h0; rw [Nat.zero_add, fmtL_take0 hlt, hk2]; simp [fmtL])
        have HL1 := Lib.hid (show (s ++ fmtL sep least (ks.take i)).length + (fmtK least (.node ko kl kk)).length ≤ 100000 by
          subst h0; have h := HLEN.out 1; rw [fmtL_take0 hlt, hk2] at h; simp only [List.take_zero, fmtL_zero, List.append_nil]; exact h)
        have hip : ¬ (0 : Int) < (i : Int) := by omega
        have hip2 : decide ((0 : Int) < (i : Int)) = false := by simp; omega
        obtain ⟨t0, ht0⟩ : ∃ t0, t0 = s ++ fmtL sep least (ks.take i) := ⟨_, rfl⟩
        rw [← ht0] at HTX HT1 HL1
        clear d1 d2 d3 hin0 hkn hk hk2 h0 ht0
        go_wp2_with fail
        refine (HQ.out _ _ _ HBA.out HTX.out.own HL1.out).mono ?_
        rintro e w3 ⟨v3, rfl, hS3⟩
        have HS := Lib.hid (HTX.out.trans hS3)
        clear hS3
        go_wp2_with fail
        exact ⟨⟨i + 1, by omega, by go_num, by have := HS.out; rw [← HT1.out] at this; exact this⟩, by simp [intOf]; omega⟩
      · have hip : (0 : Int) < (i : Int) := by omega
        have HT1 := Lib.hid (show s ++ fmtL sep least (ks.take (i + 1)) = (s ++ fmtL sep least (ks.take i) ++ sep) ++ fmtK least (.node ko kl kk) by rw [fmtL_take hlt (by omega), hk2]; simp [List.append_assoc])
        have HL1 := Lib.hid (show (s ++ fmtL sep least (ks.take i)).length + sep.length + (fmtK least (.node ko kl kk)).length ≤ 100000 by have h := HLEN.out (i + 1); rw [fmtL_take hlt (by omega), hk2] at h; simp only [List.length_append] at h ⊢; omega)
        obtain ⟨t0, ht0⟩ : ∃ t0, t0 = s ++ fmtL sep least (ks.take i) := ⟨_, rfl⟩
        rw [← ht0] at HTX HT1 HL1
        have HBW := Lib.hid (show base ≤ wA.heap.size from Nat.le_trans hbs HTX.out.grow.size)
        clear d1 d2 d3 hin0 hkn hk hk2 h0 ht0
        go_wp2_with (refine wpList_push_string rfl _ _ rfl base _ t0 rfl HTX.out.own sb sep rfl HSB.out (by have := HL1.out; have := HSZ.out; omega) HBW.out ?_)
        intro v1 w1 hS1
        have HS1 := Lib.hid (HTX.out.trans hS1)
        have HBA1 := Lib.hid (HS1.out.below HO.out HB0.out hbs)
        have c1 := (HBA1.out.cell (p := ⟨b, off + i * 3, none⟩) hbz2).trans HD.out.1
        have c2 := (HBA1.out.cell (p := ⟨b, off + i * 3 + 1, none⟩) hbz2).trans HD.out.2.1
        have c3 := (HBA1.out.cell (p := ⟨b, off + i * 3 + 2, none⟩) hbz2).trans HD.out.2.2
        clear hS1
        go_wp2_with fail
        refine (HQ.out _ _ _ HBA1.out HS1.out.own (by rw [List.length_append]; exact HL1.out)).mono ?_
        rintro e w3 ⟨v3, rfl, hS3⟩
        have HS := Lib.hid (HS1.out.trans hS3)
        clear hS3
        go_wp2_with fail
        exact ⟨⟨i + 1, by omega, by go_num, by have := HS.out; rw [← HT1.out] at this; exact this⟩, by simp [intOf]; omega⟩
    · obtain rfl : i = ks.length := by omega
      have HF := Lib.hid (show TextS base w wA v _ (s ++ fmtL sep least ks) by have := HTX.out; rw [List.take_length] at this; exact this)
      go_wp2_with fail
      go_ret
      exact ⟨_, rfl, HF.out⟩
end Go.Proofs.Ythmdndondlffeaa
