/- Facts and contracts: which trees match the empty word. -/
import Derived.Test.YtjnnabcpamionaaExprS
namespace Go.Proofs.Ytjnnabcpamionaa
open Go Go.RowKit
set_option linter.unusedVariables false
mutual
def nuT : T → Bool | .node op _ ks => if op = 2 ∨ op = 7 then true else if op = 4 then nuAny ks else if op = 5 ∨ op = 6 then nuAll ks else if op = 8 then !nuAny ks else false
def nuAny : List T → Bool | [] => false | k :: ks => nuT k || nuAny ks
def nuAll : List T → Bool | [] => true | k :: ks => nuT k && nuAll ks
end
theorem nuT_op (op l : Int) (ks : List T) : nuT (.node op l ks) = if op = 2 ∨ op = 7 then true else if op = 4 then nuAny ks else if op = 5 ∨ op = 6 then nuAll ks else if op = 8 then !nuAny ks else false := by rw [nuT]
theorem nuAny_any (ks : List T) : nuAny ks = ks.any nuT := by
  induction ks with
  | nil => rfl
  | cons x a ih => simp [nuAny, ih]
theorem nuAll_any (ks : List T) : nuAll ks = !ks.any (fun k => !nuT k) := by
  induction ks with
  | nil => rfl
  | cons x a ih => simp [nuAll, ih]
theorem nuAny_take {ks : List T} {i : Nat} (h : i < ks.length) : nuAny (ks.take (i + 1)) = (nuAny (ks.take i) || nuT ks[i]) := by
  rw [take_snoc h, nuAny_any, nuAny_any]; simp only [List.any_append, List.any_cons, List.any_nil, Bool.or_false]
theorem nuAll_take {ks : List T} {i : Nat} (h : i < ks.length) : nuAll (ks.take (i + 1)) = (nuAll (ks.take i) && nuT ks[i]) := by
  rw [take_snoc h, nuAll_any, nuAll_any]; simp only [List.any_append, List.any_cons, List.any_nil, Bool.or_false, Bool.not_or, Bool.not_not]
theorem any_take_false {ks : List T} {p : T → Bool} {i : Nat} (h : i < ks.length) (h1 : (ks.take i).any p = false) (h2 : p ks[i] = false) : (ks.take (i + 1)).any p = false := by
  rw [take_snoc h, List.any_append, h1]; simp only [List.any_cons, List.any_nil, h2, Bool.or_false]
/-- IndexFunc's result -/
def IxP (p : T → Bool) (ks : List T) (w : World) (e : Ending) (w' : World) : Prop := ∃ r : Int, e = .returned (.int .i64 r) ∧ decide (0 ≤ r) = ks.any p ∧ Below w.heap.size w w'
/-- what nullable promises of a tree -/
def NuOf (op l : Int) (ks : List T) : Prop := ∀ (a : Option Addr) (c : Nat) (w : World), InX w op l ks a →
    Calls Try.prog 48 #[.agg #[.int .i64 op, .int .i64 l, .slice a ks.length c]] w fun e w' => e = .returned (.bool (nuT (.node op l ks))) ∧ Below w.heap.size w w'
theorem notNu_of (op l : Int) (ks : List T) (h : NuOf op l ks) (a : Option Addr) (c : Nat) (w : World) (hin : InX w op l ks a) :
    Calls Try.prog 66 #[.agg #[.int .i64 op, .int .i64 l, .slice a ks.length c]] w fun e w' => e = .returned (.bool (!nuT (.node op l ks))) ∧ Below w.heap.size w w' := by
  have HQ := Lib.hid (h a c _ (hin.box (.cells #[.int .i64 op, .int .i64 l, .slice a ks.length c] 24)))
  obtain ⟨r, hr⟩ : ∃ r, r = nuT (.node op l ks) := ⟨_, rfl⟩
  obtain ⟨n, hn⟩ : ∃ n, n = ks.length := ⟨_, rfl⟩
  rw [← hr] at HQ ⊢
  rw [← hn] at HQ ⊢
  have HB0 := Lib.hid ((Below.refl w.heap.size w).alloc (Nat.le_refl _) (.cells #[.int .i64 op, .int .i64 l, .slice a n c] 24))
  clear hr hn h hin
  go_enter Try.func66, Try.ntmps66
  go_wp2_with fail
  refine HQ.out.mono ?_
  rintro e w2 ⟨rfl, hB⟩
  have HB2 := Lib.hid (HB0.out.trans (hB.mono (by simp)))
  clear hB
  go_wp2_with fail
  go_ret
  exact ⟨rfl, HB2.out⟩
set_option maxRecDepth 100000 in
set_option maxHeartbeats 2000000 in
theorem index_nu (ks : List T) (hk : ∀ (i : Nat) (op l : Int) (ls : List T), ks[i]? = some (.node op l ls) → ∀ (a : Option Addr) (c : Nat) (w : World), InX w op l ls a →
    Calls Try.prog 48 #[.agg #[.int .i64 op, .int .i64 l, .slice a ls.length c]] w fun e w' => e = .returned (.bool (nuT (.node op l ls))) ∧ Below w.heap.size w w') (a : Option Addr) (c : Nat) (w : World) (hin : InX w 0 0 ks a) :
    Calls Try.prog 78 #[.slice a ks.length c, .func (.func 48) #[] #[]] w (IxP nuT ks w) := by
  have hlen := hin.2.2.2
  have HI := Lib.hid hin
  have HK := Lib.hid hk
  clear hin hk
  go_enter Try.func78, Try.ntmps78
  go_wp2_with fail
  go_loopw [8] (fun vi wr => ∃ (i : Nat), i ≤ ks.length ∧ vi = .int .i64 i ∧ (ks.take i).any nuT = false ∧ Below w.heap.size w wr) (fun vi _ => ks.length - (intOf vi).toNat)
  case atStart => exact ⟨0, Nat.zero_le _, rfl, rfl, Below.refl _ _⟩
  case round =>
    rename World => wA
    obtain ⟨i, hi, rfl, hu, hb⟩ := hrel
    have HU := Lib.hid hu
    have HB := Lib.hid hb
    clear hu hb
    by_cases hlt : i < ks.length
    · obtain ⟨ko, kl, kk, hk, hk2⟩ := kid_some hlt
      obtain ⟨b, off, a', c', rfl, hbz, c1, c2, c3, hx⟩ := (HI.out.keep HB.out).kid hk
      have hi0 : (0 : Int) ≤ (i : Int) := by omega
      have hin2 : (i : Int) < (ks.length : Int) := by omega
      have hwi : IntKind.i64.wrap (i : Int) = (i : Int) := IntWalk.i64_in _ (by omega)
      have HQ := Lib.hid (HK.out i ko kl kk hk a' c' wA hx)
      obtain ⟨kn, hkn⟩ : ∃ kn, kn = kk.length := ⟨_, rfl⟩
      rw [← hkn] at HQ c3
      cases hu : (nuT (.node ko kl kk))
      · have HUU := Lib.hid hu
        have HN := Lib.hid (show (ks.take (i + 1)).any nuT = false from any_take_false hlt HU.out (by rw [hk2]; exact hu))
        clear hkn hx hk hk2 hu
        go_wp2_with fail
        refine HQ.out.mono ?_
        rintro e w3 ⟨rfl, hB⟩
        rw [HUU.out]
        have HB2 := Lib.hid (HB.out.trans (hB.mono HB.out.size))
        clear hB
        go_wp2_with fail
        exact ⟨⟨i + 1, by omega, by go_num, HN.out, HB2.out⟩, by simp [intOf]; omega⟩
      · have HUU := Lib.hid hu
        have HF := Lib.hid (show ks.any nuT = true from List.any_eq_true.2 ⟨_, List.mem_of_getElem? hk, hu⟩)
        clear hkn hx hk hk2 hu
        go_wp2_with fail
        refine HQ.out.mono ?_
        rintro e w3 ⟨rfl, hB⟩
        rw [HUU.out]
        have HB2 := Lib.hid (HB.out.trans (hB.mono HB.out.size))
        clear hB
        go_wp2_with fail
        go_ret
        exact ⟨(i : Int), rfl, by rw [HF.out]; simp, HB2.out⟩
    · obtain rfl : i = ks.length := by omega
      have HF := Lib.hid (show ks.any nuT = false by have := HU.out; rw [List.take_length] at this; exact this)
      go_wp2_with fail
      go_ret
      exact ⟨-1, rfl, by rw [HF.out]; rfl, HB.out⟩
set_option maxHeartbeats 1000000 in
theorem contains_nu (ks : List T) (hk : ∀ (i : Nat) (op l : Int) (ls : List T), ks[i]? = some (.node op l ls) → ∀ (a : Option Addr) (c : Nat) (w : World), InX w op l ls a →
    Calls Try.prog 48 #[.agg #[.int .i64 op, .int .i64 l, .slice a ls.length c]] w fun e w' => e = .returned (.bool (nuT (.node op l ls))) ∧ Below w.heap.size w w') (a : Option Addr) (c : Nat) (w : World) (hin : InX w 0 0 ks a) :
    Calls Try.prog 65 #[.slice a ks.length c, .func (.func 48) #[] #[]] w fun e w' => e = .returned (.bool (ks.any nuT)) ∧ Below w.heap.size w w' := by
  have HQ := Lib.hid (index_nu ks hk a c w hin)
  obtain ⟨r, hr⟩ : ∃ r, r = ks.any nuT := ⟨_, rfl⟩
  obtain ⟨n, hn⟩ : ∃ n, n = ks.length := ⟨_, rfl⟩
  unfold IxP at HQ
  rw [← hr] at HQ ⊢
  rw [← hn] at HQ ⊢
  clear hr hn hk hin
  go_enter Try.func65, Try.ntmps65
  go_wp2_with fail
  refine HQ.out.mono ?_
  rintro e w2 ⟨x, rfl, hx, hB⟩
  have HB := Lib.hid hB
  have HX := Lib.hid hx
  clear hB hx
  go_wp2_with fail
  go_ret
  exact ⟨by rw [← HX.out]; rfl, HB.out⟩
set_option maxRecDepth 100000 in
set_option maxHeartbeats 2000000 in
theorem index_notNu (ks : List T) (hk : ∀ (i : Nat) (op l : Int) (ls : List T), ks[i]? = some (.node op l ls) → ∀ (a : Option Addr) (c : Nat) (w : World), InX w op l ls a →
    Calls Try.prog 66 #[.agg #[.int .i64 op, .int .i64 l, .slice a ls.length c]] w fun e w' => e = .returned (.bool (!nuT (.node op l ls))) ∧ Below w.heap.size w w') (a : Option Addr) (c : Nat) (w : World) (hin : InX w 0 0 ks a) :
    Calls Try.prog 78 #[.slice a ks.length c, .func (.func 66) #[] #[]] w (IxP (fun k => !nuT k) ks w) := by
  have hlen := hin.2.2.2
  have HI := Lib.hid hin
  have HK := Lib.hid hk
  clear hin hk
  go_enter Try.func78, Try.ntmps78
  go_wp2_with fail
  go_loopw [8] (fun vi wr => ∃ (i : Nat), i ≤ ks.length ∧ vi = .int .i64 i ∧ (ks.take i).any (fun k => !nuT k) = false ∧ Below w.heap.size w wr) (fun vi _ => ks.length - (intOf vi).toNat)
  case atStart => exact ⟨0, Nat.zero_le _, rfl, rfl, Below.refl _ _⟩
  case round =>
    rename World => wA
    obtain ⟨i, hi, rfl, hu, hb⟩ := hrel
    have HU := Lib.hid hu
    have HB := Lib.hid hb
    clear hu hb
    by_cases hlt : i < ks.length
    · obtain ⟨ko, kl, kk, hk, hk2⟩ := kid_some hlt
      obtain ⟨b, off, a', c', rfl, hbz, c1, c2, c3, hx⟩ := (HI.out.keep HB.out).kid hk
      have hi0 : (0 : Int) ≤ (i : Int) := by omega
      have hin2 : (i : Int) < (ks.length : Int) := by omega
      have hwi : IntKind.i64.wrap (i : Int) = (i : Int) := IntWalk.i64_in _ (by omega)
      have HQ := Lib.hid (HK.out i ko kl kk hk a' c' wA hx)
      obtain ⟨kn, hkn⟩ : ∃ kn, kn = kk.length := ⟨_, rfl⟩
      rw [← hkn] at HQ c3
      cases hu : (!nuT (.node ko kl kk))
      · have HUU := Lib.hid hu
        have HN := Lib.hid (show (ks.take (i + 1)).any (fun k => !nuT k) = false from any_take_false hlt HU.out (by rw [hk2]; exact hu))
        clear hkn hx hk hk2 hu
        go_wp2_with fail
        refine HQ.out.mono ?_
        rintro e w3 ⟨rfl, hB⟩
        rw [HUU.out]
        have HB2 := Lib.hid (HB.out.trans (hB.mono HB.out.size))
        clear hB
        go_wp2_with fail
        exact ⟨⟨i + 1, by omega, by go_num, HN.out, HB2.out⟩, by simp [intOf]; omega⟩
      · have HUU := Lib.hid hu
        have HF := Lib.hid (show ks.any (fun k => !nuT k) = true from List.any_eq_true.2 ⟨_, List.mem_of_getElem? hk, hu⟩)
        clear hkn hx hk hk2 hu
        go_wp2_with fail
        refine HQ.out.mono ?_
        rintro e w3 ⟨rfl, hB⟩
        rw [HUU.out]
        have HB2 := Lib.hid (HB.out.trans (hB.mono HB.out.size))
        clear hB
        go_wp2_with fail
        go_ret
        exact ⟨(i : Int), rfl, by rw [HF.out]; simp, HB2.out⟩
    · obtain rfl : i = ks.length := by omega
      have HF := Lib.hid (show ks.any (fun k => !nuT k) = false by have := HU.out; rw [List.take_length] at this; exact this)
      go_wp2_with fail
      go_ret
      exact ⟨-1, rfl, by rw [HF.out]; rfl, HB.out⟩
set_option maxHeartbeats 1000000 in
theorem contains_notNu (ks : List T) (hk : ∀ (i : Nat) (op l : Int) (ls : List T), ks[i]? = some (.node op l ls) → ∀ (a : Option Addr) (c : Nat) (w : World), InX w op l ls a →
    Calls Try.prog 66 #[.agg #[.int .i64 op, .int .i64 l, .slice a ls.length c]] w fun e w' => e = .returned (.bool (!nuT (.node op l ls))) ∧ Below w.heap.size w w') (a : Option Addr) (c : Nat) (w : World) (hin : InX w 0 0 ks a) :
    Calls Try.prog 65 #[.slice a ks.length c, .func (.func 66) #[] #[]] w fun e w' => e = .returned (.bool (ks.any (fun k => !nuT k))) ∧ Below w.heap.size w w' := by
  have HQ := Lib.hid (index_notNu ks hk a c w hin)
  obtain ⟨r, hr⟩ : ∃ r, r = ks.any (fun k => !nuT k) := ⟨_, rfl⟩
  obtain ⟨n, hn⟩ : ∃ n, n = ks.length := ⟨_, rfl⟩
  unfold IxP at HQ
  rw [← hr] at HQ ⊢
  rw [← hn] at HQ ⊢
  clear hr hn hk hin
  go_enter Try.func65, Try.ntmps65
  go_wp2_with fail
  refine HQ.out.mono ?_
  rintro e w2 ⟨x, rfl, hx, hB⟩
  have HB := Lib.hid hB
  have HX := Lib.hid hx
  clear hB hx
  go_wp2_with fail
  go_ret
  exact ⟨by rw [← HX.out]; rfl, HB.out⟩
set_option maxRecDepth 100000 in
set_option maxHeartbeats 4000000 in
theorem nullable_of (op l : Int) (ks : List T) : wfT 6 (.node op l ks) = true → NuOf op l ks := by
  refine T.ind2 (P := fun op l ks => wfT 6 (.node op l ks) = true → NuOf op l ks) ?_ op l ks
  clear op l ks
  intro op l ks ih hwf a c w hin
  obtain ⟨hk, hl, hkids⟩ := wfT_node.1 hwf
  have hT : ∀ (i : Nat) (op' l' : Int) (ls : List T), ks[i]? = some (.node op' l' ls) → NuOf op' l' ls := fun i op' l' ls h => ih i op' l' ls h (hkids _ (List.mem_of_getElem? h))
  have hx0 := hin.box (.cells #[.int .i64 op, .int .i64 l, .slice a ks.length c] 24)
  have HC1 := Lib.hid (contains_nu ks (fun i o l ls h a c w hx => hT i o l ls h a c w hx) a c _ ⟨hx0.1, by unfold B64; omega, by unfold B64; omega, hx0.2.2.2⟩)
  have HC2 := Lib.hid (contains_notNu ks (fun i o l ls h a c w hx => notNu_of o l ls (hT i o l ls h) a c w hx) a c _ ⟨hx0.1, by unfold B64; omega, by unfold B64; omega, hx0.2.2.2⟩)
  have HB0 := Lib.hid ((Below.refl w.heap.size w).alloc (Nat.le_refl _) (.cells #[.int .i64 op, .int .i64 l, .slice a ks.length c] 24))
  have HI := Lib.hid hin
  have HX0 := Lib.hid hx0
  have HT := Lib.hid hT
  clear hin hT ih hwf hkids hx0
  rcases op_cases op with h | h | h | h | h | h | h | h | h
  case inr.inr.inr.inr.inr.inr.inr.inr => exact absurd (kidsOk_no ks.length h) (by rw [hk]; decide)
  · have HF := Lib.hid (show nuT (.node op l ks) = false by rw [nuT_op, h]; rfl)
    subst h
    clear hk hl HC1 HC2
    go_enter Try.func48, Try.ntmps48
    go_wp2_with fail
    go_ret
    exact ⟨by rw [HF.out]; rfl, HB0.out⟩
  · have HF := Lib.hid (show nuT (.node op l ks) = true by rw [nuT_op, h]; rfl)
    subst h
    clear hk hl HC1 HC2
    go_enter Try.func48, Try.ntmps48
    go_wp2_with fail
    go_ret
    exact ⟨by rw [HF.out]; rfl, HB0.out⟩
  · have HF := Lib.hid (show nuT (.node op l ks) = false by rw [nuT_op, h]; rfl)
    subst h
    clear hk hl HC1 HC2
    go_enter Try.func48, Try.ntmps48
    go_wp2_with fail
    go_ret
    exact ⟨by rw [HF.out]; rfl, HB0.out⟩
  · have HF := Lib.hid (show nuT (.node op l ks) = (ks.any nuT) by rw [nuT_op, h, ← nuAny_any]; rfl)
    obtain ⟨r, hr⟩ : ∃ r, r = ks.any nuT := ⟨_, rfl⟩
    rw [← hr] at HF HC1
    subst h
    clear hk hl hr
    go_enter Try.func48, Try.ntmps48
    go_wp2_with fail
    refine HC1.out.mono ?_
    rintro e w3 ⟨rfl, hB⟩
    have HB3 := Lib.hid (HB0.out.trans (hB.mono (by simp)))
    clear hB
    go_wp2_with fail
    go_ret
    exact ⟨by rw [HF.out]; rfl, HB3.out⟩
  · have HF := Lib.hid (show nuT (.node op l ks) = (!ks.any (fun k => !nuT k)) by rw [nuT_op, h, ← nuAll_any]; rfl)
    obtain ⟨r, hr⟩ : ∃ r, r = ks.any (fun k => !nuT k) := ⟨_, rfl⟩
    rw [← hr] at HF HC2
    subst h
    clear hk hl hr
    go_enter Try.func48, Try.ntmps48
    go_wp2_with fail
    refine HC2.out.mono ?_
    rintro e w3 ⟨rfl, hB⟩
    have HB3 := Lib.hid (HB0.out.trans (hB.mono (by simp)))
    clear hB
    go_wp2_with fail
    go_ret
    exact ⟨by rw [HF.out]; rfl, HB3.out⟩
  · have HF := Lib.hid (show nuT (.node op l ks) = (!ks.any (fun k => !nuT k)) by rw [nuT_op, h, ← nuAll_any]; rfl)
    obtain ⟨r, hr⟩ : ∃ r, r = ks.any (fun k => !nuT k) := ⟨_, rfl⟩
    rw [← hr] at HF HC2
    subst h
    clear hk hl hr
    go_enter Try.func48, Try.ntmps48
    go_wp2_with fail
    refine HC2.out.mono ?_
    rintro e w3 ⟨rfl, hB⟩
    have HB3 := Lib.hid (HB0.out.trans (hB.mono (by simp)))
    clear hB
    go_wp2_with fail
    go_ret
    exact ⟨by rw [HF.out]; rfl, HB3.out⟩
  · have HF := Lib.hid (show nuT (.node op l ks) = true by rw [nuT_op, h]; rfl)
    subst h
    clear hk hl HC1 HC2
    go_enter Try.func48, Try.ntmps48
    go_wp2_with fail
    go_ret
    exact ⟨by rw [HF.out]; rfl, HB0.out⟩
  · have hn1 : ks.length = 1 := by rw [kidsOk_1 _ (by omega)] at hk; simp at hk; omega
    have hlt : 0 < ks.length := by omega
    obtain ⟨ko, kl, kk, hk0, hk2⟩ := kid_some hlt
    have HF := Lib.hid (show nuT (.node op l ks) = !nuT (.node ko kl kk) by
      obtain ⟨k, rfl⟩ := List.length_eq_one_iff.1 hn1
      have e : k = .node ko kl kk := hk2
      rw [nuT_op, h, ← e, nuAny_any]; simp)
    obtain ⟨b, off, a', c', rfl, hbz, d1, d2, d3, hx⟩ := HX0.out.kid hk0
    simp only [Nat.zero_mul, Nat.add_zero] at d1 d2 d3
    have HQ := Lib.hid (HT.out 0 ko kl kk hk0 a' c' _ hx)
    obtain ⟨kn, hkn⟩ : ∃ kn, kn = kk.length := ⟨_, rfl⟩
    obtain ⟨r, hr⟩ : ∃ r, r = nuT (.node ko kl kk) := ⟨_, rfl⟩
    rw [← hr] at HF HQ
    rw [← hkn] at HQ d3
    have hl0 : (0 : Int) < (ks.length : Int) := by omega
    subst h
    clear hk hl hk0 hk2 hx hkn hn1 hr HC1 HC2
    go_enter Try.func48, Try.ntmps48
    go_wp2_with fail
    refine HQ.out.mono ?_
    rintro e w3 ⟨rfl, hB⟩
    have HB3 := Lib.hid (HB0.out.trans (hB.mono (by simp)))
    clear hB
    go_wp2_with fail
    go_ret
    exact ⟨by rw [HF.out]; rfl, HB3.out⟩
set_option maxRecDepth 100000 in
set_option maxHeartbeats 4000000 in
theorem nullR_any (op l : Int) (ks : List T) : ∀ (a : Option Addr) (c : Nat) (w : World), InX w op l ks a →
    Calls Try.prog 28 #[.agg #[.int .i64 op, .int .i64 l, .slice a ks.length c]] w fun e w' => e = .returned (.bool (nuT (.node op l ks))) ∧ Below w.heap.size w w' := by
  refine T.ind2 (P := fun op l ks => ∀ (a : Option Addr) (c : Nat) (w : World), InX w op l ks a →
    Calls Try.prog 28 #[.agg #[.int .i64 op, .int .i64 l, .slice a ks.length c]] w fun e w' => e = .returned (.bool (nuT (.node op l ks))) ∧ Below w.heap.size w w') ?_ op l ks
  clear op l ks
  intro op l ks ih a c w hin
  have hlen := hin.2.2.2
  have HI := Lib.hid hin
  have IH := Lib.hid ih
  clear hin ih
  go_enter Try.func28, Try.ntmps28
  go_wp2_with fail
  go_loopw [3, 4, 11] (fun va vo vi wr => ∃ (i : Nat) (p q : Bool), i ≤ ks.length ∧ vi = .int .i64 i ∧ va = .bool p ∧ vo = .bool q ∧ p = nuAll (ks.take i) ∧ q = nuAny (ks.take i) ∧ Below (w.heap.size + 1) (w.alloc (.cells #[.int .i64 op, .int .i64 l, .slice a ks.length c] 24)) wr) (fun _ _ vi _ => ks.length - (intOf vi).toNat)
  case atStart => exact ⟨0, true, false, Nat.zero_le _, rfl, rfl, rfl, rfl, rfl, Below.refl _ _⟩
  case round =>
    rename World => wA
    obtain ⟨i, p, q, hi, rfl, rfl, rfl, hp, hq, hb⟩ := hrel
    have HP := Lib.hid hp
    have HQ0 := Lib.hid hq
    have HB := Lib.hid hb
    obtain ⟨x0, x1, x2⟩ := box_cells hb
    clear hp hq hb
    by_cases hlt : i < ks.length
    · obtain ⟨ko, kl, kk, hk, hk2⟩ := kid_some hlt
      obtain ⟨b, off, a', c', rfl, hbz, c1, c2, c3, hx⟩ := ((HI.out.box _).keep (HB.out.mono (by simp))).kid hk
      have hi0 : (0 : Int) ≤ (i : Int) := by omega
      have hin2 : (i : Int) < (ks.length : Int) := by omega
      have hwi : IntKind.i64.wrap (i : Int) = (i : Int) := IntWalk.i64_in _ (by omega)
      have HX := Lib.hid hx
      have HQ := Lib.hid (fun W (h : InX W ko kl kk a') => IH.out i ko kl kk hk a' c' W h)
      obtain ⟨r, hr⟩ : ∃ r, r = nuT (.node ko kl kk) := ⟨_, rfl⟩
      have HN1 := Lib.hid (show (p && r) = nuAll (ks.take (i + 1)) by rw [nuAll_take hlt, HP.out, hk2, hr])
      have HN2 := Lib.hid (show (q || r) = nuAny (ks.take (i + 1)) by rw [nuAny_take hlt, HQ0.out, hk2, hr])
      rw [← hr] at HQ
      obtain ⟨kn, hkn⟩ : ∃ kn, kn = kk.length := ⟨_, rfl⟩
      rw [← hkn] at HQ c3
      clear hr hkn hx hk hk2
      have HRES := Lib.hid (fun (w3 : World) (hB : Below (wA.alloc (.cells #[.int .i64 ko, .int .i64 kl, .slice a' kn c'] 24)).heap.size (wA.alloc (.cells #[.int .i64 ko, .int .i64 kl, .slice a' kn c'] 24)) w3) => (HB.out.alloc (by have := HB.out.size; simp at this; omega) _).trans (hB.mono (by have := HB.out.size; simp at this ⊢; omega)))
      cases p <;> cases q
      all_goals
        go_wp2_with fail
        refine (HQ.out _ (HX.out.box _)).mono ?_
        rintro e w3 ⟨rfl, hB⟩
        have HB2 := Lib.hid (HRES.out _ hB)
        clear hB
        go_wp2_with fail
        exact ⟨⟨i + 1, _, _, by omega, by go_num, rfl, rfl, HN1.out, HN2.out, HB2.out⟩, by simp [intOf]; omega⟩
    · obtain rfl : i = ks.length := by omega
      have hp2 : p = nuAll ks := by have := HP.out; rw [List.take_length] at this; exact this
      have hq2 : q = nuAny ks := by have := HQ0.out; rw [List.take_length] at this; exact this
      rcases op_cases op with h | h | h | h | h | h | h | h | h
      case inr.inr.inr.inr.inr.inr.inr.inr =>
        obtain ⟨h1, h2, h3, h4, h5, h6, h7, h8⟩ := h
        have HF := Lib.hid (show nuT (.node op l ks) = false by rw [nuT_op, if_neg (by omega), if_neg (by omega), if_neg (by omega), if_neg (by omega)])
        have t2 := ne_beq h2
        have t4 := ne_beq h4
        have t5 := ne_beq h5
        have t6 := ne_beq h6
        have t7 := ne_beq h7
        have t8 := ne_beq h8
        clear h1 h2 h3 h4 h5 h6 h7 h8 hp2 hq2
        go_wp2_with fail
        go_ret
        exact ⟨by rw [HF.out]; rfl, below_box HB.out⟩
      all_goals
        have HF := Lib.hid (show nuT (.node op l ks) = (if op = 2 ∨ op = 7 then true else if op = 4 then q else if op = 5 ∨ op = 6 then p else if op = 8 then !q else false) by rw [hp2, hq2]; exact nuT_op op l ks)
        subst h
        clear hp2 hq2
        go_wp2_with fail
        go_ret
        exact ⟨by rw [HF.out]; rfl, below_box HB.out⟩
end Go.Proofs.Ytjnnabcpamionaa
