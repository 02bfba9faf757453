/- Contracts: word.Compare; maps.Keys, slices.Collect, slices.SortedFunc(maps.Keys(m), word.Compare), as calls without a fence. -/
import Derived.Test.YtbmbgdfnhbkelabWordWA
import Derived.Test.YtbmbgdfnhbkelabIter
import Derived.Test.YtbmbgdfnhbkelabShelf
import Derived.Test.YtbmbgdfnhbkelabSortL
import Derived.Maps.Own
import Derived.Maps.OwnSet
import Derived.StringKeys
import Derived.Lib.SortBridge
namespace Go.Proofs.Ytbmbgdfnhbkelab
open Go Go.RowKit Go.Maps Go.Sort Go.Lib Go.Shelf
open WordM
set_option linter.unusedVariables false

set_option maxHeartbeats 400000 in
theorem compare_any (u v : ByteArray) (hu : u.size ≤ maxLen) (hv : v.size ≤ maxLen) (w : World) :
    Calls Try.prog 15 #[.string u, .string v] w fun e w' => e = .returned (.int .i64 (cmpW u v)) ∧ w' = w := by
  have hci : ∀ (a b : Int) W, Calls Try.prog 23 #[.int .i64 a, .int .i64 b] W fun e w' => e = .returned (.int .i64 (Lib.compareInt a b)) ∧ w' = W := fun a b W => AnyG.cmp_Compare_int Try.cmpI23 a b W
  have HCI := Lib.hid hci
  unfold maxLen at hu hv
  by_cases h1 : u.size < v.size
  · have hc : cmpW u v = Lib.compareInt u.size v.size := by rw [cmpW_lt (.inl h1)]; simp [Lib.compareInt]; omega
    have HC := Lib.hid hc
    clear hc hci
    have hne : ((u.size : Int) != (v.size : Int)) = true := by rw [bne_iff_ne]; omega
    go_enter Try.func15, Try.ntmps15
    go_wp2_with fail
    refine (HCI.out _ _ _).mono ?_
    rintro e w' ⟨rfl, rfl⟩
    rw [← HC.out]
    go_wp2_with fail
    go_ret
    exact ⟨rfl, rfl⟩
  · by_cases h2 : v.size < u.size
    · have hc : cmpW u v = Lib.compareInt u.size v.size := by rw [cmpW_gt (.inl h2)]; simp [Lib.compareInt]; omega
      have HC := Lib.hid hc
      clear hc hci
      have hne : ((u.size : Int) != (v.size : Int)) = true := by rw [bne_iff_ne]; omega
      go_enter Try.func15, Try.ntmps15
      go_wp2_with fail
      refine (HCI.out _ _ _).mono ?_
      rintro e w' ⟨rfl, rfl⟩
      rw [← HC.out]
      go_wp2_with fail
      go_ret
      exact ⟨rfl, rfl⟩
    · have hc : cmpW u v = Lib.compareBytes u.data.toList v.data.toList := by simp only [cmpW, if_neg h1, if_neg h2]
      have HC := Lib.hid hc
      clear hc hci
      have hne : ((u.size : Int) != (v.size : Int)) = false := by rw [bne_eq_false_iff_eq]; omega
      go_enter Try.func15, Try.ntmps15
      go_wp2_with fail
      refine (Try.strings_Compare _ _ _).mono ?_
      rintro e w' ⟨rfl, rfl⟩
      rw [← HC.out]
      go_wp2_with fail
      go_ret
      exact ⟨rfl, rfl⟩

/-- a word that the machine can hold -/
abbrev WordT := { x : ByteArray // x.size ≤ maxLen }
instance : Inhabited WordT := ⟨⟨⟨#[]⟩, Nat.zero_le _⟩⟩
def encT (x : WordT) : Value := .string x.1
def cmpT (x y : WordT) : Int := cmpW x.1 y.1
theorem ltT (x y : WordT) : ltOf cmpT x y = true ↔ cmpW x.1 y.1 < 0 := by unfold ltOf cmpT; exact decide_eq_true_iff
theorem ltF (x y : WordT) : ltOf cmpT x y = false ↔ ¬ cmpW x.1 y.1 < 0 := by unfold ltOf cmpT; exact decide_eq_false_iff_not
theorem swoT : SWO (ltOf cmpT) where
  irrefl x := by rw [ltF, cmpW_self]; omega
  trans x y z h1 h2 := by
    rw [ltT] at *
    rw [cmpW_lt (ltW_trans (lt_of_cmp h1) (lt_of_cmp h2))]; omega
  ntrans x y z h1 h2 := by
    rw [ltF] at *
    have a1 := cmpW_neg x.1 y.1; have a2 := cmpW_neg y.1 z.1; have a3 := cmpW_neg x.1 z.1
    have := cmpW_chain (u := z.1) (v := y.1) (w := x.1) (by omega) (by omega)
    omega
theorem totT (x y : WordT) (h1 : ltOf cmpT x y = false) (h2 : ltOf cmpT y x = false) : x = y := by
  rw [ltF] at *
  have a1 := cmpW_neg x.1 y.1
  exact Subtype.ext ((cmpW_iff x.1 y.1).2.1.1 (by omega))
theorem cmpLays (blk off size : Nat) (w : World) : CmpReads Try.prog 15 #[] encT cmpT blk off size w :=
  fun _ _ _ _ x y => (compare_any x.1 y.1 x.2 y.2 _).mono fun e w' ⟨h1, h2⟩ => ⟨h1, 0, h2⟩

theorem heap_sortedT {w : World} {g n : Nat} {os : Array Obj} {cur : Array Value} {e : TypeId} {fr : Nat × Nat} (d : Array WordT) (hb : w.heap[g]? = some (.cells cur e fr)) :
    (grow (putRow encT (Sort.ahead w n) g 0 d) os).heap[g]? = some (.cells (putCells encT 0 d cur) e fr) := by
  have hg : g < w.heap.size := (Array.getElem?_eq_some_iff.1 hb).1
  rw [heap_grow_old _ _ (by simpa using hg)]
  simp [putRow, mapBlock, Sort.ahead, Array.getElem?_modify, hb, onCells]
theorem grownBy_sortedT {w : World} {g n : Nat} {os : Array Obj} (d : Array WordT) : w.grownBy (grow (putRow encT (Sort.ahead w n) g 0 d) os) (some g) := by
  refine ⟨rfl, rfl, rfl, by simp, fun k hk hne => ?_⟩
  rw [heap_grow_old _ _ (by simpa using hk)]
  have : g ≠ k := fun e => hne (by rw [e])
  simp [putRow, mapBlock, Sort.ahead, Array.getElem?_modify, this]
theorem cell_sortedT {w : World} {g n : Nat} {os : Array Obj} {cur : Array Value} {e : TypeId} {fr : Nat × Nat} (d : Array WordT) (hb : w.heap[g]? = some (.cells cur e fr)) (hd : d.size ≤ cur.size) {j : Nat} {x : WordT} (hj : d[j]? = some x) :
    (grow (putRow encT (Sort.ahead w n) g 0 d) os).cell? ⟨g, 0 + j, none⟩ = some (.string x.1) := by
  obtain ⟨hlt, he⟩ := Array.getElem?_eq_some_iff.1 hj
  simp only [World.cell?, heap_sortedT (os := os) (n := n) d hb]
  simp [putCells, hlt, show j < cur.size by omega, he, encT]

def toT (x : ByteArray) : WordT := if h : x.size ≤ maxLen then ⟨x, h⟩ else default
theorem toT_val {x : ByteArray} (h : x.size ≤ maxLen) : (toT x).1 = x := by rw [toT, dif_pos h]

theorem keys_ok (mb : Option Nat) (W : World) : Calls Try.prog 17 #[.map mb] W fun e w' => e = .returned (.func (.func 26) #[] #[.pointer (some ⟨W.heap.size, 0, none⟩)]) ∧ w' = W.alloc (.cells #[.map mb] 32) :=
  callsIn_wide.1 (Try.maps_Keys_17 mb W)

set_option maxHeartbeats 1000000 in
/-- slices.Collect(maps.Keys(m)) -/
theorem collect_keys (b nn : Nat) (L : List ByteArray) (w : World) (hown : w.ownsMap Try.prog 9 (plainElem (H := Unit) Try.prog 4) b nn (setW Unit L)) (hmax : Maps.size (setW Unit L) ≤ 1000000) :
    Calls Try.prog 16 #[.func (.func 26) #[] #[.pointer (some ⟨w.heap.size, 0, none⟩)]] (w.alloc (.cells #[.map (some b)] 32)) fun e w' =>
      ∃ (v : Value) (ss : List (List UInt8)), e = .returned v ∧ ss.Perm (strKeys (setW Unit L)) ∧ w'.ownsRow (w.heap.size + 1) 9 1 v ss.length (ss.map encStr) ∧ Below (w.heap.size + 1) (w.alloc (.cells #[.map (some b)] 32)) w' := by
  have hbl := hown.lt
  have hseq : SeqGives Fence.wide 3 Try.prog 26 #[.pointer (some ⟨w.heap.size, 0, none⟩)] encStr (fun ss => ss.Perm (strKeys (setW Unit L))) (Maps.size (setW Unit L)) (w.alloc (.cells #[.map (some b)] 32)) :=
    AnyZ.keys_gives (ρ := Try.keys17_ren) { Try.keys17 with } Fence.wide _ trivial rfl (by omega) w.heap.size b nn (setW Unit L) _ (by simp) (by simp) (by
      obtain ⟨es, clock, hb, Ft, hs, hD⟩ := hown
      exact ⟨es, clock, (Below.heap_alloc _ _ b hbl).trans hb, Ft, hs, hD⟩)
  have h := AnyZ.collect_in Try.collect16 Fence.wide 5 trivial trivial rfl (by omega) 26 #[.pointer (some ⟨w.heap.size, 0, none⟩)] trivial (enters_of Try.func26 (by kernel_rfl) rfl) _ _ (by unfold maxLen; omega) (by omega) _ hseq
  refine (callsIn_wide.1 h).mono ?_
  rintro e w' ⟨v, ss, rfl, hS, hrow, hnil, hB⟩
  have e1 : (w.alloc (.cells #[.map (some b)] 32)).heap.size = w.heap.size + 1 := by simp
  rw [e1] at hrow hB
  exact ⟨v, ss, rfl, hS, hrow, hB⟩

set_option maxRecDepth 100000 in
set_option maxHeartbeats 4000000 in
/-- slices.SortedFunc(maps.Keys(m), Compare), the map not empty -/
theorem sortedFunc_keys (b nn : Nat) (L m : List ByteArray) (w : World) (hown : w.ownsMap Try.prog 9 (plainElem (H := Unit) Try.prog 4) b nn (setW Unit L)) (hmax : Maps.size (setW Unit L) ≤ 1000000)
    (hm : m.Pairwise ltW) (hmem : ∀ x, x ∈ m ↔ x ∈ L) (hsz : ∀ x, x ∈ m → x.size ≤ maxLen) (hne : m ≠ []) (hml : m.length ≤ 1000000) :
    Calls Try.prog 18 #[.func (.func 26) #[] #[.pointer (some ⟨w.heap.size, 0, none⟩)], .func (.func 15) #[] #[]] (w.alloc (.cells #[.map (some b)] 32)) (GivesS w m) := by
  have HC := Lib.hid (collect_keys b nn L w hown hmax)
  have eg : ∀ args w, (callFunc 15 args).run Try.prog w = .ok (.enter 15 args) w := enters_of Try.func15 (by kernel_rfl) rfl
  have EG := Lib.hid eg
  have HM := Lib.hid hm
  have HMEM := Lib.hid hmem
  have HSZ := Lib.hid hsz
  have HNE := Lib.hid hne
  have HBA := Lib.hid ((Below.refl w.heap.size w).alloc (Nat.le_refl _) (.cells #[.map (some b)] 32))
  clear hown hmax hm hmem hsz hne eg
  go_enter Try.func18, Try.ntmps18
  go_wp2_with fail
  refine HC.out.mono ?_
  rintro e w' ⟨v, ss, rfl, hS, hrow, hB⟩
  have hpm := words_perm HM.out HMEM.out hS
  have hl : ss.length = m.length := by rw [← words_length, hpm.length_eq]
  rcases hrow.2 with ⟨_, h0⟩ | ⟨g, cap, cur, rfl, hbase, hb, h1, h2, h3, h4⟩
  · exact absurd (List.length_eq_zero_iff.1 (hl ▸ h0)) HNE.out
  have hg : g < w'.heap.size := (Array.getElem?_eq_some_iff.1 hb).1
  obtain ⟨d, hd⟩ : ∃ d : Array WordT, d = ((wordsOf ss).map toT).toArray := ⟨_, rfl⟩
  have hds : d.size = ss.length := by rw [hd]; simp [words_length]
  have hws : ∀ x, x ∈ wordsOf ss → x.size ≤ maxLen := fun x hx => HSZ.out x (hpm.mem_iff.1 hx)
  have hH : Holds encT w' g 0 d := by
    have h0 := holds_of_block hb (by simpa using h4)
    intro j hj
    rw [hds] at hj
    have := h0 j (by simpa using hj)
    refine ⟨?_, this.2⟩
    rw [this.1]
    have e1 : d[j]! = toT ⟨ss[j].toArray⟩ := by simp [hd, wordsOf, hj]
    have e2 : (⟨ss[j].toArray⟩ : ByteArray) ∈ wordsOf ss := List.mem_map.2 ⟨ss[j], List.getElem_mem hj, rfl⟩
    rw [e1, encT, toT_val (hws _ e2)]
    simp [hj, encStr]
  have hlen : ss.length < 4611686018427387904 := by omega
  have hsort := Any.slices_SortFunc_total Try.sortF27 encT (fun _ => rfl) cmpT swoT 15 #[] g 0 cap d w' EG.out (cmpLays g 0 d.size w').lays hH hg (by omega) totT
  rw [hds] at hsort
  have HSO := Lib.hid hsort
  obtain ⟨l', hl'⟩ : ∃ l', l' = d.toList.mergeSort fun x y => !(ltOf cmpT) y x := ⟨_, rfl⟩
  have hp' : l'.Perm ((wordsOf ss).map toT) := by rw [hl', hd]; exact List.mergeSort_perm _ _
  have hpw : l'.Pairwise fun x y => ¬ cmpW y.1 x.1 < 0 := by
    rw [hl']
    refine (List.pairwise_mergeSort ?_ ?_ _).imp fun {x y} h => ?_
    · intro x y z h1 h2
      simp only [Bool.not_eq_true'] at *
      exact swoT.ntrans _ _ _ h2 h1
    · intro x y
      cases h1 : ltOf cmpT y x
      · simp
      · cases h2 : ltOf cmpT x y
        · simp
        · have := swoT.trans _ _ _ h1 h2; rw [swoT.irrefl] at this; cases this
    · simp only [Bool.not_eq_true'] at h
      exact (ltF _ _).1 h
  have hlm : l'.map (·.1) = m := by
    refine sorted_by HM.out ?_ (List.pairwise_map.2 hpw)
    refine ((hp'.map (·.1)).trans ?_).trans hpm
    rw [List.map_map, (List.map_congr_left (f := (fun x : WordT => x.1) ∘ toT) (g := id) (fun x hx => toT_val (hws x hx))).trans (List.map_id _)]
  rw [← hl'] at hsort
  have HLM := Lib.hid hlm
  have HL := Lib.hid hl
  have HB0 := Lib.hid (show Below w.heap.size w w' from HBA.out.trans (hB.mono (by omega)))
  have HBK := Lib.hid hb
  have HCS := Lib.hid (show l'.toArray.size ≤ cur.size by
    have := congrArg List.length hlm
    rw [List.length_map] at this
    simp; omega)
  have hbw : w.heap.size ≤ g := by omega
  clear HSO hrow hb h4 hB hS hpm hws hH hp' hpw hlm hl hd hl'
  clear hds
  have HSO := Lib.hid hsort
  clear hsort
  go_wp2_with fail
  refine HSO.out.mono ?_
  rintro e w1 ⟨rfl, q, os, rfl⟩
  go_wp2_with fail
  go_ret
  refine ⟨some ⟨g, 0, none⟩, cap, by rw [← HL.out]; rfl, .inr ⟨g, 0, rfl, ?_, by rw [← HL.out]; exact h1, h2, fun i x hi => ?_⟩, ?_⟩
  · exact Nat.lt_of_lt_of_le hg (grownBy_sortedT (n := q) (os := os) l'.toArray).size
  · rw [← HLM.out, List.getElem?_map, Option.map_eq_some_iff] at hi
    obtain ⟨y, hy, rfl⟩ := hi
    exact cell_sortedT l'.toArray HBK.out HCS.out (by simpa using hy)
  · exact HB0.out.grown (grownBy_sortedT l'.toArray) HB0.out.size (fun k hk => by cases hk; exact hbw)
end Go.Proofs.Ytbmbgdfnhbkelab
