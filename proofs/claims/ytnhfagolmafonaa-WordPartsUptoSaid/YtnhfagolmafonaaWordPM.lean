/- Plain facts on periods and primitive roots: no Go, no program. -/
import Derived.Test.YtnhfagolmafonaaWordTM
namespace Go.Proofs.Ytnhfagolmafonaa.WordM
open Go Go.RowKit

/-- d is a period of the first n bytes -/
def per (f : Nat → UInt8) (n d : Nat) : Prop := 1 ≤ d ∧ ∀ t, t + d < n → f t = f (t + d)
theorem per_all (f : Nat → UInt8) {n : Nat} (h : 1 ≤ n) : per f n n := ⟨h, fun t ht => by omega⟩
theorem per_isB {f : Nat → UInt8} {n b : Nat} (hb : b < n) : isB f n b ↔ per f n (n - b) := by
  constructor
  · rintro ⟨_, h⟩
    exact ⟨by omega, fun t ht => by rw [h t (by omega), Nat.add_comm]⟩
  · rintro ⟨_, h⟩
    exact ⟨hb, fun t ht => by rw [h t (by omega), Nat.add_comm]⟩
theorem per_mul {f : Nat → UInt8} {n d : Nat} (h : per f n d) : ∀ (k t : Nat), t + d * k < n → f t = f (t + d * k)
  | 0, t, _ => by simp
  | k + 1, t, ht => by
    have e : d * (k + 1) = d * k + d := Nat.mul_succ d k
    rw [e] at ht ⊢
    rw [per_mul h k t (by omega), ← Nat.add_assoc]
    exact h.2 (t + d * k) (by omega)
theorem per_mod {f : Nat → UInt8} {n d : Nat} (h : per f n d) {t : Nat} (ht : t < n) : f t = f (t % d) := by
  have e := Nat.mod_add_div t d
  have := per_mul h (t / d) (t % d) (by omega)
  rw [e] at this
  exact this.symm
theorem per_of_mod {f : Nat → UInt8} {n d : Nat} (hd : 1 ≤ d) (h : ∀ t, t < n → f t = f (t % d)) : per f n d :=
  ⟨hd, fun t ht => by rw [h t (by omega), h (t + d) ht, Nat.add_mod_right]⟩
theorem per_dvd {f : Nat → UInt8} {n d e : Nat} (h : per f n d) (he : d ∣ e) (he1 : 1 ≤ e) : per f n e := by
  obtain ⟨k, rfl⟩ := he
  exact ⟨he1, fun t ht => per_mul h k t ht⟩

/-- the theorem of Fine and Wilf, in its weak form -/
theorem per_gcd {f : Nat → UInt8} {n : Nat} : ∀ (m p q : Nat), p + q = m → per f n p → per f n q → p + q ≤ n → per f n (Nat.gcd p q) := by
  intro m
  induction m using Nat.strongRecOn with
  | _ m ih =>
    intro p q hm hp hq hn
    by_cases e : p = q
    · subst e; rw [Nat.gcd_self]; exact hp
    · by_cases l : p < q
      · have h2 : per f n (q - p) := by
          refine ⟨by omega, fun t ht => ?_⟩
          by_cases c : p ≤ t
          · have a1 := hp.2 (t - p) (by omega)
            have a2 := hq.2 (t - p) (by omega)
            rw [show t - p + p = t by omega] at a1
            rw [show t - p + q = t + (q - p) by omega] at a2
            rw [← a1, a2]
          · have a1 := hq.2 t (by omega)
            have a2 := hp.2 (t + (q - p)) (by omega)
            rw [show t + (q - p) + p = t + q by omega] at a2
            rw [a1, a2]
        have h3 := ih (p + (q - p)) (by have := hp.1; omega) p (q - p) rfl hp h2 (by omega)
        have h4 : Nat.gcd p (q - p) = Nat.gcd p q := by
          conv => rhs; rw [show q = (q - p) + p by omega]
          simp
        rwa [h4] at h3
      · have h2 : per f n (p - q) := by
          refine ⟨by omega, fun t ht => ?_⟩
          by_cases c : q ≤ t
          · have a1 := hq.2 (t - q) (by omega)
            have a2 := hp.2 (t - q) (by omega)
            rw [show t - q + q = t by omega] at a1
            rw [show t - q + p = t + (p - q) by omega] at a2
            rw [← a1, a2]
          · have a1 := hp.2 t (by omega)
            have a2 := hq.2 (t + (p - q)) (by omega)
            rw [show t + (p - q) + q = t + p by omega] at a2
            rw [a1, a2]
        have h3 := ih (p - q + q) (by have := hq.1; omega) (p - q) q rfl h2 hq (by omega)
        have h4 : Nat.gcd (p - q) q = Nat.gcd p q := by
          conv => rhs; rw [show p = (p - q) + q by omega]
          simp
        rwa [h4] at h3

/-- the least period -/
def lper (f : Nat → UInt8) (n : Nat) : Nat := n - bMax f n
theorem lper_is (f : Nat → UInt8) {n : Nat} (hn : 0 < n) : per f n (lper f n) ∧ lper f n ≤ n := by
  have h := bMax_is f hn
  exact ⟨(per_isB h.1).1 h, Nat.sub_le _ _⟩
theorem lper_le {f : Nat → UInt8} {n d : Nat} (hn : 0 < n) (h : per f n d) : lper f n ≤ d := by
  by_cases c : d ≤ n
  · have h2 : isB f n (n - d) := (per_isB (by have := h.1; omega)).2 (by rwa [show n - (n - d) = d by omega])
    have := bMax_le f h2
    simp only [lper]; omega
  · have := (lper_is f hn).2; omega

/-- the length of the primitive root of the first n bytes -/
def rlen (f : Nat → UInt8) (n : Nat) : Nat := if n % lper f n = 0 then lper f n else n
theorem rlen_is (f : Nat → UInt8) {n : Nat} (hn : 0 < n) : per f n (rlen f n) ∧ rlen f n ∣ n := by
  obtain ⟨h1, h2⟩ := lper_is f hn
  by_cases c : n % lper f n = 0
  · simp only [rlen, if_pos c]; exact ⟨h1, Nat.dvd_of_mod_eq_zero c⟩
  · simp only [rlen, if_neg c]; exact ⟨per_all f hn, Nat.dvd_refl _⟩
theorem rlen_pos (f : Nat → UInt8) {n : Nat} (hn : 0 < n) : 0 < rlen f n := (rlen_is f hn).1.1
theorem rlen_le_n (f : Nat → UInt8) {n : Nat} (hn : 0 < n) : rlen f n ≤ n := Nat.le_of_dvd hn (rlen_is f hn).2
theorem half_of_dvd {d n : Nat} (h : d ∣ n) (hn : 0 < n) (hne : d ≠ n) : 2 * d ≤ n := by
  obtain ⟨k, rfl⟩ := h
  have hk : 2 ≤ k := by
    rcases Nat.lt_or_ge k 2 with h | h
    · have : k = 0 ∨ k = 1 := by omega
      rcases this with rfl | rfl <;> simp at hn hne
    · exact h
  have := Nat.mul_le_mul_left d hk
  omega
theorem rlen_dvd {f : Nat → UInt8} {n d : Nat} (hn : 0 < n) (h : per f n d) (hd : d ∣ n) : rlen f n ∣ d := by
  by_cases e : d = n
  · subst e; exact (rlen_is f hn).2
  · have h2 := half_of_dvd hd hn e
    obtain ⟨p1, p2⟩ := lper_is f hn
    have hle := lper_le hn h
    have hg := per_gcd _ (lper f n) d rfl p1 h (by omega)
    have hg2 := lper_le hn hg
    have hg3 : Nat.gcd (lper f n) d ∣ lper f n := Nat.gcd_dvd_left _ _
    have hg4 := Nat.le_of_dvd p1.1 hg3
    have hg5 : Nat.gcd (lper f n) d = lper f n := by omega
    have hpd : lper f n ∣ d := by rw [← hg5]; exact Nat.gcd_dvd_right _ _
    have hpn : n % lper f n = 0 := Nat.mod_eq_zero_of_dvd (Nat.dvd_trans hpd hd)
    simp only [rlen, if_pos hpn]
    exact hpd
theorem rlen_eq {f : Nat → UInt8} {n d : Nat} (hn : 0 < n) (h : per f n d) (hd : d ∣ n) (hmin : ∀ e, per f n e → e ∣ n → d ≤ e) : rlen f n = d :=
  Nat.le_antisymm (Nat.le_of_dvd h.1 (rlen_dvd hn h hd)) (hmin _ (rlen_is f hn).1 (rlen_is f hn).2)
theorem per_congr {f g : Nat → UInt8} {n d : Nat} (hfg : ∀ t, t < n → f t = g t) (h : per f n d) : per g n d :=
  ⟨h.1, fun t ht => by rw [← hfg t (by omega), ← hfg (t + d) ht]; exact h.2 t ht⟩
theorem rlen_congr {f g : Nat → UInt8} {n : Nat} (hn : 0 < n) (hfg : ∀ t, t < n → f t = g t) : rlen f n = rlen g n :=
  Nat.dvd_antisymm (rlen_dvd hn (per_congr (fun t ht => (hfg t ht).symm) (rlen_is g hn).1) (rlen_is g hn).2)
    (rlen_dvd hn (per_congr hfg (rlen_is f hn).1) (rlen_is f hn).2)
/-- a period of a beginning whose length is a period is one of the whole -/
theorem per_lift {f : Nat → UInt8} {n m d : Nat} (hm : per f n m) (hd : per f m d) (hdm : d ∣ m) : per f n d := by
  refine per_of_mod hd.1 fun t ht => ?_
  have hlt : t % m < m := Nat.mod_lt _ hm.1
  rw [per_mod hm ht, per_mod hd hlt, Nat.mod_mod_of_dvd t hdm]
theorem per_cut {f : Nat → UInt8} {n m d : Nat} (hd : per f n d) (hm : m ≤ n) : per f m d := ⟨hd.1, fun t ht => hd.2 t (by omega)⟩
/-- the root of the root is the root -/
theorem rlen_rlen {f : Nat → UInt8} {n : Nat} (hn : 0 < n) : rlen f (rlen f n) = rlen f n := by
  obtain ⟨h1, h2⟩ := rlen_is f hn
  have hp := rlen_pos f hn
  obtain ⟨k1, k2⟩ := rlen_is f hp
  exact Nat.dvd_antisymm k2 (rlen_dvd hn (per_lift h1 k1 k2) (Nat.dvd_trans k2 h2))
/-- the root of a power is the root -/
theorem rlen_power {f g : Nat → UInt8} {m n : Nat} (hm : 0 < m) (hn : 0 < n) (hmn : m ∣ n) (hfg : ∀ t, t < n → g t = f (t % m)) : rlen g n = rlen f m := by
  have hgf : ∀ t, t < m → g t = f t := fun t ht => by rw [hfg t (Nat.lt_of_lt_of_le ht (Nat.le_of_dvd hn hmn)), Nat.mod_eq_of_lt ht]
  have hgm : per g n m := per_of_mod hm fun t ht => by
    rw [hfg t ht, hfg (t % m) (Nat.lt_of_le_of_lt (Nat.mod_le _ _) ht), Nat.mod_mod]
  obtain ⟨a1, a2⟩ := rlen_is f hm
  obtain ⟨b1, b2⟩ := rlen_is g hn
  have hD : rlen g n ∣ m := rlen_dvd hn hgm hmn
  refine Nat.dvd_antisymm ?_ ?_
  · exact rlen_dvd hn (per_lift hgm (per_congr (fun t ht => (hgf t ht).symm) a1) a2) (Nat.dvd_trans a2 hmn)
  · exact rlen_dvd hm (per_congr hgf (per_cut b1 (Nat.le_of_dvd hn hmn))) hD
end Go.Proofs.Ytnhfagolmafonaa.WordM
