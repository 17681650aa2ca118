/- Layer 2 in plain numbers: the strong test by twelve bases; no program is named here. -/
import Derived.Test.YtcglffigbdglpaaDoorNum
namespace Go.Proofs.YtcglffigbdglpaaDoor
open Dia

theorem odd_unique : ∀ (s t d e : Nat), 2 ^ s * d = 2 ^ t * e → d % 2 = 1 → e % 2 = 1 → s = t ∧ d = e
  | 0, 0, d, e, h, _, _ => ⟨rfl, by simpa using h⟩
  | 0, t + 1, d, e, h, hd, _ => by
    rw [Nat.pow_zero, Nat.one_mul, Nat.pow_succ, Nat.mul_comm (2 ^ t) 2, Nat.mul_assoc] at h; omega
  | s + 1, 0, d, e, h, _, he => by
    rw [Nat.pow_zero, Nat.one_mul, Nat.pow_succ, Nat.mul_comm (2 ^ s) 2, Nat.mul_assoc] at h; omega
  | s + 1, t + 1, d, e, h, hd, he => by
    rw [Nat.pow_succ, Nat.pow_succ, Nat.mul_comm (2 ^ s) 2, Nat.mul_comm (2 ^ t) 2, Nat.mul_assoc, Nat.mul_assoc] at h
    obtain ⟨h1, h2⟩ := odd_unique s t d e (by omega) hd he
    exact ⟨by omega, h2⟩

def Strong (n b : Int) : Prop := ∃ s d : Nat, (n - 1).toNat = 2 ^ s * d ∧ d % 2 = 1 ∧ ((b ^ d) % n = 1 ∨ ∃ r, r < s ∧ (b ^ (2 ^ r * d)) % n = n - 1)
theorem Strong.no {n b : Int} {s d : Nat} (h : (n - 1).toNat = 2 ^ s * d) (hd : d % 2 = 1) (h1 : (b ^ d) % n ≠ 1) (h2 : ∀ r, r < s → (b ^ (2 ^ r * d)) % n ≠ n - 1) : ¬ Strong n b := by
  rintro ⟨t, e, k, ke, hk⟩
  obtain ⟨rfl, rfl⟩ := odd_unique s t d e (h.symm.trans k) hd ke
  rcases hk with hk | ⟨r, hr, hk⟩
  · exact h1 hk
  · exact h2 r hr hk
noncomputable def strongB (n b : Int) : Bool := @decide (Strong n b) (Classical.propDecidable _)
theorem strongB_yes {n b : Int} (h : Strong n b) : strongB n b = true := by unfold strongB; exact @decide_eq_true _ (Classical.propDecidable _) h
theorem strongB_no {n b : Int} (h : ¬ Strong n b) : strongB n b = false := by unfold strongB; exact @decide_eq_false _ (Classical.propDecidable _) h

/-- the halving of n - 1 -/
structure OddInv (n : Int) (s d : Nat) : Prop where
  eq : (n - 1).toNat = 2 ^ s * d
  pos : 1 ≤ d
theorem OddInv.start {n : Int} (h : 3 ≤ n) : OddInv n 0 (n - 1).toNat := ⟨by simp, by omega⟩
theorem OddInv.le {n : Int} {s d : Nat} (h : OddInv n s d) : (d : Int) ≤ n - 1 := by
  have h1 := h.eq
  have h2 : 1 * d ≤ 2 ^ s * d := Nat.mul_le_mul_right _ (Nat.one_le_two_pow)
  have := h.pos
  omega
theorem OddInv.half {n : Int} {s d : Nat} (h : OddInv n s d) (hd : d % 2 = 0) : OddInv n (s + 1) (d / 2) := by
  have := h.pos
  refine ⟨?_, by omega⟩
  rw [h.eq, Nat.pow_succ, Nat.mul_assoc]
  congr 1; omega

/-- the squaring -/
structure SqInv (n b : Int) (s d r : Nat) (E x : Int) : Prop where
  r_le : r ≤ s
  hE : E = ((2 ^ r * d : Nat) : Int)
  hx : x = (b ^ (2 ^ r * d)) % n
  no : ∀ t, t < r → (b ^ (2 ^ t * d)) % n ≠ n - 1
  e1 : 1 ≤ E
theorem SqInv.start {n b : Int} {s d : Nat} (h : OddInv n s d) : SqInv n b s d 0 (d : Int) ((b ^ d) % n) := by
  have := h.pos
  exact ⟨by omega, by simp, by simp, fun t ht => by omega, by omega⟩
theorem SqInv.lt {n b : Int} {s d r : Nat} {E x : Int} (h : SqInv n b s d r E x) (k : OddInv n s d) (hr : r < s) : E * 2 ≤ n - 1 := by
  have h1 := k.eq
  have h2 : 2 ^ (r + 1) * d ≤ 2 ^ s * d := Nat.mul_le_mul_right _ (Nat.pow_le_pow_right (by decide) hr)
  rw [Nat.pow_succ, Nat.mul_comm (2 ^ r) 2, Nat.mul_assoc] at h2
  have := h.hE
  have := h.e1
  omega
theorem SqInv.last {n b : Int} {s d r : Nat} {E x : Int} (h : SqInv n b s d r E x) (k : OddInv n s d) (hr : ¬ r < s) : E = n - 1 := by
  have h1 := k.eq
  have h2 := h.hE
  have h3 := h.r_le
  have : r = s := by omega
  subst this
  have := h.e1
  omega
theorem SqInv.next {n b : Int} {s d r : Nat} {E x : Int} (h : SqInv n b s d r E x) (hr : r < s) (hx : x ≠ n - 1) : SqInv n b s d (r + 1) (E * 2) ((x * x) % n) := by
  have e : 2 ^ (r + 1) * d = 2 ^ r * d + 2 ^ r * d := by rw [Nat.pow_succ, Nat.mul_comm (2 ^ r) 2, Nat.mul_assoc, Nat.two_mul]
  refine ⟨by omega, ?_, ?_, ?_, ?_⟩
  · rw [e, h.hE]; omega
  · rw [e, Int.pow_add, h.hx, ← Int.mul_emod]
  · intro t ht
    by_cases c : t = r
    · subst c; rw [← h.hx]; exact hx
    · exact h.no t (by omega)
  · have := h.e1; omega
theorem SqInv.yes {n b : Int} {s d r : Nat} {E x : Int} (h : SqInv n b s d r E x) (k : OddInv n s d) (hd : d % 2 = 1) (hr : r < s) (hx : x = n - 1) : strongB n b = true :=
  strongB_yes ⟨s, d, k.eq, hd, Or.inr ⟨r, hr, by rw [← h.hx]; exact hx⟩⟩
theorem OddInv.yes {n b : Int} {s d : Nat} (k : OddInv n s d) (hd : d % 2 = 1) (hx : (b ^ d) % n = 1) : strongB n b = true :=
  strongB_yes ⟨s, d, k.eq, hd, Or.inl hx⟩
theorem SqInv.none {n b : Int} {s d r : Nat} {E x : Int} (h : SqInv n b s d r E x) (k : OddInv n s d) (hd : d % 2 = 1) (hr : ¬ r < s) (h1 : (b ^ d) % n ≠ 1) : strongB n b = false := by
  have : r = s := by have := h.r_le; omega
  subst this
  exact strongB_no (Strong.no k.eq hd h1 h.no)

def basesL : List Int := [2, 3, 5, 7, 11, 13, 17, 19, 23, 29, 31, 37]
def IsByBases (n : Int) : Prop := 2 ≤ n ∧ n ≤ 4611686018427387904 ∧ ((∃ b ∈ basesL, n = b) ∨ ((∀ b ∈ basesL, n % b ≠ 0) ∧ ∀ b ∈ basesL, Strong n b))
noncomputable def isB (n : Int) : Bool := @decide (IsByBases n) (Classical.propDecidable _)
theorem isB_iff {n : Int} : isB n = true ↔ IsByBases n := by unfold isB; exact @decide_eq_true_iff _ (Classical.propDecidable _)
theorem isB_of {n : Int} (h : IsByBases n) : isB n = true := isB_iff.2 h
theorem isB_not {n : Int} (h : ¬ IsByBases n) : isB n = false := by
  cases e : isB n
  · rfl
  · exact absurd (isB_iff.1 e) h
theorem isB_out {n : Int} (h : n < 2 ∨ 4611686018427387904 < n) : isB n = false := isB_not fun k => by have := k.1; have := k.2.1; omega
theorem isB_div {n b : Int} (h1 : 2 ≤ n) (h2 : n ≤ 4611686018427387904) (hb : b ∈ basesL) (hd : n % b = 0) : isB n = (n == b) := by
  by_cases e : n = b
  · rw [isB_of ⟨h1, h2, Or.inl ⟨b, hb, e⟩⟩]; simp [e]
  · rw [isB_not]
    · simp [e]
    · rintro ⟨_, _, ⟨c, hc, rfl⟩ | ⟨h, _⟩⟩
      · have : ∀ x ∈ basesL, ∀ y ∈ basesL, x % y = 0 → x = y := by decide
        exact e (this _ hc _ hb hd)
      · exact h b hb hd
theorem isB_strong {n : Int} (h1 : 2 ≤ n) (h2 : n ≤ 4611686018427387904) (hd : ∀ b ∈ basesL, n % b ≠ 0) (hs : ∀ b ∈ basesL, strongB n b = true) : isB n = true :=
  isB_of ⟨h1, h2, Or.inr ⟨hd, fun b hb => by
    refine Classical.byContradiction fun hc => ?_
    have := strongB_no hc
    rw [hs b hb] at this
    exact absurd this (by decide)⟩⟩
theorem isB_weak {n b : Int} (hd : ∀ b ∈ basesL, n % b ≠ 0) (hb : b ∈ basesL) (hs : strongB n b = false) : isB n = false := by
  refine isB_not ?_
  rintro ⟨_, _, ⟨c, hc, rfl⟩ | ⟨_, h⟩⟩
  · exact hd n hc (by simp)
  · have := strongB_yes (h b hb)
    rw [hs] at this
    exact absurd this (by decide)

/-- a number that no base divides is above the bases and odd -/
theorem three_of {n : Int} (h1 : 2 ≤ n) (hd : n % 2 ≠ 0) : 3 ≤ n := by omega

theorem bases_le {b : Int} (h : b ∈ basesL) : 2 ≤ b ∧ b ≤ 37 := by
  have : ∀ x ∈ basesL, 2 ≤ x ∧ x ≤ 37 := by decide
  exact this b h
/-- every prime passes -/
theorem IsP.isB {n : Int} (hp : IsP n) (h2 : n ≤ 4611686018427387904) : isB n = true := by
  by_cases hx : ∃ b ∈ basesL, n % b = 0
  · obtain ⟨b, hb, hd⟩ := hx
    rw [isB_div hp.1 h2 hb hd]
    have hb2 := bases_le hb
    by_cases e : b < n
    · exact absurd hd (hp.2 b hb2.1 e)
    · have := Int.le_of_dvd (by have := hp.1; omega) (Int.dvd_of_emod_eq_zero hd)
      have : n = b := by omega
      simp [this]
  · have hd : ∀ b ∈ basesL, n % b ≠ 0 := fun b hb hc => hx ⟨b, hb, hc⟩
    refine isB_of ⟨hp.1, h2, Or.inr ⟨hd, fun b hb => ?_⟩⟩
    have hnd : ¬ n ∣ b := by
      intro hc
      have hb2 := bases_le hb
      have hle := Int.le_of_dvd (by omega) hc
      have : ∀ x ∈ basesL, ∀ m : Nat, m ≤ 37 → 2 ≤ m → x % (m : Int) = 0 → (m : Int) = x := by decide
      have h3 := this b hb n.toNat (by omega) (by have := hp.1; omega) (by rw [Int.toNat_of_nonneg (by have := hp.1; omega)]; exact Int.emod_eq_zero_of_dvd hc)
      rw [Int.toNat_of_nonneg (by have := hp.1; omega)] at h3
      exact hd b hb (by rw [h3]; simp)
    obtain ⟨s, d, k, hodd⟩ : ∃ s d : Nat, (n - 1).toNat = 2 ^ s * d ∧ d % 2 = 1 := by
      have hpos : 1 ≤ (n - 1).toNat := by have := hp.1; omega
      generalize (n - 1).toNat = m at hpos
      induction m using Nat.strongRecOn with
      | _ m ih =>
        by_cases hm : m % 2 = 1
        · exact ⟨0, m, by simp, hm⟩
        · obtain ⟨s, d, k, hodd⟩ := ih (m / 2) (by omega) (by omega)
          exact ⟨s + 1, d, by rw [Nat.pow_succ, Nat.mul_comm (2 ^ s) 2, Nat.mul_assoc]; omega, hodd⟩
    exact ⟨s, d, k, hodd, hp.strong hnd k⟩
end Go.Proofs.YtcglffigbdglpaaDoor
