/- Layer 2 in plain numbers: factors by least divisors, where what passes the test is taken for a prime; no program is named here. -/
import Derived.Test.YtcglffigbdglpaaDoorSpec2
namespace Go.Proofs.YtcglffigbdglpaaDoor
open Dia

/-- what the search for the least divisor gives -/
structure LeastOf (m d L : Int) : Prop where
  d_le : d ≤ L
  le : L ≤ m
  two : 2 ≤ L
  dvd : m % L = 0
  isb : isB L = true
  par : L = 2 ∨ L % 2 = 1
  or : L = m ∨ ∀ c, 2 ≤ c → c < L → m % c ≠ 0

/-- the search -/
structure LeastInv (m d0 d : Int) : Prop where
  two : 2 ≤ d
  d0_le : d0 ≤ d
  le : d ≤ m
  par : d = 2 ∨ d % 2 = 1
  no : ∀ c, 2 ≤ c → c < d → m % c ≠ 0
theorem LeastInv.start {m d : Int} (hm : 2 ≤ m) (hd : 2 ≤ d) (hp : d = 2 ∨ d % 2 = 1) (no : ∀ c, 2 ≤ c → c < d → m % c ≠ 0) : LeastInv m d d := by
  refine ⟨hd, by omega, ?_, hp, no⟩
  refine Classical.byContradiction fun hc => no m hm (by omega) (by simp)
theorem LeastInv.prime {m d : Int} (hm : 2 ≤ m) (h2 : m ≤ 4611686018427387904) (h : LeastInv m d d) (hb : isB m = true) : LeastOf m d m := by
  refine ⟨h.le, by omega, hm, by simp, hb, ?_, Or.inl rfl⟩
  by_cases e : m % 2 = 0
  · rw [isB_div hm h2 (b := 2) (by decide) e] at hb
    exact Or.inl (by simpa using hb)
  · right; omega
theorem LeastInv.found {m d0 d : Int} (h2 : m ≤ 4611686018427387904) (h : LeastInv m d0 d) (hd : m % d = 0) : LeastOf m d0 d := by
  refine ⟨h.d0_le, h.le, h.two, hd, ?_, h.par, Or.inr h.no⟩
  refine IsP.isB ⟨h.two, fun c c2 cd hc => ?_⟩ (by have := h.le; omega)
  exact h.no c c2 cd (Int.emod_eq_zero_of_dvd (Int.dvd_trans (Int.dvd_of_emod_eq_zero hc) (Int.dvd_of_emod_eq_zero hd)))
theorem LeastInv.lt {m d0 d : Int} (h : LeastInv m d0 d) (hd : m % d ≠ 0) : d < m := by
  have := h.le
  refine Classical.byContradiction fun hc => hd ?_
  have : d = m := by omega
  simp [this]
theorem LeastInv.two_next {m d0 : Int} (h : LeastInv m d0 2) (hd : m % 2 ≠ 0) : LeastInv m d0 3 := by
  have h1 := h.lt hd
  refine ⟨by omega, by have := h.d0_le; omega, by omega, Or.inr (by decide), fun c c2 c3 => ?_⟩
  have : c = 2 := by omega
  subst this; exact hd
theorem LeastInv.next {m d0 d : Int} (h : LeastInv m d0 d) (hd : m % d ≠ 0) (h2 : 2 < d) : LeastInv m d0 (d + 1 + 1) := by
  have h1 := h.lt hd
  have hodd : d % 2 = 1 := by have := h.par; omega
  have hm2 : m % 2 ≠ 0 := h.no 2 (by omega) h2
  have h4 : m % (d + 1) ≠ 0 := by
    intro hc
    obtain ⟨k, hk⟩ := Int.dvd_of_emod_eq_zero hc
    obtain ⟨j, hj⟩ : ∃ j, d + 1 = 2 * j := ⟨(d + 1) / 2, by omega⟩
    rw [hj, Int.mul_assoc] at hk
    omega
  refine ⟨by omega, by have := h.d0_le; omega, ?_, Or.inr (by omega), fun c c2 c3 => ?_⟩
  · refine Classical.byContradiction fun hc => ?_
    have : m = d + 1 := by omega
    exact h4 (by simp [← this])
  · by_cases e : c = d
    · subst e; exact hd
    · by_cases e : c = d + 1
      · subst e; exact h4
      · exact h.no c c2 (by omega)

/-- factors as the test has them -/
structure IsFacB (n : Int) (l : List (Int × Nat)) : Prop where
  isb : ∀ x ∈ l, isB x.1 = true
  pos : ∀ x ∈ l, 1 ≤ x.2
  up : l.Pairwise fun x y => x.1 < y.1
  eq : fprod l = n
theorem isB_two {n : Int} (h : isB n = true) : 2 ≤ n := (isB_iff.1 h).1
theorem fprod_pos2 : ∀ l : List (Int × Nat), (∀ x ∈ l, 2 ≤ x.1) → 1 ≤ fprod l
  | [], _ => by simp [fprod]
  | x :: l, h => by
    have h1 := fprod_pos2 l fun y hy => h y (by simp [hy])
    have h2 := h x (by simp)
    have h3 : 1 ≤ x.1 ^ x.2 := Int.pow_pos (by omega)
    show 1 ≤ x.1 ^ x.2 * fprod l
    have : 1 * 1 ≤ x.1 ^ x.2 * fprod l := Int.mul_le_mul h3 h1 (by omega) (by omega)
    omega
/-- each factor divides, and so is no greater -/
theorem fprod_dvd : ∀ l : List (Int × Nat), (∀ x ∈ l, 1 ≤ x.2) → ∀ x ∈ l, x.1 ∣ fprod l
  | y :: l, h, x, hx => by
    rcases List.mem_cons.1 hx with rfl | hx
    · exact dvd_head (h x (by simp))
    · exact Int.dvd_trans (fprod_dvd l (fun z hz => h z (by simp [hz])) x hx) (Int.dvd_mul_left _ _)
theorem IsFacB.le {n : Int} {l : List (Int × Nat)} (h : IsFacB n l) {x : Int × Nat} (hx : x ∈ l) : x.1 ∣ n ∧ x.1 ≤ n := by
  have h1 := fprod_dvd l h.pos x hx
  have h2 := fprod_pos2 l fun y hy => isB_two (h.isb y hy)
  rw [h.eq] at h1 h2
  exact ⟨h1, Int.le_of_dvd (by omega) h1⟩
theorem IsFacB.isFac {n : Int} {l : List (Int × Nat)} (h : IsFacB n l) (hs : ∀ m, m ≤ n → isB m = true → IsP m) : IsFac n l :=
  ⟨fun x hx => hs _ (h.le hx).2 (h.isb x hx), h.pos, h.up, h.eq⟩
theorem fprod_len2 : ∀ l : List (Int × Nat), (∀ x ∈ l, 2 ≤ x.1) → (∀ x ∈ l, 1 ≤ x.2) → (2 : Int) ^ l.length ≤ fprod l
  | [], _, _ => by simp [fprod]
  | x :: l, h, k => by
    have h1 := fprod_len2 l (fun y hy => h y (by simp [hy])) fun y hy => k y (by simp [hy])
    have h2 := h x (by simp)
    have k2 := k x (by simp)
    have h3 : 2 ≤ x.1 ^ x.2 := by
      obtain ⟨e, he⟩ : ∃ e, x.2 = e + 1 := ⟨x.2 - 1, by omega⟩
      rw [he, Int.pow_succ]
      have h5 : 1 ≤ x.1 ^ e := Int.pow_pos (by omega)
      have : 1 * 2 ≤ x.1 ^ e * x.1 := Int.mul_le_mul h5 h2 (by omega) (by omega)
      omega
    show (2 : Int) ^ (l.length + 1) ≤ x.1 ^ x.2 * fprod l
    rw [Int.pow_succ, Int.mul_comm]
    exact Int.mul_le_mul h3 h1 (Int.le_of_lt (Int.pow_pos (by decide))) (by omega)
theorem IsFacB.len {n : Int} {l : List (Int × Nat)} (h : IsFacB n l) (hn : n ≤ 1099511627776) : l.length ≤ 40 :=
  len_le_40 (n := n) (by rw [← h.eq]; exact fprod_len2 l (fun x hx => isB_two (h.isb x hx)) h.pos) hn

structure FacBInv (n0 n d : Int) (l : List (Int × Nat)) : Prop where
  n1 : 1 ≤ n
  d2 : 2 ≤ d
  le : n ≤ n0
  eq : fprod l * n = n0
  isb : ∀ x ∈ l, isB x.1 = true ∧ x.1 ≤ d
  pos : ∀ x ∈ l, 1 ≤ x.2
  up : l.Pairwise fun x y => x.1 < y.1
  par : d = 2 ∨ d % 2 = 1
  no : ∀ c, 2 ≤ c → c < d → n % c ≠ 0
  last : l = [] ∨ n % d ≠ 0
theorem FacBInv.start {n : Int} (h : 1 ≤ n) : FacBInv n n 2 [] :=
  ⟨h, by omega, by omega, by simp [fprod], by simp, by simp, List.Pairwise.nil, Or.inl rfl, fun c h1 h2 => by omega, Or.inl rfl⟩
theorem FacBInv.least {n0 n d : Int} {l : List (Int × Nat)} (h : FacBInv n0 n d l) (h1 : 1 < n) : LeastInv n d d := LeastInv.start (by omega) h.d2 h.par h.no
theorem FacBInv.take {n0 n d L m : Int} {l : List (Int × Nat)} {e : Nat} (h : FacBInv n0 n d l) (hL : LeastOf n d L) (k : DivInv n L m e) (he : 1 ≤ e) (hm : m % L ≠ 0) : FacBInv n0 m L (l ++ [(L, e)]) := by
  have hmn : m ∣ n := ⟨L ^ e, k.eq.symm⟩
  have m1 := k.m1
  refine ⟨m1, hL.two, by have := k.le; have := h.le; omega, ?_, ?_, ?_, ?_, hL.par, ?_, Or.inr hm⟩
  · rw [fprod_append, Int.mul_assoc]
    have : fprod [(L, e)] * m = n := by rw [← k.eq]; simp [fprod, Int.mul_comm]
    rw [this, h.eq]
  · intro x hx
    rcases List.mem_append.1 hx with hx | hx
    · exact ⟨(h.isb x hx).1, by have := (h.isb x hx).2; have := hL.d_le; omega⟩
    · simp at hx; subst hx; exact ⟨hL.isb, by simp⟩
  · intro x hx
    rcases List.mem_append.1 hx with hx | hx
    · exact h.pos x hx
    · simp at hx; subst hx; exact he
  · refine List.pairwise_append.2 ⟨h.up, by simp, fun x hx y hy => ?_⟩
    simp at hy; subst hy
    show x.1 < L
    have h3 := (h.isb x hx).2
    have h4 := hL.d_le
    have : d ≠ L := by
      rintro rfl
      rcases h.last with h5 | h5
      · subst h5; simp at hx
      · exact h5 hL.dvd
    omega
  · intro c c2 cL hc
    rcases hL.or with h6 | h6
    · -- all of n has been taken
      have hm1 : m = 1 := by
        refine Classical.byContradiction fun hne => ?_
        have h7 : L ^ e * m = L := by rw [Int.mul_comm, k.eq, h6]
        obtain ⟨f, hf⟩ : ∃ f, e = f + 1 := ⟨e - 1, by omega⟩
        have h8 : L ≤ L ^ e := by
          rw [hf, Int.pow_succ]
          have h9 : 1 ≤ L ^ f := Int.pow_pos (by have := hL.two; omega)
          have := Int.mul_le_mul_of_nonneg_right h9 (by have := hL.two; omega : 0 ≤ L)
          omega
        have : L ^ e * 2 ≤ L ^ e * m := Int.mul_le_mul_of_nonneg_left (by omega) (by have := hL.two; omega)
        have := hL.two
        omega
      rw [hm1, Int.emod_eq_of_lt (by omega) (by omega)] at hc
      omega
    · exact h6 c c2 cL (Int.emod_eq_zero_of_dvd (Int.dvd_trans (Int.dvd_of_emod_eq_zero hc) hmn))
theorem FacBInv.done {n0 n d : Int} {l : List (Int × Nat)} (h : FacBInv n0 n d l) (h1 : ¬ 1 < n) : IsFacB n0 l := by
  have : n = 1 := by have := h.n1; omega
  subst this
  exact ⟨fun x hx => (h.isb x hx).1, h.pos, h.up, by simpa using h.eq⟩
theorem FacBInv.len {n0 n d : Int} {l : List (Int × Nat)} (h : FacBInv n0 n d l) (hn : n0 ≤ 1099511627776) : l.length ≤ 40 := by
  refine len_le_40 (n := n0) ?_ hn
  have h2 := fprod_len2 l (fun x hx => isB_two (h.isb x hx).1) h.pos
  have h3 := fprod_pos2 l fun x hx => isB_two (h.isb x hx).1
  have h4 : fprod l * 1 ≤ fprod l * n := Int.mul_le_mul_of_nonneg_left h.n1 (by omega)
  have := h.eq
  omega
end Go.Proofs.YtcglffigbdglpaaDoor
