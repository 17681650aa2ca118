/- The finite search over pairs of primes. No program is named here. -/
import Derived.Test.YtcglffigbdglpaaDoorPairs
namespace Go.Proofs.YtcglffigbdglpaaDoor
open Dia

def leafP (l : List Nat) : Bool := l.all fun p => l.all fun q => cond (Nat.blt p q) (pairOk p q) true
noncomputable def split (bs : List Nat) : List Nat → Bool := List.rec (motive := fun _ => List Nat → Bool) (fun l => leafP l) (fun b _ ih l => parts b l fun t f => Bool.rec false (ih f) (ih t)) bs
theorem split_ok (p q : Nat) (hpq : p < q) : ∀ (bs l : List Nat), split bs l = true → p ∈ l → q ∈ l → (∀ b ∈ bs, bit b p = bit b q) → pairOk p q = true := by
  intro bs
  induction bs with
  | nil =>
    intro l h hp hq _
    have h1 := List.all_eq_true.1 (List.all_eq_true.1 (show leafP l = true from h) p hp) q hq
    have h2 : Nat.blt p q = true := by simp [Nat.blt]; omega
    rw [h2] at h1
    exact h1
  | cons b bs ih =>
    intro l h hp hq hb
    obtain ⟨t, f, h1, h2⟩ := parts_ok (show parts b l (fun t f => Bool.rec false (split bs f) (split bs t)) = true from h)
    have hbb := hb b (by simp)
    have h3 : split bs t = true ∧ split bs f = true := by
      cases ht : split bs t with
      | true =>
        refine ⟨rfl, ?_⟩
        rw [ht] at h1; exact h1
      | false => rw [ht] at h1; cases h1
    cases hp1 : bit b p with
    | true => exact ih t h3.1 ((h2 p hp).1 hp1) ((h2 q hq).1 (hbb ▸ hp1)) fun c hc => hb c (by simp [hc])
    | false => exact ih f h3.2 ((h2 p hp).2 hp1) ((h2 q hq).2 (hbb ▸ hp1)) fun c hc => hb c (by simp [hc])

set_option maxRecDepth 100000 in
theorem prs0 : split bN (coll 11 6 (coll 8 2054 [])) = true := by decide +kernel
set_option maxRecDepth 100000 in
theorem prs1 : split bN (coll 10 6 (coll 10 2310 [])) = true := by decide +kernel
set_option maxRecDepth 100000 in
theorem prs2 : split bN (coll 9 6 (coll 10 3334 [])) = true := by decide +kernel
set_option maxRecDepth 100000 in
theorem prs3 : split bN (coll 9 6 (coll 11 4358 [])) = true := by decide +kernel
set_option maxRecDepth 100000 in
theorem prs4 : split bN (coll 7 6 (coll 11 6406 [])) = true := by decide +kernel
set_option maxRecDepth 100000 in
theorem prs5 : split bN (coll 7 6 (coll 11 8454 [])) = true := by decide +kernel
set_option maxRecDepth 100000 in
theorem prs6 : split bN (coll 6 6 (coll 11 10502 [])) = true := by decide +kernel
set_option maxRecDepth 100000 in
theorem prs7 : split bN (coll 5 6 (coll 11 12550 [])) = true := by decide +kernel
set_option maxRecDepth 100000 in
theorem prs8 : split bN (coll 5 6 (coll 11 14598 [])) = true := by decide +kernel
set_option maxRecDepth 100000 in
theorem prs9 : split bN (coll 4 6 (coll 11 16646 [])) = true := by decide +kernel
set_option maxRecDepth 100000 in
theorem prs10 : split bN (coll 4 6 (coll 11 18694 [])) = true := by decide +kernel
set_option maxRecDepth 100000 in
theorem prs11 : split bN (coll 3 6 (coll 11 20742 [])) = true := by decide +kernel
set_option maxRecDepth 100000 in
theorem prs12 : split bN (coll 2 6 (coll 11 22790 [])) = true := by decide +kernel
set_option maxRecDepth 100000 in
theorem prs13 : split bN (coll 2 6 (coll 11 24838 [])) = true := by decide +kernel
set_option maxRecDepth 100000 in
theorem prs14 : split bN (coll 1 6 (coll 11 26886 [])) = true := by decide +kernel

theorem pair_range {p q k lo kp : Nat} (h : split bN (coll kp 6 (coll k lo [])) = true) (hp : IsP (p : Int)) (hq : IsP (q : Int)) (p41 : 41 ≤ p) (hpq : p < q) (hb : ∀ b ∈ bN, bit b p = bit b q)
    (h1 : 6 * lo ≤ q) (h2 : q < 6 * (lo + 2 ^ k)) (hle : p * q * (q + 1) ≤ NN) (hbig : NN < 6 * (6 + 2 ^ kp) * (6 * lo) * (6 * lo)) : pairOk p q = true := by
  refine split_ok p q hpq _ _ h ?_ ?_ hb
  · by_cases c : 6 * lo ≤ p
    · exact coll_keep _ _ _ (coll_new p (cand_ok hp p41) (prime_six hp p41) k lo [] c (by omega))
    · refine coll_new p (cand_ok hp p41) (prime_six hp p41) kp 6 _ (by omega) ?_
      refine Classical.byContradiction fun hc => ?_
      have h3 : 6 * (6 + 2 ^ kp) * (6 * lo) ≤ p * q := Nat.mul_le_mul (by omega) h1
      have h4 : 6 * (6 + 2 ^ kp) * (6 * lo) * (6 * lo) ≤ p * q * (q + 1) := Nat.mul_le_mul h3 (by omega)
      omega
  · exact coll_keep _ _ _ (coll_new q (cand_ok hq (by omega)) (prime_six hq (by omega)) k lo [] h1 h2)

theorem pair_all {p q : Nat} (hp : IsP (p : Int)) (hq : IsP (q : Int)) (p41 : 41 ≤ p) (hpq : p < q) (hb : ∀ b ∈ bN, bit b p = bit b q) (hle : p * q * (q + 1) ≤ NN) : pairOk p q = true := by
  have hq2 : q < 163765 := by
    refine Classical.byContradiction fun hc => ?_
    have h1 : 41 * 163765 ≤ p * q := Nat.mul_le_mul p41 (by omega)
    have h2 : 41 * 163765 * 163766 ≤ p * q * (q + 1) := Nat.mul_le_mul h1 (by omega)
    have h3 : NN = 1099511627776 := rfl
    omega
  by_cases c0 : q < 13860
  · refine split_ok p q hpq _ _ prs0 ?_ ?_ hb
    · by_cases d : p < 12324
      · exact coll_new p (cand_ok hp p41) (prime_six hp p41) 11 6 _ (by omega) (by omega)
      · exact coll_keep _ _ _ (coll_new p (cand_ok hp p41) (prime_six hp p41) 8 2054 [] (by omega) (by omega))
    · by_cases d : q < 12324
      · exact coll_new q (cand_ok hq (by omega)) (prime_six hq (by omega)) 11 6 _ (by omega) (by omega)
      · exact coll_keep _ _ _ (coll_new q (cand_ok hq (by omega)) (prime_six hq (by omega)) 8 2054 [] (by omega) (by omega))
  by_cases c1 : q < 20004
  · exact pair_range prs1 hp hq p41 hpq hb (by omega) (by omega) hle (by decide)
  by_cases c2 : q < 26148
  · exact pair_range prs2 hp hq p41 hpq hb (by omega) (by omega) hle (by decide)
  by_cases c3 : q < 38436
  · exact pair_range prs3 hp hq p41 hpq hb (by omega) (by omega) hle (by decide)
  by_cases c4 : q < 50724
  · exact pair_range prs4 hp hq p41 hpq hb (by omega) (by omega) hle (by decide)
  by_cases c5 : q < 63012
  · exact pair_range prs5 hp hq p41 hpq hb (by omega) (by omega) hle (by decide)
  by_cases c6 : q < 75300
  · exact pair_range prs6 hp hq p41 hpq hb (by omega) (by omega) hle (by decide)
  by_cases c7 : q < 87588
  · exact pair_range prs7 hp hq p41 hpq hb (by omega) (by omega) hle (by decide)
  by_cases c8 : q < 99876
  · exact pair_range prs8 hp hq p41 hpq hb (by omega) (by omega) hle (by decide)
  by_cases c9 : q < 112164
  · exact pair_range prs9 hp hq p41 hpq hb (by omega) (by omega) hle (by decide)
  by_cases c10 : q < 124452
  · exact pair_range prs10 hp hq p41 hpq hb (by omega) (by omega) hle (by decide)
  by_cases c11 : q < 136740
  · exact pair_range prs11 hp hq p41 hpq hb (by omega) (by omega) hle (by decide)
  by_cases c12 : q < 149028
  · exact pair_range prs12 hp hq p41 hpq hb (by omega) (by omega) hle (by decide)
  by_cases c13 : q < 161316
  · exact pair_range prs13 hp hq p41 hpq hb (by omega) (by omega) hle (by decide)
  · exact pair_range prs14 hp hq p41 hpq hb (by omega) (by omega) hle (by decide)
end Go.Proofs.YtcglffigbdglpaaDoor
