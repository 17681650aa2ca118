/- Products of mild floats and what they lack, in words. No program is named here. -/
import Derived.Test.YtknlpggbaahajaaSplitW
namespace Flt
open Ieee

/-- a number and its two halves, in words: over the last place e, or all 0 -/
structure HalfW (x h l : Nat) (n : Int) : Prop where
  x : Num x n
  ex : (n = 0 ∧ Num h 0 ∧ Num l 0) ∨ ∃ (e : Nat) (A H L : Int), 600 ≤ e ∧ e ≤ 1500 ∧ n = A * 2 ^ e ∧ Num h (H * 2 ^ e) ∧ Num l (L * 2 ^ e) ∧ HalvesU A H L

/-- the operations of a product -/
structure ProdW (x y h l g m p e : Nat) (π ε : Int) : Prop where
  hp : double.mul x y = some p
  np : Num p π
  ne : Num e ε
  ops : ∃ hg t1 hm t2 lg t3 lm, double.mul h g = some hg ∧ double.sub hg p = some t1 ∧ double.mul h m = some hm ∧ double.add t1 hm = some t2 ∧ double.mul l g = some lg ∧ double.add t2 lg = some t3 ∧ double.mul l m = some lm ∧ double.add t3 lm = some e

theorem le_of_units {X : Int} {k : Nat} (h : X.natAbs ≤ 2 ^ 107) : (X * 2 ^ k).natAbs ≤ 2 ^ (107 + k) := by
  rw [shift_abs, Nat.pow_add]; exact Nat.mul_le_mul_right _ h
theorem prod_words {x h l y g m : Nat} {a b : Int} (hx : HalfW x h l a) (hy : HalfW y g m b) : ∃ p e π ε, ProdW x y h l g m p e π ε ∧ a * b = (π + ε) * 2 ^ uE ∧ ∃ P, a * b = P * 2 ^ uE ∧ Near P π := by
  have zsub : ∀ {x y : Nat}, Num x 0 → Num y 0 → ∃ r, double.sub x y = some r ∧ Num r 0 := by
    intro x y h h'
    obtain ⟨r, z, h1, h2, h3, _⟩ := subx (k := 0) h h' (by decide) (by decide) (by decide)
    have hz : z = 0 := near_zero (by simpa using h3)
    exact ⟨r, h1, hz ▸ h2⟩
  have zadd : ∀ {x y : Nat}, Num x 0 → Num y 0 → ∃ r, double.add x y = some r ∧ Num r 0 := by
    intro x y h h'
    obtain ⟨r, z, h1, h2, h3, _⟩ := addx (k := 0) h h' (by decide) (by decide) (by decide)
    have hz : z = 0 := near_zero (by simpa using h3)
    exact ⟨r, h1, hz ▸ h2⟩
  -- where a factor is 0
  have zero : ∀ {hg' : Nat}, (∀ {u v : Nat}, (u = h ∨ u = l) → (v = g ∨ v = m) → ∃ r, double.mul u v = some r ∧ Num r 0) → (a = 0 ∨ b = 0) → hg' = 0 → ∃ p e π ε, ProdW x y h l g m p e π ε ∧ a * b = (π + ε) * 2 ^ uE ∧ ∃ P, a * b = P * 2 ^ uE ∧ Near P π := by
    intro _ hmul hab _
    obtain ⟨p, p1, p2⟩ := mul0 hx.x hy.x hab
    obtain ⟨hg, q1, q2⟩ := hmul (Or.inl rfl) (Or.inl rfl)
    obtain ⟨hm, q3, q4⟩ := hmul (Or.inl rfl) (Or.inr rfl)
    obtain ⟨lg, q5, q6⟩ := hmul (Or.inr rfl) (Or.inl rfl)
    obtain ⟨lm, q7, q8⟩ := hmul (Or.inr rfl) (Or.inr rfl)
    obtain ⟨t1, r1, r2⟩ := zsub q2 p2
    obtain ⟨t2, r3, r4⟩ := zadd r2 q4
    obtain ⟨t3, r5, r6⟩ := zadd r4 q6
    obtain ⟨e, r7, r8⟩ := zadd r6 q8
    have hz : a * b = 0 := Int.mul_eq_zero.2 hab
    refine ⟨p, e, 0, 0, ⟨p1, p2, r8, hg, t1, hm, t2, lg, t3, lm, q1, r1, q3, r3, q5, r5, q7, r7⟩, ?_, 0, ?_, fl_zero, fun y _ => by omega⟩
    · rw [hz, Int.add_zero, Int.zero_mul]
    · rw [hz, Int.zero_mul]
  rcases hx.ex with ⟨rfl, nh, nl⟩ | ⟨e, A, H, L, e1, e2, hA, nh, nl, HX⟩
  · refine zero (hg' := 0) ?_ (Or.inl rfl) rfl
    intro u v hu hv
    have nu : Num u 0 := by rcases hu with rfl | rfl; exact nh; exact nl
    have nv : ∃ c, Num v c := by
      rcases hy.ex with ⟨_, ng, nm⟩ | ⟨f, B, G, M, _, _, _, ng, nm, _⟩ <;> rcases hv with rfl | rfl
      · exact ⟨_, ng⟩
      · exact ⟨_, nm⟩
      · exact ⟨_, ng⟩
      · exact ⟨_, nm⟩
    obtain ⟨c, nv⟩ := nv
    exact mul0 nu nv (Or.inl rfl)
  · rcases hy.ex with ⟨rfl, ng, nm⟩ | ⟨f, B, G, M, f1, f2, hB, ng, nm, HY⟩
    · refine zero (hg' := 0) ?_ (Or.inr rfl) rfl
      intro u v hu hv
      have nv : Num v 0 := by rcases hv with rfl | rfl; exact ng; exact nm
      rcases hu with rfl | rfl
      · exact mul0 nh nv (Or.inr rfl)
      · exact mul0 nl nv (Or.inr rfl)
    · have hu : uE = 1074 := rfl
      obtain ⟨k, hk⟩ : ∃ k, e + f = k + uE := ⟨e + f - uE, by omega⟩
      have hk2 : k ≤ 1926 := by omega
      have nx := hx.x
      have ny := hy.x
      rw [hA] at nx
      rw [hB] at ny
      have A53 : A.natAbs ≤ 2 ^ 53 := Nat.le_of_lt HX.lt
      have B53 : B.natAbs ≤ 2 ^ 53 := Nat.le_of_lt HY.lt
      have L53 : L.natAbs ≤ 2 ^ 53 := Nat.le_trans HX.lo_le (by decide)
      have M53 : M.natAbs ≤ 2 ^ 53 := Nat.le_trans HY.lo_le (by decide)
      obtain ⟨p, π, p1, p2, p3, p4⟩ := mulx nx ny A53 B53 e1 f1 hk (by omega)
      have D := dekker HX HY p3
      obtain ⟨hg, z1, q1, q2, q3, q4⟩ := mulx nh ng HX.le HY.le e1 f1 hk (by omega)
      obtain ⟨hm, z2, q5, q6, q7, q8⟩ := mulx nh nm HX.le M53 e1 f1 hk (by omega)
      obtain ⟨lg, z3, q9, q10, q11, q12⟩ := mulx nl ng L53 HY.le e1 f1 hk (by omega)
      obtain ⟨lm, z4, q13, q14, q15, q16⟩ := mulx nl nm L53 M53 e1 f1 hk (by omega)
      have E1 := q3.self D.hg
      have E2 := q7.self D.hm
      have E3 := q11.self D.lg
      have E4 := q15.self D.lm
      obtain ⟨t1, y1, r1, r2, r3, r4⟩ := subx q2 p2 q4 p4 (by omega)
      have F1 := r3.self (by rw [E1]; exact D.t1)
      obtain ⟨t2, y2, r5, r6, r7, r8⟩ := addx r2 q6 r4 (Nat.le_trans q8 (two_le (by omega))) (by omega)
      have F2 := r7.self (by rw [F1, E1, E2]; exact D.t2)
      obtain ⟨t3, y3, r9, r10, r11, r12⟩ := addx r6 q10 r8 (Nat.le_trans q12 (two_le (by omega))) (by omega)
      have F3 := r11.self (by rw [F2, F1, E1, E2, E3]; exact D.t3)
      obtain ⟨t4, y4, r13, r14, r15, r16⟩ := addx r10 q14 r12 (Nat.le_trans q16 (two_le (by omega))) (by omega)
      have hs := D.sum
      have F4 := r15.self (by
        have : y3 + z4 = A * B * 2 ^ k - π := by omega
        rw [this]; exact D.err)
      have hab : a * b = A * B * 2 ^ k * 2 ^ uE := by
        rw [hA, hB, Int.mul_assoc (A * B), ← Int.pow_add, ← hk, Int.pow_add]; ac_rfl
      refine ⟨p, t4, π, y4, ⟨p1, p2, r14, hg, t1, hm, t2, lg, t3, lm, q1, r1, q5, r5, q9, r9, q13, r13⟩, ?_, _, hab, p3⟩
      have : π + y4 = A * B * 2 ^ k := by omega
      rw [this]; exact hab
end Flt
