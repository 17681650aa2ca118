/- eft.Split and eft.Prod of mild floats. -/
import Derived.Test.YtknlpggbaahajaaESplit
import Derived.Test.YtknlpggbaahajaaProdW
import Derived.Test.YtknlpggbaahajaaMildW
namespace Go.Proofs.Ytknlpggbaahajaa
open Go.RowKit

/-- a mild number but 0: its last place -/
theorem mild_place {n : Int} (hf : Flt.FL n) (h1 : 2 ^ mlo ≤ n.natAbs) (h2 : n.natAbs < 2 ^ mhi) : ∃ e : Nat, (2 : Int) ^ e ∣ n ∧ 2 ^ (52 + e) ≤ n.natAbs ∧ n.natAbs < 2 ^ (53 + e) ∧ 600 ≤ e ∧ e ≤ 1500 := by
  obtain ⟨e, hd, hlt, hc⟩ := Flt.canon hf
  have e1 := Flt.two_lt (Nat.lt_of_le_of_lt h1 hlt)
  have q1 : mlo = 674 := rfl
  have q2 : mhi = 1474 := rfl
  have hc2 : 2 ^ (52 + e) ≤ n.natAbs := by
    rcases hc with h | h
    · omega
    · exact h
  have e2 := Flt.two_lt (Nat.lt_of_le_of_lt hc2 h2)
  exact ⟨e, hd, hc2, hlt, by omega, by omega⟩
theorem split_any (x : Nat) (n : Int) (w : World) (hx : Flt.Num x n) (hn : MildN n) :
    Calls Try.prog 15 #[.float .f64 x] w fun r w' => ∃ h l, r = .returned (.tuple #[.float .f64 h, .float .f64 l]) ∧ Flt.HalfW x h l n ∧ w = w' := by
  rcases hn with rfl | ⟨h1, h2⟩
  · obtain ⟨c, d, h, l, m1, m2, m3, m4, nh, nl⟩ := Flt.split_zero hx
    exact (split_run w m1 m2 m3 m4).mono fun r w' k => ⟨h, l, k.1, ⟨hx, Or.inl ⟨rfl, nh, nl⟩⟩, k.2⟩
  · obtain ⟨e, hd, hge, hlt, e1, e2⟩ := mild_place hx.fl h1 h2
    obtain ⟨c, d, h, l, H, L, m1, m2, m3, m4, nh, nl, hH⟩ := Flt.split_words hx hd hge hlt e1 e2
    obtain ⟨A, H', L', a1, a2, a3, hU⟩ := hH.units hd hge hlt
    exact (split_run w m1 m2 m3 m4).mono fun r w' k => ⟨h, l, k.1, ⟨hx, Or.inr ⟨e, A, H', L', e1, e2, a1, a2 ▸ nh, a3 ▸ nl, hU⟩⟩, k.2⟩

set_option maxHeartbeats 1000000 in
theorem prod_any (x y : Nat) (a b : Int) (w : World) (hx : Flt.Num x a) (hy : Flt.Num y b) (ha : MildN a) (hb : MildN b) :
    Calls Try.prog 17 #[.float .f64 x, .float .f64 y] w fun r w' => ∃ p e π ε, r = .returned (.tuple #[.float .f64 p, .float .f64 e]) ∧ Ieee.double.mul x y = some p ∧ Flt.Num p π ∧ Flt.Num e ε ∧ a * b = (π + ε) * 2 ^ Flt.uE ∧ (∃ P, a * b = P * 2 ^ Flt.uE ∧ Flt.Near P π) ∧ w = w' := by
  obtain ⟨p0, hp0⟩ : ∃ p0, Ieee.double.mul x y = some p0 := by
    obtain ⟨s, m, i, hr, _⟩ := hx.ex
    obtain ⟨t, n, j, hr', _⟩ := hy.ex
    unfold Ieee.Format.mul
    rw [hr, hr']
    exact ⟨_, rfl⟩
  have o0 := fun w => run_fmul (P := Try.prog) 22 hp0 w
  have hp0H := Lib.hid hp0
  clear hp0
  go_enter Try.func17, Try.ntmps17
  go_wp2_with fail
  refine (split_any x a _ hx ha).mono ?_; rintro r w1 ⟨h, l, rfl, hX, rfl⟩
  go_wp2_with fail
  refine (split_any y b _ hy hb).mono ?_; rintro r w1 ⟨g, m, rfl, hY, rfl⟩
  obtain ⟨p, e, π, ε, hW, hsum, hnear⟩ := Flt.prod_words hX hY
  obtain ⟨hg, t1, hm, t2, lg, t3, lm, q1, r1, q2, r2, q3, r3, q4, r4⟩ := hW.ops
  have epp : p0 = p := by have := hp0H.out.symm.trans hW.hp; cases this; rfl
  subst epp
  have o1 := fun w => run_fmul (P := Try.prog) 22 q1 w
  have o2 := fun w => run_fsub (P := Try.prog) 22 r1 w
  have o3 := fun w => run_fmul (P := Try.prog) 22 q2 w
  have o4 := fun w => run_fadd (P := Try.prog) 22 r2 w
  have o5 := fun w => run_fmul (P := Try.prog) 22 q3 w
  have o6 := fun w => run_fadd (P := Try.prog) 22 r3 w
  have o7 := fun w => run_fmul (P := Try.prog) 22 q4 w
  have o8 := fun w => run_fadd (P := Try.prog) 22 r4 w
  have fin := Lib.hid (And.intro hW.np (And.intro hW.ne (And.intro hsum hnear)))
  clear q1 r1 q2 r2 q3 r3 q4 r4 hW hsum hnear hX hY hx hy ha hb
  go_wp2
  go_ret2
  obtain ⟨f1, f2, f3, f4⟩ := fin.out
  exact ⟨p0, e, π, ε, rfl, hp0H.out, f1, f2, f3, f4, rfl⟩
end Go.Proofs.Ytknlpggbaahajaa
