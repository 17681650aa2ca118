/- CplxTurns' walk. -/
import Derived.Test.YtnclnbbnkfolgaaRot6
import Derived.Deep.DeepCutAuto
namespace Go.Proofs.Ytnclnbbnkfolgaa
open Go.RowKit

theorem turns6 (hwk : WakesSaid6) (hT : TurnSaid6) (a b q p : Int) (w : World) (hq : -9223372036854775808 ≤ q ∧ q < 9223372036854775808) :
    Calls Try.prog 5 #[.agg #[.int .i64 a, .int .i64 b], .int .i64 q, .int .i64 p] w fun e w' => e = .returned (.bool true) ∧ Bel w w' := by
  have f1 := number_any a b
  have wa : W64 (wd a) := wd_lt a
  have wb : W64 (wd b) := wd_lt b
  have l1 := Int.tmod_lt_of_pos q (show (0 : Int) < 4 by decide)
  have l2 := Int.lt_tmod_of_pos q (show (0 : Int) < 4 by decide)
  have l3 := Int.tmod_lt_of_pos p (show (0 : Int) < 4 by decide)
  have l4 := Int.lt_tmod_of_pos p (show (0 : Int) < 4 by decide)
  obtain ⟨m, hm⟩ : ∃ m, m = q.tmod 4 := ⟨_, rfl⟩
  obtain ⟨n, hn⟩ : ∃ n, n = p.tmod 4 := ⟨_, rfl⟩
  have T0 := fun w => hT (wd a) (wd b) q w wa wb hq
  have R0 := fun w => ref6turn (wd a) (wd b) q w
  have e2 := rot6_two wa wb q p
  rw [← hm] at l1 l2 e2
  rw [← hn] at l3 l4 e2
  have T1 := fun w => hT (wd a) (wd b) m w wa wb (by omega)
  obtain ⟨wm, wn⟩ := rot6_lt wa wb (quart6 m)
  have T2 := fun w => hT _ _ n w wm wn (by omega)
  have T3 := fun w => hT (wd a) (wd b) (m + n) w wa wb (by omega)
  rw [e2] at T2
  have i0 := fun u v w => is_any u v u v w (Sm.refl _) (Sm.refl _)
  replace hm := hm.symm
  replace hn := hn.symm
  clear e2 hT wm wn wa wb hq
  generalize wd a = x at *
  generalize wd b = y at *
  generalize (rot6 x y (quart6 m)).1 = x1 at *
  generalize (rot6 x y (quart6 m)).2 = y1 at *
  generalize (rot6 x y (quart6 q)).1 = xq at *
  generalize (rot6 x y (quart6 q)).2 = yq at *
  generalize (rot6 x y (quart6 (m + n))).1 = xs at *
  generalize (rot6 x y (quart6 (m + n))).2 = ys at *
  have sf := run_store_float Try.prog
  go_enter Try.func5, Try.ntmps5
  go_wp2_with fail
  refine (f1 _).mono ?_; rintro r w1 ⟨rfl, g1⟩
  have b1 : Bel w w1 := by exact ((Bel.refl _).alloc _).trans g1
  go_wp2_with fail
  obtain ⟨w2, hw2⟩ : ∃ w2, w2 = w1.alloc (Obj.cells #[.float .f64 x, .float .f64 y] 25) := ⟨_, rfl⟩
  have tX : Two w2 w1.heap.size x y := by rw [hw2]; exact Two.newN _ _ _ _ _ rfl
  have b2 : Bel w w2 := by rw [hw2]; exact b1.alloc _
  rw [← hw2]
  obtain ⟨X, qX⟩ : ∃ X, X = w1.heap.size := ⟨_, rfl⟩
  rw [← qX] at tX ⊢
  clear hw2 qX g1 b1
  have B2 := Lib.hid b2
  clear b2
  refine (R0 _).mono ?_; rintro r w' ⟨rfl, rfl⟩
  have c0 := tX.c0
  have c1 := tX.c1
  go_wp2_with fail
  refine (T1 _).mono ?_; rintro r w3 ⟨rfl, g3⟩
  replace tX := tX.by g3
  have B3 := Lib.hid (B2.out.trans g3)
  clear g3 B2 c0 c1
  go_wp2_with fail
  refine (T2 _).mono ?_; rintro r w4 ⟨rfl, g4⟩
  replace tX := tX.by g4
  have b4 := B3.out.trans g4
  clear g4 B3
  have lX := tX.lt
  go_upto_region 4 with fail
  obtain ⟨w5, hw5⟩ : ∃ w5, w5 = w4.alloc (Obj.cells #[.float .f64 xs, .float .f64 ys] 25) := ⟨_, rfl⟩
  have tY : Two w5 w4.heap.size xs ys := by rw [hw5]; exact Two.newN _ _ _ _ _ rfl
  replace tX : Two w5 X x y := by rw [hw5]; exact tX.al _
  have B5 := Lib.hid (show Bel w w5 by rw [hw5]; exact b4.alloc _)
  rw [← hw5]
  obtain ⟨Y, qY⟩ : ∃ Y, Y = w4.heap.size := ⟨_, rfl⟩
  rw [← qY] at tY ⊢
  clear hw5 qY b4 lX
  have c0 := tX.c0
  have c1 := tX.c1
  have wmn : IntKind.i64.wrap (m + n) = m + n := by rw [IntKind.wrap_i64]; omega
  go_wp2_with fail
  refine (T3 _).mono ?_; rintro r w6 ⟨rfl, g6⟩
  replace tX := tX.by g6
  replace tY := tY.by g6
  have b6 := B5.out.trans g6
  clear g6 B5 c0 c1
  go_upto_region 5 with fail
  obtain ⟨w7, hw7⟩ : ∃ w7, w7 = w6.alloc (Obj.cells #[.float .f64 xs, .float .f64 ys] 25) := ⟨_, rfl⟩
  have tZ : Two w7 w6.heap.size xs ys := by rw [hw7]; exact Two.newN _ _ _ _ _ rfl
  replace tX : Two w7 X x y := by rw [hw7]; exact tX.al _
  replace tY : Two w7 Y xs ys := by rw [hw7]; exact tY.al _
  have B7 := Lib.hid (show Bel w w7 by rw [hw7]; exact b6.alloc _)
  rw [← hw7]
  obtain ⟨Z, qZ⟩ : ∃ Z, Z = w6.heap.size := ⟨_, rfl⟩
  rw [← qZ] at tZ ⊢
  clear hw7 qZ b6 wmn
  go_wp2_with fail
  refine (hwk _).mono ?_; rintro r w8 ⟨rfl, g8⟩
  replace tX := tX.by g8
  replace tY := tY.by g8
  replace tZ := tZ.by g8
  have B8 := Lib.hid (B7.out.trans g8)
  clear g8 B7
  have c0 := tX.c0
  have c1 := tX.c1
  go_wp2_with fail
  refine (T0 _).mono ?_; rintro r w9 ⟨rfl, g9⟩
  replace tX := tX.by g9
  replace tY := tY.by g9
  replace tZ := tZ.by g9
  have B9 := Lib.hid (B8.out.trans g9)
  clear g9 B8 c0 c1
  go_wp2_with fail
  refine (i0 xq yq _).mono ?_; rintro r w10 ⟨rfl, g10⟩
  replace tY := tY.by g10
  replace tZ := tZ.by g10
  have B10 := Lib.hid (B9.out.trans g10)
  clear g10 B9 tX
  have c0 := tY.c0
  have c1 := tY.c1
  have d0 := tZ.c0
  have d1 := tZ.c1
  go_wp2_with fail
  refine (i0 xs ys _).mono ?_; rintro r w11 ⟨rfl, g11⟩
  have b11 := B10.out.trans g11
  clear g11 B10 tY tZ c0 c1 d0 d1 hwk T0 T1 T2 T3 i0
  go_wp2
  go_ret
  exact ⟨rfl, b11⟩
end Go.Proofs.Ytnclnbbnkfolgaa
