/- Merged texts: LDDAdds0, LDDMuls0, LDDFloats0, RegG, DivQ, QuoK, QuoC, QuoD. -/
import Derived.Test.YtfpneojhhkfhpaaM6
import Derived.Test.YtfpneojhhkfhpaaM4
import Derived.Deep.DeepCutAuto
import Derived.Test.YtfpneojhhkfhpaaM1
import Derived.Test.YtfpneojhhkfhpaaM2
/- DDAdds' walk; what New, Add and the wakes answer are its hypotheses. -/
namespace Go.Proofs.Ytfpneojhhkfhpaa
open Go.RowKit

set_option maxHeartbeats 4000000 in
theorem adds0 (hnew : NewSaid) (hadd : AddSaid) (hwk : WakesSaid) (a0 a1 b0 b1 : Int) (w : World) :
    Calls Try.prog 4 #[.agg #[.int .i64 a0, .int .i64 a1], .agg #[.int .i64 b0, .int .i64 b1]] w fun e w' => e = .returned (.bool true) ∧ Bel w w' := by
  have sf := run_store_float Try.prog
  go_enter Try.func4, Try.ntmps4
  go_upto_region 1 with fail
  obtain ⟨w1, hw1⟩ : ∃ w1, w1 = (w.alloc (Obj.cells #[Value.int IntKind.i64 a0, Value.int IntKind.i64 a1] 38)).alloc (Obj.cells #[Value.int IntKind.i64 b0, Value.int IntKind.i64 b1] 38) := ⟨_, rfl⟩
  have hB1 : Bel w w1 := by rw [hw1]; exact ((Bel.refl w).alloc _).alloc _
  have c0 : w1.cell? ⟨w.heap.size, 0, none⟩ = some (.int .i64 a0) := by rw [hw1, World.cell?_alloc_past _ _ _ (by simp), World.cell?_alloc_new]; rfl
  have c1 : w1.cell? ⟨w.heap.size, 1, none⟩ = some (.int .i64 a1) := by rw [hw1, World.cell?_alloc_past _ _ _ (by simp), World.cell?_alloc_new]; rfl
  have c2 : w1.cell? ⟨w.heap.size + 1, 0, none⟩ = some (.int .i64 b0) := by rw [hw1, World.cell?_alloc_at _ _ _ _ (by simp)]; rfl
  have c3 : w1.cell? ⟨w.heap.size + 1, 1, none⟩ = some (.int .i64 b1) := by rw [hw1, World.cell?_alloc_at _ _ _ _ (by simp)]; rfl
  have hsz : w1.heap.size = w.heap.size + 2 := by rw [hw1]; simp
  rw [← hw1]
  obtain ⟨A, hA⟩ : ∃ A, A = w.heap.size := ⟨_, rfl⟩
  rw [← hA] at c0 c1 c2 c3 hsz ⊢
  have hw1H := Lib.hid (And.intro hw1 hA)
  have z0 : A < w1.heap.size := by omega
  have z1 : A + 1 < w1.heap.size := by omega
  clear hw1 hA
  go_cut [5, 6] from 9 to 12 (fun p q wx => Tames w wx p q)
  case first =>
    refine pair_region hnew (fun u5 u6 u9 u10 u11 u12 => { tmps := #[.agg #[.int .i64 a0, .int .i64 a1], .agg #[.int .i64 b0, .int .i64 b1], .pointer (some ⟨A, 0, none⟩), .pointer (some ⟨A + 1, 0, none⟩), .bool false, u5, u6, undef, undef, u9, u10, u11, u12, undef, undef, undef, undef, undef, undef, undef, undef, undef, undef, undef, undef, undef, undef, undef, undef, undef, undef, undef, undef, undef, undef, undef, undef, undef, undef, undef, undef, undef, undef, undef, undef, undef], defers := [] }) 2 3 5 6 9 10 11 12 1 w w1 A a0 a1 b0 b1 _ _
      ⟨_, _, _, _, _, _, _, _, _, _, _, _, _, _, _, _, _, _, _, _, _, _, _, _, rfl⟩ (by decide +kernel) (fun _ _ _ _ _ _ _ => rfl) (fun _ _ _ _ _ _ _ => rfl) (fun _ _ _ _ _ _ _ => rfl) (fun _ _ _ _ _ _ _ => rfl) (fun _ _ _ _ _ _ _ => rfl) (fun _ _ _ _ _ _ _ => rfl) (fun _ _ _ _ _ _ => rfl) (fun _ _ _ _ _ _ => rfl) (fun _ _ _ _ _ _ => rfl) (fun _ _ _ _ _ _ => rfl) (fun _ _ _ _ _ _ => rfl) (fun _ _ _ _ _ _ => rfl) (fun _ _ _ _ _ _ => rfl) (fun _ _ _ _ _ _ => rfl)
      hB1 z1 c0 c1 c2 c3 undef undef undef undef undef undef ?_
    intro u5 u6 u9 u10 u11 u12 wx hT
    go_wp2
    go_meet
    exact hT
  case rest =>
    obtain ⟨X, Y, x, y, u, v, rfl, rfl, hne, hX, hY, tx, ty, hBc, ⟨H, L, nx, ny, hT, _⟩, ⟨H', L', nu, nv, hT', _⟩⟩ := hcut
    have lx := tx.lt
    have ly := ty.lt
    obtain ⟨x0, x1, _, _⟩ := tx
    obtain ⟨y0, y1, _, _⟩ := ty
    have hAd := fun w => hadd x y u v H L H' L' w nx ny nu nv hT hT'
    clear c0 c1 c2 c3 z0 z1 hsz hw1H hB1
    go_wp2_with fail
    refine (hAd _).mono ?_; rintro r w4 ⟨s, e, S, E, rfl, hG, hE, g4⟩
    go_upto_region 3 with fail
    obtain ⟨w5, hw5⟩ : ∃ w5, w5 = w4.alloc (.cells #[.float .f64 s, .float .f64 e] 25) := ⟨_, rfl⟩
    have hB45 : Bel w4 w5 := by rw [hw5]; exact (Bel.refl w4).alloc _
    have hT5 : Two w5 w4.heap.size s e := by rw [hw5]; exact Two.new w4 s e _
    have hq5 : w4.heap.size < w5.heap.size := by rw [hw5]; simp
    rw [← hw5]
    obtain ⟨Q, hQ⟩ : ∃ Q, Q = w4.heap.size := ⟨_, rfl⟩
    have hXQ : X < Q := by rw [hQ]; exact Nat.lt_of_lt_of_le lx g4.size
    have hYQ : Y < Q := by rw [hQ]; exact Nat.lt_of_lt_of_le ly g4.size
    have g5 := g4.trans hB45
    rw [← hQ] at hT5 hq5 ⊢
    have hwQ := Lib.hid hQ
    clear hw5 hQ hB45
    obtain ⟨hc0, hc1, _, _⟩ := hT5
    have k0 := (g5.cell (p := ⟨X, 0, none⟩) lx).trans x0
    have k1 := (g5.cell (p := ⟨X, 1, none⟩) lx).trans x1
    have k2 := (g5.cell (p := ⟨Y, 0, none⟩) ly).trans y0
    have k3 := (g5.cell (p := ⟨Y, 1, none⟩) ly).trans y1
    have hf := fun w => fine_any s e S E w hG.s hG.e hG.sum hG.neat
    have hB5 := hBc.trans g5
    have lx5 : X < w5.heap.size := Nat.lt_trans hXQ hq5
    have ly5 : Y < w5.heap.size := Nat.lt_trans hYQ hq5
    have hGH := Lib.hid hG
    clear x0 x1 y0 y1 hG hAd g4 g5
    go_wp2_with fail
    refine (hwk _).mono ?_; rintro r w6 ⟨rfl, g6⟩
    have d0 := (g6.cell (p := ⟨Q, 0, none⟩) hq5).trans hc0
    have d1 := (g6.cell (p := ⟨Q, 1, none⟩) hq5).trans hc1
    go_wp2_with fail
    refine (hf _).mono ?_; rintro r w7 ⟨rfl, g7⟩
    have g67 := g6.trans g7
    have q0 := (g67.cell (p := ⟨Q, 0, none⟩) hq5).trans hc0
    have q1 := (g67.cell (p := ⟨Q, 1, none⟩) hq5).trans hc1
    have p0 := (g67.cell (p := ⟨X, 0, none⟩) lx5).trans k0
    have p1 := (g67.cell (p := ⟨X, 1, none⟩) lx5).trans k1
    have p2 := (g67.cell (p := ⟨Y, 0, none⟩) ly5).trans k2
    have p3 := (g67.cell (p := ⟨Y, 1, none⟩) ly5).trans k3
    have hB7 := hB5.trans g67
    have lq7 := Nat.lt_of_lt_of_le hq5 g67.size
    have lx7 := Nat.lt_of_lt_of_le lx5 g67.size
    have ly7 := Nat.lt_of_lt_of_le ly5 g67.size
    clear hc0 hc1 k0 k1 k2 k3 d0 d1 hB5 g6 g7 g67 hf lx5 ly5 hq5
    obtain ⟨g, hg⟩ : ∃ g, g = w7.heap.size := ⟨_, rfl⟩
    have hz := long_zero
    have hL0 := long_new w7 33
    have hB8 : Bel w7 (w7.alloc (Obj.cells (Array.replicate 110 (Value.int IntKind.i64 0)) 33)) := (Bel.refl w7).alloc _
    obtain ⟨w8, hw8⟩ : ∃ w8, w8 = w7.alloc (Obj.cells (Array.replicate 110 (Value.int IntKind.i64 0)) 33) := ⟨_, rfl⟩
    have hs8 : g < w8.heap.size := by rw [hw8, hg]; simp
    rw [← hw8] at hL0 hB8
    rw [← hg] at hL0
    have hgw : w.heap.size ≤ g := by rw [hg]; exact hB7.size
    have nq : Q ≠ g := by omega
    have nX : X ≠ g := by omega
    have nY : Y ≠ g := by omega
    have c0 := (hB8.cell (p := ⟨Q, 0, none⟩) lq7).trans q0
    have c1 := (hB8.cell (p := ⟨Q, 1, none⟩) lq7).trans q1
    have c2 := (hB8.cell (p := ⟨X, 0, none⟩) lx7).trans p0
    have c3 := (hB8.cell (p := ⟨X, 1, none⟩) lx7).trans p1
    have c4 := (hB8.cell (p := ⟨Y, 0, none⟩) ly7).trans p2
    have c5 := (hB8.cell (p := ⟨Y, 1, none⟩) ly7).trans p3
    have lx8 := Nat.lt_of_lt_of_le lx7 hB8.size
    have ly8 := Nat.lt_of_lt_of_le ly7 hB8.size
    have kB := hB7.trans hB8
    have hgH := Lib.hid (And.intro hg hw8)
    have P1 := fun f w => put_sgn _ 1 sgn_pos g f s e S E w hGH.out.s hGH.out.e (GoodN.w hGH.out.gs) hGH.out.ge
    have P2 := fun f w => put_sgn _ (-1) sgn_neg g f x y H L w nx ny (GoodN.w (TameN.goods hT).1) (GoodN.w (TameN.goods hT).2)
    have P3 := fun f w => put_sgn _ (-1) sgn_neg g f u v H' L' w nu nv (GoodN.w (TameN.goods hT').1) (GoodN.w (TameN.goods hT').2)
    clear hg hw8 q0 q1 p0 p1 p2 p3 hB7 hB8 lq7 lx7 ly7
    go_upto_region 6 with fail
    rw [← hgH.out.1, ← hgH.out.2]
    go_wp2_with fail
    refine (P1 (fun _ => 0) _ hL0 hs8 (fun _ => by simp)).mono ?_; rintro r w9 ⟨rfl, f1, l1, v1, d1, e1⟩
    have r1 : ∀ j, (f1 j).natAbs ≤ 6442450944 := fun j => by have := d1 j; simpa using this
    have s9 := e1.below.size
    have a2 := (e1.cell (p := ⟨X, 0, none⟩) lx8 nX).trans c2
    have a3 := (e1.cell (p := ⟨X, 1, none⟩) lx8 nX).trans c3
    have a4 := (e1.cell (p := ⟨Y, 0, none⟩) ly8 nY).trans c4
    have a5 := (e1.cell (p := ⟨Y, 1, none⟩) ly8 nY).trans c5
    go_wp2_with fail
    refine (P2 f1 _ l1 (Nat.lt_of_lt_of_le hs8 s9) (fun j => by have := r1 j; omega)).mono ?_; rintro r w10 ⟨rfl, f2, l2, v2, d2, e2⟩
    have r2 : ∀ j, (f2 j).natAbs ≤ 12884901888 := fun j => by have := d2 j; have := r1 j; omega
    have e12 := e1.trans e2
    have s10 := e12.below.size
    have b2 := (e12.cell (p := ⟨X, 0, none⟩) lx8 nX).trans c2
    have b4 := (e12.cell (p := ⟨Y, 0, none⟩) ly8 nY).trans c4
    have b5 := (e12.cell (p := ⟨Y, 1, none⟩) ly8 nY).trans c5
    go_wp2_with fail
    refine (P3 f2 _ l2 (Nat.lt_of_lt_of_le hs8 s10) (fun j => by have := r2 j; omega)).mono ?_; rintro r w11 ⟨rfl, f3, l3, v3, d3, e3⟩
    have r3 : ∀ j, (f3 j).natAbs ≤ 2305843009213693952 := fun j => by have := d3 j; have := r2 j; omega
    have e13 := e12.trans e3
    have s11 := Nat.lt_of_lt_of_le hs8 e13.below.size
    have m2 := (e13.cell (p := ⟨X, 0, none⟩) lx8 nX).trans c2
    have m4 := (e13.cell (p := ⟨Y, 0, none⟩) ly8 nY).trans c4
    have lX := Nat.lt_of_lt_of_le lx8 e13.below.size
    have lY := Nat.lt_of_lt_of_le ly8 e13.below.size
    have hval : lval f3 = (S + E - (H + L + (H' + L'))) * 2 ^ 126 := by
      rw [v3, v2, v1, lval_zero, Int.zero_add, Int.one_mul, ← Int.add_mul, ← Int.add_mul]
      congr 1
      omega
    have hS := fun w hw hg => size_any g f3 w hw hg r3 (by rw [hval]; exact adds_big hT hT' hE)
    rw [hval] at hS
    have t12 := tops_of x u H L H' L' nx nu hT hT'
    have hfin := fun k k1 k2 => Lib.hid (adds_fin (k := k) (k1 := k1) (k2 := k2) hT hT' hE)
    have kB2 : Bel w w11 := Below.trans kB (Below.mono e13.below hgw)
    have kept : ∀ z : World, Bel w11 z → (z.cell? ⟨X, 0, none⟩ = some (.float .f64 x) ∧ z.cell? ⟨Y, 0, none⟩ = some (.float .f64 u) ∧ LongAt z g f3 ∧ g < z.heap.size ∧ Bel w11 z) := fun _ kb =>
      ⟨(kb.cell (p := ⟨X, 0, none⟩) lX).trans m2, (kb.cell (p := ⟨Y, 0, none⟩) lY).trans m4, l3.bel kb s11, Nat.lt_of_lt_of_le s11 kb.size, kb⟩
    go_upto_region 9 with fail
    have hk0 := kept w11.drew (Bel.refl w11).drew
    clear hL0 hs8 l1 l2 v1 v2 v3 d1 d2 d3 e1 e2 e3 r1 r2 e12 e13 s9 s10 a2 a3 a4 a5 b2 b4 b5 c0 c1 c2 c3 c4 c5 P1 P2 P3 hz kB
    go_region_held3 (fun z => z.cell? ⟨X, 0, none⟩ = some (.float .f64 x) ∧ z.cell? ⟨Y, 0, none⟩ = some (.float .f64 u) ∧ LongAt z g f3 ∧ g < z.heap.size ∧ Bel w11 z) (first | exact hk0 | assumption | exact kept _ ((‹_ ∧ _ ∧ LongAt _ g f3 ∧ _ ∧ Bel w11 _›).2.2.2.2.trans kg))
      (first
        | (go_at_call 18; refine (hS _ (‹_ ∧ _ ∧ LongAt _ g f3 ∧ _ ∧ Bel w11 _›).2.2.1 (‹_ ∧ _ ∧ LongAt _ g f3 ∧ _ ∧ Bel w11 _›).2.2.2.1).mono ?_; rintro r w12 ⟨k, rfl, hk, hk1, hk2, kg⟩)
        | (go_at_call 19; refine (t12 _ _ (by first | exact Or.inl rfl | exact Or.inr rfl)).mono ?_; rintro r w12 ⟨k1, rfl, hk3, hk4, hk5, hk6, rfl⟩))
    rename_i ka ha4 ha5 ha6 ha3 hHd
    have hle := (hfin k ka k1).out (ha3 trivial) (hk4 trivial) hk
    obtain ⟨M, hM⟩ : ∃ M, M = (if ka < k1 then k1 else ka) := ⟨_, rfl⟩
    have hMx : M = max ka k1 := by rw [hM]; split <;> omega
    rw [← hM]
    rw [← hMx] at hle
    have hM1 : -1200 ≤ M ∧ M ≤ 200 := by omega
    have hwr : IntKind.i64.wrap (M - 96) = M - 96 := by rw [IntKind.wrap_i64]; omega
    rw [hwr]
    have hle2 : k ≤ if -1200 < M - 96 then M - 96 else -1200 := by split <;> omega
    obtain ⟨Z, hZ⟩ : ∃ Z, Z = if -1200 < M - 96 then M - 96 else -1200 := ⟨_, rfl⟩
    rw [← hZ] at hle2 ⊢
    rw [decide_eq_true hle2]
    clear hM hMx hZ hle hle2 hM1 hwr hfin
    go_wp2
    go_ret
    exact ⟨rfl, kB2.trans hHd.2.2.2.2⟩
end Go.Proofs.Ytfpneojhhkfhpaa

/- DDMuls' walk; what New, Mul and the wakes answer are its hypotheses. -/
namespace Go.Proofs.Ytfpneojhhkfhpaa
open Go.RowKit

set_option maxHeartbeats 4000000 in
theorem muls0 (hnew : NewSaid) (hmul : MulSaid) (hwk : WakesSaid) (a0 a1 b0 b1 : Int) (w : World) :
    Calls Try.prog 5 #[.agg #[.int .i64 a0, .int .i64 a1], .agg #[.int .i64 b0, .int .i64 b1]] w fun e w' => e = .returned (.bool true) ∧ Bel w w' := by
  have sf := run_store_float Try.prog
  go_enter Try.func5, Try.ntmps5
  go_upto_region 1 with fail
  obtain ⟨w1, hw1⟩ : ∃ w1, w1 = (w.alloc (Obj.cells #[Value.int IntKind.i64 a0, Value.int IntKind.i64 a1] 38)).alloc (Obj.cells #[Value.int IntKind.i64 b0, Value.int IntKind.i64 b1] 38) := ⟨_, rfl⟩
  have hB1 : Bel w w1 := by rw [hw1]; exact ((Bel.refl w).alloc _).alloc _
  have c0 : w1.cell? ⟨w.heap.size, 0, none⟩ = some (.int .i64 a0) := by rw [hw1, World.cell?_alloc_past _ _ _ (by simp), World.cell?_alloc_new]; rfl
  have c1 : w1.cell? ⟨w.heap.size, 1, none⟩ = some (.int .i64 a1) := by rw [hw1, World.cell?_alloc_past _ _ _ (by simp), World.cell?_alloc_new]; rfl
  have c2 : w1.cell? ⟨w.heap.size + 1, 0, none⟩ = some (.int .i64 b0) := by rw [hw1, World.cell?_alloc_at _ _ _ _ (by simp)]; rfl
  have c3 : w1.cell? ⟨w.heap.size + 1, 1, none⟩ = some (.int .i64 b1) := by rw [hw1, World.cell?_alloc_at _ _ _ _ (by simp)]; rfl
  have hsz : w1.heap.size = w.heap.size + 2 := by rw [hw1]; simp
  rw [← hw1]
  obtain ⟨A, hA⟩ : ∃ A, A = w.heap.size := ⟨_, rfl⟩
  rw [← hA] at c0 c1 c2 c3 hsz ⊢
  have hw1H := Lib.hid (And.intro hw1 hA)
  have z0 : A < w1.heap.size := by omega
  have z1 : A + 1 < w1.heap.size := by omega
  clear hw1 hA
  go_cut [5, 6] from 9 to 12 (fun p q wx => Tames w wx p q)
  case first =>
    refine pair_region hnew (fun u5 u6 u9 u10 u11 u12 => { tmps := #[.agg #[.int .i64 a0, .int .i64 a1], .agg #[.int .i64 b0, .int .i64 b1], .pointer (some ⟨A, 0, none⟩), .pointer (some ⟨A + 1, 0, none⟩), .bool false, u5, u6, undef, undef, u9, u10, u11, u12, undef, undef, undef, undef, undef, undef, undef, undef, undef, undef, undef, undef, undef, undef, undef, undef, undef, undef, undef, undef, undef, undef, undef, undef, undef, undef, undef, undef, undef, undef, undef], defers := [] }) 2 3 5 6 9 10 11 12 1 w w1 A a0 a1 b0 b1 _ _
      ⟨_, _, _, _, _, _, _, _, _, _, _, _, _, _, _, _, _, _, _, _, _, _, _, _, rfl⟩ (by decide +kernel) (fun _ _ _ _ _ _ _ => rfl) (fun _ _ _ _ _ _ _ => rfl) (fun _ _ _ _ _ _ _ => rfl) (fun _ _ _ _ _ _ _ => rfl) (fun _ _ _ _ _ _ _ => rfl) (fun _ _ _ _ _ _ _ => rfl) (fun _ _ _ _ _ _ => rfl) (fun _ _ _ _ _ _ => rfl) (fun _ _ _ _ _ _ => rfl) (fun _ _ _ _ _ _ => rfl) (fun _ _ _ _ _ _ => rfl) (fun _ _ _ _ _ _ => rfl) (fun _ _ _ _ _ _ => rfl) (fun _ _ _ _ _ _ => rfl)
      hB1 z1 c0 c1 c2 c3 undef undef undef undef undef undef ?_
    intro u5 u6 u9 u10 u11 u12 wx hT
    go_wp2
    go_meet
    exact hT
  case rest =>
    obtain ⟨X, Y, x, y, u, v, rfl, rfl, hne, hX, hY, tx, ty, hBc, ⟨H, L, nx, ny, hT, _⟩, ⟨H', L', nu, nv, hT', _⟩⟩ := hcut
    have lx := tx.lt
    have ly := ty.lt
    obtain ⟨x0, x1, _, _⟩ := tx
    obtain ⟨y0, y1, _, _⟩ := ty
    have hMu := fun w => hmul x y u v H L H' L' w nx ny nu nv hT hT'
    clear c0 c1 c2 c3 z0 z1 hsz hw1H hB1
    go_wp2_with fail
    refine (hMu _).mono ?_; rintro r w4 ⟨s, e, S, E, rfl, hG, hE, g4⟩
    go_upto_region 3 with fail
    obtain ⟨w5, hw5⟩ : ∃ w5, w5 = w4.alloc (.cells #[.float .f64 s, .float .f64 e] 25) := ⟨_, rfl⟩
    have hB45 : Bel w4 w5 := by rw [hw5]; exact (Bel.refl w4).alloc _
    have hT5 : Two w5 w4.heap.size s e := by rw [hw5]; exact Two.new w4 s e _
    have hq5 : w4.heap.size < w5.heap.size := by rw [hw5]; simp
    rw [← hw5]
    obtain ⟨Q, hQ⟩ : ∃ Q, Q = w4.heap.size := ⟨_, rfl⟩
    have hXQ : X < Q := by rw [hQ]; exact Nat.lt_of_lt_of_le lx g4.size
    have hYQ : Y < Q := by rw [hQ]; exact Nat.lt_of_lt_of_le ly g4.size
    have g5 := g4.trans hB45
    rw [← hQ] at hT5 hq5 ⊢
    have hwQ := Lib.hid hQ
    clear hw5 hQ hB45
    obtain ⟨hc0, hc1, _, _⟩ := hT5
    have k0 := (g5.cell (p := ⟨X, 0, none⟩) lx).trans x0
    have k1 := (g5.cell (p := ⟨X, 1, none⟩) lx).trans x1
    have k2 := (g5.cell (p := ⟨Y, 0, none⟩) ly).trans y0
    have k3 := (g5.cell (p := ⟨Y, 1, none⟩) ly).trans y1
    have hf := fun w => fine_any s e S E w hG.s hG.e hG.sum hG.neat
    have hB5 := hBc.trans g5
    have lx5 : X < w5.heap.size := Nat.lt_trans hXQ hq5
    have ly5 : Y < w5.heap.size := Nat.lt_trans hYQ hq5
    have hGH := Lib.hid hG
    clear x0 x1 y0 y1 hG hMu g4 g5
    go_wp2_with fail
    refine (hwk _).mono ?_; rintro r w6 ⟨rfl, g6⟩
    have d0 := (g6.cell (p := ⟨Q, 0, none⟩) hq5).trans hc0
    have d1 := (g6.cell (p := ⟨Q, 1, none⟩) hq5).trans hc1
    go_wp2_with fail
    refine (hf _).mono ?_; rintro r w7 ⟨rfl, g7⟩
    have g67 := g6.trans g7
    have q0 := (g67.cell (p := ⟨Q, 0, none⟩) hq5).trans hc0
    have q1 := (g67.cell (p := ⟨Q, 1, none⟩) hq5).trans hc1
    have p0 := (g67.cell (p := ⟨X, 0, none⟩) lx5).trans k0
    have p1 := (g67.cell (p := ⟨X, 1, none⟩) lx5).trans k1
    have p2 := (g67.cell (p := ⟨Y, 0, none⟩) ly5).trans k2
    have p3 := (g67.cell (p := ⟨Y, 1, none⟩) ly5).trans k3
    have hB7 := hB5.trans g67
    have lq7 := Nat.lt_of_lt_of_le hq5 g67.size
    have lx7 := Nat.lt_of_lt_of_le lx5 g67.size
    have ly7 := Nat.lt_of_lt_of_le ly5 g67.size
    clear hc0 hc1 k0 k1 k2 k3 d0 d1 hB5 g6 g7 g67 hf lx5 ly5 hq5
    obtain ⟨g, hg⟩ : ∃ g, g = w7.heap.size := ⟨_, rfl⟩
    have hz := long_zero
    have hL0 := long_new w7 33
    have hB8 : Bel w7 (w7.alloc (Obj.cells (Array.replicate 110 (Value.int IntKind.i64 0)) 33)) := (Bel.refl w7).alloc _
    obtain ⟨w8, hw8⟩ : ∃ w8, w8 = w7.alloc (Obj.cells (Array.replicate 110 (Value.int IntKind.i64 0)) 33) := ⟨_, rfl⟩
    have hs8 : g < w8.heap.size := by rw [hw8, hg]; simp
    rw [← hw8] at hL0 hB8
    rw [← hg] at hL0
    have hgw : w.heap.size ≤ g := by rw [hg]; exact hB7.size
    have nq : Q ≠ g := by omega
    have nX : X ≠ g := by omega
    have nY : Y ≠ g := by omega
    have c0 := (hB8.cell (p := ⟨Q, 0, none⟩) lq7).trans q0
    have c1 := (hB8.cell (p := ⟨Q, 1, none⟩) lq7).trans q1
    have c2 := (hB8.cell (p := ⟨X, 0, none⟩) lx7).trans p0
    have c3 := (hB8.cell (p := ⟨X, 1, none⟩) lx7).trans p1
    have c4 := (hB8.cell (p := ⟨Y, 0, none⟩) ly7).trans p2
    have c5 := (hB8.cell (p := ⟨Y, 1, none⟩) ly7).trans p3
    have lx8 := Nat.lt_of_lt_of_le lx7 hB8.size
    have ly8 := Nat.lt_of_lt_of_le ly7 hB8.size
    have kB := hB7.trans hB8
    have hgH := Lib.hid (And.intro hg hw8)
    have P1 := fun f w => put_sgn _ 1 sgn_pos g f s e S E w hGH.out.s hGH.out.e (GoodN.w hGH.out.gs) hGH.out.ge
    obtain ⟨T1, hT1⟩ := good_prod nx nu (TameN.goods hT).1 (TameN.goods hT').1
    obtain ⟨T2, hT2⟩ := good_prod nx nv (TameN.goods hT).1 (TameN.goods hT').2
    obtain ⟨T3, hT3⟩ := good_prod ny nu (TameN.goods hT).2 (TameN.goods hT').1
    obtain ⟨T4, hT4⟩ := good_prod ny nv (TameN.goods hT).2 (TameN.goods hT').2
    have hsumT : (T1 + T2 + T3 + T4) * 2 ^ Flt.uE = (H + L) * (H' + L') := by
      rw [Int.add_mul, Int.add_mul, Int.add_mul, ← hT1, ← hT2, ← hT3, ← hT4, Int.add_mul, Int.mul_add, Int.mul_add]
      omega
    have P2 := fun f w => times_sgn _ (-1) sgn_neg g f x y u v H L H' L' T1 T2 T3 T4 w nx ny nu nv (TameN.goods hT).1 (TameN.goods hT).2 (TameN.goods hT').1 (TameN.goods hT').2 hT1 hT2 hT3 hT4
    clear hT1 hT2 hT3 hT4
    clear hg hw8 q0 q1 p0 p1 p2 p3 hB7 hB8 lq7 lx7 ly7
    go_upto_region 6 with fail
    rw [← hgH.out.1, ← hgH.out.2]
    go_wp2_with fail
    refine (P1 (fun _ => 0) _ hL0 hs8 (fun _ => by simp)).mono ?_; rintro r w9 ⟨rfl, f1, l1, v1, d1, e1⟩
    have r1 : ∀ j, (f1 j).natAbs ≤ 6442450944 := fun j => by have := d1 j; simpa using this
    have s9 := e1.below.size
    have a2 := (e1.cell (p := ⟨X, 0, none⟩) lx8 nX).trans c2
    have a3 := (e1.cell (p := ⟨X, 1, none⟩) lx8 nX).trans c3
    have a4 := (e1.cell (p := ⟨Y, 0, none⟩) ly8 nY).trans c4
    have a5 := (e1.cell (p := ⟨Y, 1, none⟩) ly8 nY).trans c5
    go_wp2_with fail
    refine (P2 f1 _ l1 (Nat.lt_of_lt_of_le hs8 s9) (fun j => by have := r1 j; omega)).mono ?_; rintro r w11 ⟨rfl, f3, l3, v3, d3, e2⟩
    have r3 : ∀ j, (f3 j).natAbs ≤ 2305843009213693952 := fun j => by have := d3 j; have := r1 j; omega
    have e13 := e1.trans e2
    have s11 := Nat.lt_of_lt_of_le hs8 e13.below.size
    have m2 := (e13.cell (p := ⟨X, 0, none⟩) lx8 nX).trans c2
    have m4 := (e13.cell (p := ⟨Y, 0, none⟩) ly8 nY).trans c4
    have lX := Nat.lt_of_lt_of_le lx8 e13.below.size
    have lY := Nat.lt_of_lt_of_le ly8 e13.below.size
    obtain ⟨D, hD⟩ : ∃ D, D = S + E - (T1 + T2 + T3 + T4) := ⟨_, rfl⟩
    have hDu : D * 2 ^ Flt.uE = (S + E) * 2 ^ Flt.uE - (H + L) * (H' + L') := by rw [hD, Int.sub_mul, hsumT]
    have hval : lval f3 = D * 2 ^ 126 := by
      rw [v3, v1, lval_zero, Int.zero_add, Int.one_mul, ← Int.add_mul, hD]
      congr 1
      omega
    clear hsumT
    have hS := fun w hw hg => size_any g f3 w hw hg r3 (by rw [hval]; exact muls_big hT hT' hE hDu)
    rw [hval] at hS
    have t12 := tops_of x u H L H' L' nx nu hT hT'
    have hfin := fun k k1 k2 => Lib.hid (muls_fin (k := k) (k1 := k1) (k2 := k2) hT hT' hE hDu)
    have kB2 : Bel w w11 := Below.trans kB (Below.mono e13.below hgw)
    have kept : ∀ z : World, Bel w11 z → (z.cell? ⟨X, 0, none⟩ = some (.float .f64 x) ∧ z.cell? ⟨Y, 0, none⟩ = some (.float .f64 u) ∧ LongAt z g f3 ∧ g < z.heap.size ∧ Bel w11 z) := fun _ kb =>
      ⟨(kb.cell (p := ⟨X, 0, none⟩) lX).trans m2, (kb.cell (p := ⟨Y, 0, none⟩) lY).trans m4, l3.bel kb s11, Nat.lt_of_lt_of_le s11 kb.size, kb⟩
    go_upto_region 8 with fail
    have hk0 := kept w11.drew (Bel.refl w11).drew
    clear hL0 hs8 l1 v1 v3 d1 d3 e1 e2 r1 e13 s9 a2 a3 a4 a5 c0 c1 c2 c3 c4 c5 P1 P2 hz kB hD hDu
    go_region_held3 (fun z => z.cell? ⟨X, 0, none⟩ = some (.float .f64 x) ∧ z.cell? ⟨Y, 0, none⟩ = some (.float .f64 u) ∧ LongAt z g f3 ∧ g < z.heap.size ∧ Bel w11 z) (first | exact hk0 | assumption | exact kept _ ((‹_ ∧ _ ∧ LongAt _ g f3 ∧ _ ∧ Bel w11 _›).2.2.2.2.trans kg))
      (first
        | (go_at_call 18; refine (hS _ (‹_ ∧ _ ∧ LongAt _ g f3 ∧ _ ∧ Bel w11 _›).2.2.1 (‹_ ∧ _ ∧ LongAt _ g f3 ∧ _ ∧ Bel w11 _›).2.2.2.1).mono ?_; rintro r w12 ⟨k, rfl, hk, hk1, hk2, kg⟩)
        | (go_at_call 19; refine (t12 _ _ (by first | exact Or.inl rfl | exact Or.inr rfl)).mono ?_; rintro r w12 ⟨k1, rfl, hk3, hk4, hk5, hk6, rfl⟩))
    rename_i ka ha4 ha5 ha6 ha3 hHd
    have hle := (hfin k ka k1).out (ha3 trivial) (hk4 trivial) hk
    obtain ⟨M, hM⟩ : ∃ M, M = ka + k1 := ⟨_, rfl⟩
    have hwr0 : IntKind.i64.wrap (ka + k1) = M := by rw [IntKind.wrap_i64, hM]; omega
    rw [hwr0]
    rw [← hM] at hle
    have hM1 : -2400 ≤ M ∧ M ≤ 400 := by omega
    have hwr : IntKind.i64.wrap (M - 97) = M - 97 := by rw [IntKind.wrap_i64]; omega
    rw [hwr]
    have hle2 : k ≤ if -1200 < M - 97 then M - 97 else -1200 := by split <;> omega
    obtain ⟨Z, hZ⟩ : ∃ Z, Z = if -1200 < M - 97 then M - 97 else -1200 := ⟨_, rfl⟩
    rw [← hZ] at hle2 ⊢
    rw [decide_eq_true hle2]
    clear hM hwr0 hZ hle hle2 hM1 hwr hfin
    go_wp2
    go_ret
    exact ⟨rfl, kB2.trans hHd.2.2.2.2⟩
end Go.Proofs.Ytfpneojhhkfhpaa

/- DDFloats' walk; what New, Float and the wakes answer are its hypotheses. -/
namespace Go.Proofs.Ytfpneojhhkfhpaa
open Go.RowKit

set_option maxHeartbeats 4000000 in
theorem floats0 (hnew : NewSaid) (hfl : FloatSaid) (hwk : WakesSaid) (a0 a1 : Int) (w : World) :
    Calls Try.prog 7 #[.agg #[.int .i64 a0, .int .i64 a1]] w fun e w' => e = .returned (.bool true) ∧ Bel w w' := by
  have sf := run_store_float Try.prog
  go_enter Try.func7, Try.ntmps7
  have hT0 := fun w => tame_p hnew a0 a1 w
  have hB1 := (Bel.refl w).alloc (Obj.cells #[Value.int IntKind.i64 a0, Value.int IntKind.i64 a1] 38)
  go_wp2_with fail
  refine (hT0 _).mono ?_; rintro r w2 ⟨x, y, rfl, ⟨H, L, nx, ny, hT, _⟩, g2⟩
  have hB2 := hB1.trans g2
  have hF := fun w => hfl x y H L w nx ny hT
  go_upto_region 2 with fail
  obtain ⟨w3, hw3⟩ : ∃ w3, w3 = w2.alloc (.cells #[.float .f64 x, .float .f64 y] 25) := ⟨_, rfl⟩
  have hB3 : Bel w2 w3 := by rw [hw3]; exact (Bel.refl w2).alloc _
  have hT3 : Two w3 w2.heap.size x y := by rw [hw3]; exact Two.new w2 x y _
  have hq3 : w2.heap.size < w3.heap.size := by rw [hw3]; simp
  rw [← hw3]
  obtain ⟨Q, hQ⟩ : ∃ Q, Q = w2.heap.size := ⟨_, rfl⟩
  rw [← hQ] at hT3 hq3 ⊢
  clear hw3 hQ
  have kept : ∀ z : World, Bel w3 z → (z.cell? ⟨Q, 0, none⟩ = some (.float .f64 x) ∧ z.cell? ⟨Q, 1, none⟩ = some (.float .f64 y) ∧ Q ≤ Q ∧ Bel w3 z) := fun _ kb =>
    ⟨(kb.cell (p := ⟨Q, 0, none⟩) hq3).trans hT3.c0, (kb.cell (p := ⟨Q, 1, none⟩) hq3).trans hT3.c1, Nat.le_refl _, kb⟩
  have hk0 := kept w3.drew (Bel.refl w3).drew
  have hB := hB2.trans hB3
  clear hT3 hB1 hB2 hT0
  go_region_held3 (fun z => z.cell? ⟨Q, 0, none⟩ = some (.float .f64 x) ∧ z.cell? ⟨Q, 1, none⟩ = some (.float .f64 y) ∧ Q ≤ Q ∧ Bel w3 z) (first | exact hk0 | assumption | exact kept _ ((‹_ ∧ _ ∧ Q ≤ Q ∧ Bel w3 _›).2.2.2.trans kg))
    (first
      | (go_at_call 10; refine (hwk _).mono ?_; rintro r w4 ⟨rfl, kg⟩)
      | (go_at_call 24; refine (hF _).mono ?_; rintro r w4 ⟨z, rfl, nz, kg⟩; have oz := ord_same nz nx))
  have hHd := ‹_ ∧ _ ∧ Q ≤ Q ∧ Bel w3 _›
  go_wp2
  go_ret
  exact ⟨rfl, hB.trans hHd.2.2.2⟩
end Go.Proofs.Ytfpneojhhkfhpaa

/- A region that draws its order, of calls, reads and new blocks of two floats: by what each operation leaves. -/
namespace Go.Proofs.Ytfpneojhhkfhpaa
open Go.RowKit

/-- a new block: the operation that makes it, its temporary, the operation that fills it, the temporary that is stored and the operation that leaves it -/
structure Blk where
  a : Nat
  p : Nat
  s : Nat
  v : Nat
  vo : Nat
/-- what operations leave: the operation, its temporary, what holds of the value -/
abbrev Leaves := List (Nat × Nat × (Value → Prop))
def GV (ps : Leaves) (D : Nat → Bool) (f : Nat → Value) : Prop := ∀ c ∈ ps, D c.1 = true → c.2.2 (f c.2.1)
structure RegI (ps : Leaves) (bs : List Blk) (w1 : World) (D : Nat → Bool) (f : Nat → Value) (w : World) : Prop where
  bel : Bel w1 w
  gv : GV ps D f
  bk : ∀ b ∈ bs, D b.a = true → BlkV w1 w (D b.s = true) (f b.p) (f b.v)
  ne : ∀ b ∈ bs, ∀ b' ∈ bs, b.a ≠ b'.a → D b.a = true → D b'.a = true → f b.p ≠ f b'.p
  o : ∀ b ∈ bs, D b.s = true → D b.a = true ∧ D b.vo = true
/-- operations and temporaries are apart: closed checks -/
structure Apart (ps : Leaves) (bs : List Blk) : Prop where
  n1 : (ps.map (·.1)).Nodup
  n2 : (ps.map (·.2.1)).Nodup
  n3 : (bs.map (·.a)).Nodup
  n4 : (bs.map (·.p)).Nodup
  n5 : (bs.map (·.s)).Nodup
  x : ∀ c ∈ ps, ∀ b ∈ bs, c.1 ≠ b.a ∧ c.1 ≠ b.s ∧ c.2.1 ≠ b.p
  y : ∀ b ∈ bs, ∀ b' ∈ bs, b.a ≠ b'.s
  z : ∀ b ∈ bs, ∃ φ, (b.vo, b.v, φ) ∈ ps
section
variable {ps : Leaves} {bs : List Blk} {w1 : World} {D : Nat → Bool} {f : Nat → Value} {w : World}
theorem Apart.one (h : Apart ps bs) {c c' : Nat × Nat × (Value → Prop)} (hc : c ∈ ps) (hc' : c' ∈ ps) (e : c.1 = c'.1) : c = c' := nodup_one h.n1 c hc c' hc' e
theorem Apart.tmp (h : Apart ps bs) {c c' : Nat × Nat × (Value → Prop)} (hc : c ∈ ps) (hc' : c' ∈ ps) (e : c.2.1 = c'.2.1) : c = c' := nodup_one h.n2 c hc c' hc' e
theorem RegI.value (hA : Apart ps bs) (h : RegI ps bs w1 D f w) {i t : Nat} {φ : Value → Prop} (hm : (i, t, φ) ∈ ps) (hD : D i = false) {v : Value} (hv : φ v) {w' : World} (g : Bel w w') : RegI ps bs w1 (fun k => D k || k == i) (tset f t v) w' := by
  have na : ∀ b ∈ bs, b.a ≠ i := fun b hb e => (hA.x _ hm b hb).1 e.symm
  have ns : ∀ b ∈ bs, b.s ≠ i := fun b hb e => (hA.x _ hm b hb).2.1 e.symm
  have np : ∀ b ∈ bs, b.p ≠ t := fun b hb e => (hA.x _ hm b hb).2.2 e.symm
  refine ⟨h.bel.trans g, fun c hc hd => ?_, fun b hb hd => ?_, fun b hb b' hb' hne hd hd' => ?_, fun b hb hd => (h.o b hb (dn (ns b hb) hd)).imp dup dup⟩
  · by_cases e : c.1 = i
    · have := hA.one hc hm e
      subst this
      rw [tset_self]
      exact hv
    · rw [tset_ne _ _ (fun e2 => e (by rw [hA.tmp hc hm e2]))]
      exact h.gv c hc (dn e hd)
  · have hb1 := (h.bk b hb (dn (na b hb) hd)).bel g
    rw [tset_ne _ _ (np b hb)]
    by_cases e : b.v = t
    · obtain ⟨φ', hz⟩ := hA.z b hb
      have e2 := hA.tmp hz hm e
      have e3 : b.vo = i := congrArg (·.1) e2
      have hns : ¬ D b.s = true := fun hs => by
        have := (h.o b hb hs).2
        rw [e3, hD] at this
        exact Bool.false_ne_true this
      exact (hb1.turn hns).imp (dn (ns b hb))
    · rw [tset_ne _ _ e]
      exact hb1.imp (dn (ns b hb))
  · rw [tset_ne _ _ (np b hb), tset_ne _ _ (np b' hb')]
    exact h.ne b hb b' hb' hne (dn (na b hb) hd) (dn (na b' hb') hd')
theorem RegI.alloc (hA : Apart ps bs) (h : RegI ps bs w1 D f w) {b : Blk} (hb : b ∈ bs) (hD : D b.a = false) (ty : TypeId) : RegI ps bs w1 (fun k => D k || k == b.a) (tset f b.p (.pointer (some ⟨w.heap.size, 0, none⟩))) (w.alloc (.cells #[.float .f64 0, .float .f64 0] ty)) := by
  have hns : ¬ D b.s = true := fun hs => by
    have := (h.o b hb hs).1
    rw [hD] at this
    exact Bool.false_ne_true this
  have nv : ∀ b' ∈ bs, b'.v ≠ b.p := fun b' hb' e => by
    obtain ⟨φ', hz⟩ := hA.z b' hb'
    exact (hA.x _ hz b hb).2.2 e
  have ns : ∀ b' ∈ bs, b'.s ≠ b.a := fun b' hb' e => hA.y b hb b' hb' e.symm
  have np : ∀ b' ∈ bs, b'.a ≠ b.a → b'.p ≠ b.p := fun b' hb' e e2 => e (by rw [nodup_one hA.n4 b' hb' b hb e2])
  have g : Bel w (w.alloc (.cells #[.float .f64 0, .float .f64 0] ty)) := (Bel.refl w).alloc _
  refine ⟨h.bel.trans g, fun c hc hd => ?_, fun b' hb' hd => ?_, fun b' hb' b'' hb'' hne hd hd' => ?_, fun b' hb' hd => (h.o b' hb' (dn (ns b' hb') hd)).imp dup dup⟩
  · rw [tset_ne _ _ (hA.x c hc b hb).2.2]
    exact h.gv c hc (dn (hA.x c hc b hb).1 hd)
  · rw [tset_ne _ _ (nv b' hb')]
    by_cases e : b'.a = b.a
    · have := nodup_one hA.n3 b' hb' b hb e
      subst this
      rw [tset_self]
      exact ⟨w.heap.size, 0, 0, rfl, h.bel.size, Two.new .., fun hs => absurd (dn (ns b' hb') hs) hns⟩
    · rw [tset_ne _ _ (np b' hb' e)]
      exact ((h.bk b' hb' (dn e hd)).bel g).imp (dn (ns b' hb'))
  · by_cases e : b'.a = b.a
    · have := nodup_one hA.n3 b' hb' b hb e
      subst this
      have e2 : b''.a ≠ b'.a := fun e2 => hne e2.symm
      rw [tset_self, tset_ne _ _ (np b'' hb'' e2)]
      exact (h.bk b'' hb'' (dn e2 hd')).fresh.symm
    · by_cases e2 : b''.a = b.a
      · have := nodup_one hA.n3 b'' hb'' b hb e2
        subst this
        rw [tset_self, tset_ne _ _ (np b' hb' e)]
        exact (h.bk b' hb' (dn e hd)).fresh
      · rw [tset_ne _ _ (np b' hb' e), tset_ne _ _ (np b'' hb'' e2)]
        exact h.ne b' hb' b'' hb'' hne (dn e hd) (dn e2 hd')
theorem RegI.store (hA : Apart ps bs) (h : RegI ps bs w1 D f w) {b : Blk} (hb : b ∈ bs) (ha : D b.a = true) (hvo : D b.vo = true) {X u v α β : Nat} (hX : f b.p = .pointer (some ⟨X, 0, none⟩)) (hle : w1.heap.size ≤ X) (hT : Two w X α β) (hv : f b.v = .agg #[.float .f64 u, .float .f64 v]) :
    RegI ps bs w1 (fun k => D k || k == b.s) f ((w.setCell ⟨X, 0, none⟩ (.float .f64 u)).setCell ⟨X, 1, none⟩ (.float .f64 v)) := by
  have na : ∀ b' ∈ bs, b'.a ≠ b.s := fun b' hb' => hA.y b' hb' b hb
  refine ⟨(h.bel.setCell (p := ⟨X, 0, none⟩) hle _).setCell (p := ⟨X, 1, none⟩) hle _, fun c hc hd => h.gv c hc (dn (hA.x c hc b hb).2.1 hd), fun b' hb' hd => ?_, fun b' hb' b'' hb'' hne hd hd' => h.ne b' hb' b'' hb'' hne (dn (na b' hb') hd) (dn (na b'' hb'') hd'), fun b' hb' hd => ?_⟩
  · by_cases e : b'.a = b.a
    · have := nodup_one hA.n3 b' hb' b hb e
      subst this
      exact ⟨X, u, v, hX, hle, hT.set u v, fun _ => hv⟩
    · have e2 : b'.s ≠ b.s := fun e2 => e (by rw [nodup_one hA.n5 b' hb' b hb e2])
      exact ((h.bk b' hb' (dn (na b' hb') hd)).so (fun e3 => h.ne b' hb' b hb e (dn (na b' hb') hd) ha (e3.trans hX.symm)) _ _).imp (dn e2)
  · by_cases e : b'.s = b.s
    · have := nodup_one hA.n5 b' hb' b hb e
      subst this
      exact ⟨dup ha, dup hvo⟩
    · exact (h.o b' hb' (dn e hd)).imp dup dup
end
/-- one operation, by its kind -/
inductive Does (P : Program) (ops : Array Oper) (Q : Exit → Act → World → Prop) (pre : Nat → List Nat) (act : (Nat → Value) → Act) (ps : Leaves) (bs : List Blk) (w1 : World) (i : Nat) : Prop where
  | value (t : Nat) (φ : Value → Prop) (hm : (i, t, φ) ∈ ps) (h : ∀ f w, Bel w1 w → (∀ c ∈ ps, c.1 ∈ pre i → c.2.2 (f c.2.1)) → wpOp P ops Q i (fun a' w' => ∃ v, a' = act (tset f t v) ∧ φ v ∧ Bel w w') (act f) w) : Does P ops Q pre act ps bs w1 i
  | alloc (b : Blk) (hb : b ∈ bs) (hi : i = b.a) (ty : TypeId) (h : ∀ f w K, K (act (tset f b.p (.pointer (some ⟨w.heap.size, 0, none⟩)))) (w.alloc (.cells #[.float .f64 0, .float .f64 0] ty)) → wpOp P ops Q i K (act f) w) : Does P ops Q pre act ps bs w1 i
  | store (b : Blk) (hb : b ∈ bs) (hi : i = b.s) (ha : b.a ∈ pre i) (hvo : b.vo ∈ pre i) (hφ : ∀ φ, (b.vo, b.v, φ) ∈ ps → ∀ x, φ x → ∃ u v : Nat, x = .agg #[.float .f64 u, .float .f64 v])
      (h : ∀ f w K X u v α β, f b.p = .pointer (some ⟨X, 0, none⟩) → f b.v = .agg #[.float .f64 u, .float .f64 v] → Two w X α β → K (act f) ((w.setCell ⟨X, 0, none⟩ (.float .f64 u)).setCell ⟨X, 1, none⟩ (.float .f64 v)) → wpOp P ops Q i K (act f) w) : Does P ops Q pre act ps bs w1 i
/-- what stands in the new blocks in the end -/
def Filled (bs : List Blk) (w1 w : World) (f : Nat → Value) : Prop := (∀ b ∈ bs, ∃ X α β : Nat, f b.p = .pointer (some ⟨X, 0, none⟩) ∧ w1.heap.size ≤ X ∧ Two w X α β ∧ f b.v = .agg #[.float .f64 α, .float .f64 β]) ∧ ∀ b ∈ bs, ∀ b' ∈ bs, b.a ≠ b'.a → f b.p ≠ f b'.p
theorem wp_region_gv {P : Program} {ops : Array Oper} {Q : Exit → Act → World → Prop} {pre : Nat → List Nat} {id : Nat} {w1 : World} (act : (Nat → Value) → Act) (f0 : Nat → Value) (hm : P.follows .mixedOrders = true) (hc : chkN pre ops = true) (ps : Leaves) (bs : List Blk) (hA : Apart ps bs)
    (hs : ∀ i, i < ops.size → Does P ops Q pre act ps bs w1 i) (hsz : (∀ c ∈ ps, c.1 < ops.size) ∧ ∀ b ∈ bs, b.a < ops.size ∧ b.s < ops.size)
    (hQ : ∀ f w, Bel w1 w → (∀ c ∈ ps, c.2.2 (f c.2.1)) → Filled bs w1 w f → Q .normal (act f) w) : (Code.region id ops true).wp P Q (act f0) w1 := by
  refine wp_region_set (pre := pre) hm hc (fun D a w => ∃ f, a = act f ∧ RegI ps bs w1 D f w) ⟨f0, rfl, (Bel.refl w1).drew, fun _ _ h => absurd h Bool.false_ne_true, fun _ _ h => absurd h Bool.false_ne_true, fun _ _ _ _ _ h => absurd h Bool.false_ne_true, fun _ _ h => absurd h Bool.false_ne_true⟩ ?_ ?_
  · rintro D a w i hi hD hp ⟨f, rfl, hI⟩
    cases hs i hi with
    | value t φ hmem h =>
      refine wpOp_mono ?_ (h f w hI.bel fun c hc hj => hI.gv c hc (hp _ hj))
      rintro a' w' ⟨v, rfl, hv, g⟩
      exact ⟨_, rfl, hI.value hA hmem hD hv g⟩
    | alloc b hb hi' ty h =>
      subst hi'
      exact h f w _ ⟨_, rfl, hI.alloc hA hb hD ty⟩
    | store b hb hi' ha hvo hφ h =>
      have h1 := hp _ ha
      have h2 := hp _ hvo
      subst hi'
      obtain ⟨φ, hz⟩ := hA.z b hb
      obtain ⟨u, v, hv⟩ := hφ φ hz _ (hI.gv _ hz h2)
      obtain ⟨X, α, β, r1, r2, r3, _⟩ := hI.bk b hb h1
      exact h f w _ X u v α β r1 hv r3 ⟨_, rfl, hI.store hA hb h1 h2 r1 r2 r3 hv⟩
  · rintro D a w hD ⟨f, rfl, hI⟩
    refine hQ f w hI.bel (fun c hc => hI.gv c hc (hD _ (hsz.1 c hc))) ⟨fun b hb => ?_, fun b hb b' hb' hne => hI.ne b hb b' hb' hne (hD _ (hsz.2 b hb).1) (hD _ (hsz.2 b' hb').1)⟩
    obtain ⟨X, α, β, r1, r2, r3, r4⟩ := hI.bk b hb (hD _ (hsz.2 b hb).1)
    exact ⟨X, α, β, r1, r2, r3, r4 (hD _ (hsz.2 b hb).2)⟩
end Go.Proofs.Ytfpneojhhkfhpaa

/- Quotients of floats in the model: how near they are. No program is named here. -/
namespace Flt
open Ieee

theorem nat_mul_sub (D n : Nat) (hn : 0 < n) : ((2 * (D / n) + (D % n != 0).toNat : Nat) * (n : Int) - 2 * (D : Int)).natAbs < n := by
  have h1 := Nat.div_add_mod D n
  have h2 := Nat.mod_lt D hn
  obtain ⟨q, hq⟩ : ∃ q, q = D / n := ⟨_, rfl⟩
  obtain ⟨r, hr⟩ : ∃ r, r = D % n := ⟨_, rfl⟩
  rw [← hq, ← hr] at h1
  rw [← hr] at h2
  rw [← hq, ← hr]
  have hD : (D : Int) = (n : Int) * (q : Int) + (r : Int) := by rw [← h1, Int.natCast_add, Int.natCast_mul]
  by_cases h0 : r = 0
  · subst h0
    have e : ((0 : Nat) != 0).toNat = 0 := rfl
    rw [e, hD]
    have : ((2 * q + 0 : Nat) : Int) * (n : Int) - 2 * ((n : Int) * (q : Int) + ((0 : Nat) : Int)) = 0 := by
      rw [Nat.add_zero, Int.natCast_mul, Int.mul_comm (n : Int)]
      have : ((2 : Nat) : Int) * (q : Int) * (n : Int) = 2 * ((q : Int) * (n : Int)) := Int.mul_assoc _ _ _
      rw [this]; omega
    rw [this]; simpa using hn
  · have e : (r != 0).toNat = 1 := by
      have : (r != 0) = true := by rw [bne_iff_ne]; exact h0
      rw [this]; rfl
    rw [e, hD]
    have : ((2 * q + 1 : Nat) : Int) * (n : Int) - 2 * ((n : Int) * (q : Int) + (r : Int)) = (n : Int) - 2 * (r : Int) := by
      rw [Int.natCast_add, Int.natCast_mul, Int.add_mul, Int.mul_comm (n : Int)]
      have h3 : ((2 : Nat) : Int) * (q : Int) * (n : Int) = 2 * ((q : Int) * (n : Int)) := Int.mul_assoc _ _ _
      have h4 : ((1 : Nat) : Int) * (n : Int) = n := Int.one_mul _
      rw [h3, h4]; omega
    rw [this]; omega
theorem dividend_ge {m n more : Nat} (hm : m ≠ 0) (h : more = 54 + n.log2 - m.log2) : 2 ^ 53 * n ≤ m * 2 ^ more := by
  have h1 := Nat.log2_self_le hm
  have h2 := @Nat.lt_log2_self n
  have h3 : 2 ^ m.log2 * 2 ^ more ≤ m * 2 ^ more := Nat.mul_le_mul_right _ h1
  rw [← Nat.pow_add] at h3
  have h4 : 2 ^ (53 + (n.log2 + 1)) ≤ 2 ^ (m.log2 + more) := two_le (by omega)
  rw [Nat.pow_add] at h4
  have h5 : 2 ^ 53 * n ≤ 2 ^ 53 * 2 ^ (n.log2 + 1) := Nat.mul_le_mul_left _ (Nat.le_of_lt h2)
  omega
theorem signed_xor (s t : Bool) (M n a b : Nat) : signed (s ^^ t) M a * signed t n b = signed s (M * n) (a + b) := by
  rw [signed_mul]
  have : (s ^^ t ^^ t) = s := by cases s <;> cases t <;> rfl
  rw [this]
theorem signed_sub (s : Bool) (x y u : Nat) : (signed s x u - signed s y u).natAbs = ((x : Int) - (y : Int)).natAbs * 2 ^ u := by
  rw [signed_eq, signed_eq]
  have h : ∀ z : Int, (z * 2 ^ u).natAbs = z.natAbs * 2 ^ u := fun z => shift_abs z u
  cases s
  · show ((x : Int) * 2 ^ u - (y : Int) * 2 ^ u).natAbs = _
    rw [← Int.sub_mul, h]
  · show (-((x : Int) * 2 ^ u) - -((y : Int) * 2 ^ u)).natAbs = _
    have : -((x : Int) * 2 ^ u) - -((y : Int) * 2 ^ u) = -(((x : Int) - (y : Int)) * 2 ^ u) := by rw [Int.sub_mul]; omega
    rw [this, Int.natAbs_neg, h]

theorem fin_arith {X Y A : Int} {N K : Nat} (hK : 1 ≤ K) (k1 : X.natAbs * (2 * K) ≤ Y.natAbs) (hd : (Y - A).natAbs < N) (hb : N * (4 * K) ≤ A.natAbs) : (X + (Y - A)).natAbs * K ≤ A.natAbs := by
  have h1 : (X + (Y - A)).natAbs * K ≤ (X.natAbs + (Y - A).natAbs) * K := Nat.mul_le_mul_right K (Int.natAbs_add_le _ _)
  have h2 : Y.natAbs ≤ A.natAbs + (Y - A).natAbs := by omega
  have h3 : (Y - A).natAbs * K ≤ N * K := Nat.mul_le_mul_right K (Nat.le_of_lt hd)
  have h4 : (Y - A).natAbs * 1 ≤ (Y - A).natAbs * K := Nat.mul_le_mul_left _ hK
  rw [Nat.add_mul] at h1
  have e1 : X.natAbs * (2 * K) = 2 * (X.natAbs * K) := by ac_rfl
  have e2 : N * (4 * K) = 4 * (N * K) := by ac_rfl
  rw [e1] at k1
  rw [e2] at hb
  obtain ⟨p, hp⟩ : ∃ p, p = X.natAbs * K := ⟨_, rfl⟩
  obtain ⟨q, hq⟩ : ∃ q, q = (Y - A).natAbs * K := ⟨_, rfl⟩
  obtain ⟨r, hr⟩ : ∃ r, r = N * K := ⟨_, rfl⟩
  rw [← hp, ← hq] at h1
  rw [← hq] at h3 h4
  rw [← hr] at h3 hb
  rw [← hp] at k1
  omega
/-- the quotient: of a number by one that isn't 0, where neither is too small or too great for the other -/
theorem div_num {x y : Nat} {a b : Int} {u U v V : Nat} (hx : Num x a) (hy : Num y b) (ha : a = 0 ∨ (2 ^ u ≤ a.natAbs ∧ a.natAbs < 2 ^ U)) (hb : 2 ^ v ≤ b.natAbs ∧ b.natAbs < 2 ^ V) (h1 : V ≤ u + 900) (h2 : U ≤ v + 1000) :
    ∃ r z, double.div x y = some r ∧ Num r z ∧ (z * b - a * 2 ^ uE).natAbs * 2 ^ 52 ≤ a.natAbs * 2 ^ uE := by
  obtain ⟨s, m, i, hr, i1, i2, i3, rfl⟩ := hx.ex
  obtain ⟨t, n, j, hr', j1, j2, j3, rfl⟩ := hy.ex
  have hvb : (sval t n j).natAbs = n * 2 ^ (j + 1074).toNat := signed_abs _ _ _
  have hva : (sval s m i).natAbs = m * 2 ^ (i + 1074).toNat := signed_abs _ _ _
  have hn0 : n ≠ 0 := by
    intro hc
    rw [hvb, hc, Nat.zero_mul] at hb
    exact absurd hb.1 (Nat.not_le_of_lt (two_posN v))
  obtain ⟨more, hmore⟩ : ∃ more, more = 54 + n.log2 - m.log2 := ⟨_, rfl⟩
  obtain ⟨D, hD⟩ : ∃ D, D = m * 2 ^ more := ⟨_, rfl⟩
  obtain ⟨M, hM⟩ : ∃ M, M = 2 * (D / n) + (D % n != 0).toNat := ⟨_, rfl⟩
  obtain ⟨P, hP⟩ : ∃ P : Int, P = i - j - more - 1 := ⟨_, rfl⟩
  have hdiv : double.div x y = some (double.nearest (s ^^ t) M P) := by
    unfold Format.div
    rw [hr, hr', fraction_eq]
    show ((if n = 0 then _ else some (Datum.number (s ^^ t) (2 * ((m <<< (54 + n.log2 - m.log2)) / n) + ((m <<< (54 + n.log2 - m.log2)) % n != 0).toNat) (i - j - ((54 + n.log2 - m.log2 : Nat) : Int) - 1))) : Option Datum).map double.write = _
    rw [if_neg hn0, ← hmore, Nat.shiftLeft_eq, ← hD, ← hM, ← hP]
    rfl
  rw [hdiv]
  by_cases hm0 : m = 0
  · have hM0 : M = 0 := by rw [hM, hD, hm0, Nat.zero_mul, Nat.zero_div, Nat.zero_mod]; rfl
    have hz : sval s m i = 0 := by
      unfold sval
      rw [hm0, signed_eq]; cases s <;> simp
    have hN := nearest_rn (s ^^ t) M P (Or.inl hM0) (by rw [hM0, Nat.zero_mul]; exact two_posN top)
    have hz2 : sval (s ^^ t) M P = 0 := by
      unfold sval
      rw [hM0, signed_eq]; cases (s ^^ t) <;> simp
    rw [hz2, rn_zero] at hN
    refine ⟨_, 0, rfl, hN, ?_⟩
    rw [hz, Int.zero_mul, Int.zero_mul]; simp
  · have ha' : 2 ^ u ≤ m * 2 ^ (i + 1074).toNat ∧ m * 2 ^ (i + 1074).toNat < 2 ^ U := by
      rcases ha with h | h
      · exfalso
        rw [h] at hva
        have := Nat.mul_pos (Nat.pos_of_ne_zero hm0) (two_posN (i + 1074).toNat)
        omega
      · rw [hva] at h; exact h
    have hb' : 2 ^ v ≤ n * 2 ^ (j + 1074).toNat ∧ n * 2 ^ (j + 1074).toNat < 2 ^ V := by rw [hvb] at hb; exact hb
    -- the places
    have p1 : u < 53 + (i + 1074).toNat := by
      have : m * 2 ^ (i + 1074).toNat < 2 ^ 53 * 2 ^ (i + 1074).toNat := Nat.mul_lt_mul_of_pos_right i3 (two_posN _)
      rw [← Nat.pow_add] at this
      exact two_lt (Nat.lt_of_le_of_lt ha'.1 this)
    have p2 : (j + 1074).toNat < V := by
      have : 1 * 2 ^ (j + 1074).toNat ≤ n * 2 ^ (j + 1074).toNat := Nat.mul_le_mul_right _ (Nat.pos_of_ne_zero hn0)
      rw [Nat.one_mul] at this
      exact two_lt (Nat.lt_of_le_of_lt this hb'.2)
    have hln : n.log2 ≤ 52 := by
      have := Nat.log2_self_le hn0
      have := two_lt (Nat.lt_of_le_of_lt this j3)
      omega
    have hP0 : -1074 ≤ P := by omega
    -- the exact product
    obtain ⟨E, hE⟩ : ∃ E : Nat, E = (P + 1074).toNat + (j + 1074).toNat := ⟨_, rfl⟩
    have hge := dividend_ge (n := n) hm0 hmore
    rw [← hD] at hge
    have hVb : sval (s ^^ t) M P * sval t n j = signed s (M * n) E := by
      unfold sval
      rw [signed_xor, hE]
    have hA : sval s m i * 2 ^ uE = signed s (2 * D) E := by
      have hu : uE = 1074 := rfl
      have e1 : (i + 1074).toNat + uE = (more + 1) + E := by omega
      unfold sval
      rw [← signed_scale, e1, hD, signed_eq, signed_eq]
      have e2 : ((2 * (m * 2 ^ more) : Nat) : Int) * 2 ^ E = (m : Int) * 2 ^ (more + 1 + E) := by
        rw [Int.natCast_mul, Int.natCast_mul, Int.natCast_pow, Int.pow_add, Int.pow_succ]
        show (2 : Int) * ((m : Int) * 2 ^ more) * 2 ^ E = (m : Int) * (2 ^ more * 2 * 2 ^ E)
        ac_rfl
      rw [e2]
    have hdiff : (sval (s ^^ t) M P * sval t n j - sval s m i * 2 ^ uE).natAbs < n * 2 ^ E := by
      rw [hVb, hA, signed_sub]
      have h3 := nat_mul_sub D n (Nat.pos_of_ne_zero hn0)
      rw [← hM] at h3
      have h4 : ((M * n : Nat) : Int) - ((2 * D : Nat) : Int) = (M : Int) * (n : Int) - 2 * (D : Int) := by rw [Int.natCast_mul, Int.natCast_mul]; rfl
      rw [h4]
      exact Nat.mul_lt_mul_of_pos_right h3 (two_posN E)
    have hAabs : (sval s m i * 2 ^ uE).natAbs = 2 * D * 2 ^ E := by rw [hA, signed_abs]
    have hA2 : (sval s m i * 2 ^ uE).natAbs = (sval s m i).natAbs * 2 ^ uE := by rw [Int.natAbs_mul, natAbs_two]
    have hbig : n * 2 ^ E * 2 ^ 54 ≤ (sval s m i).natAbs * 2 ^ uE := by
      rw [← hA2, hAabs]
      have e53 : (2 : Nat) ^ 54 = 2 * 2 ^ 53 := by decide
      have h5 : 2 * (2 ^ 53 * n) * 2 ^ E ≤ 2 * D * 2 ^ E := Nat.mul_le_mul_right _ (Nat.mul_le_mul_left 2 hge)
      have e6 : n * 2 ^ E * 2 ^ 54 = 2 * (2 ^ 53 * n) * 2 ^ E := by rw [e53]; ac_rfl
      rw [e6]; exact h5
    -- it is not too great
    have hMb : M * 2 ^ (P + 1074).toNat < 2 ^ top := by
      have hsv : (sval (s ^^ t) M P).natAbs = M * 2 ^ (P + 1074).toNat := signed_abs _ _ _
      have h6 : (sval (s ^^ t) M P * sval t n j).natAbs ≤ 2 * ((sval s m i).natAbs * 2 ^ uE) := by
        rw [← hA2]
        rw [← hA2] at hbig
        have e54 : (2 : Nat) ^ 54 = 18014398509481984 := rfl
        rw [e54] at hbig
        omega
      rw [Int.natAbs_mul, hsv, hvb, hva] at h6
      have h7 : M * 2 ^ (P + 1074).toNat * 2 ^ v ≤ M * 2 ^ (P + 1074).toNat * (n * 2 ^ (j + 1074).toNat) := Nat.mul_le_mul_left _ hb'.1
      have h8 : 2 * (m * 2 ^ (i + 1074).toNat * 2 ^ uE) ≤ 2 * (2 ^ U * 2 ^ uE) := Nat.mul_le_mul_left 2 (Nat.mul_le_mul_right _ (Nat.le_of_lt ha'.2))
      have h9 : 2 * (2 ^ U * 2 ^ uE) = 2 ^ (U + uE + 1) := by rw [Nat.pow_succ, Nat.pow_add, Nat.mul_comm]
      have h10 : M * 2 ^ (P + 1074).toNat * 2 ^ v ≤ 2 ^ (U + uE + 1) := by rw [← h9]; exact Nat.le_trans h7 (Nat.le_trans h6 h8)
      have ht : top = 2097 := rfl
      have hu : uE = 1074 := rfl
      have h11 : 2 ^ (U + uE + 1) < 2 ^ (top + v) := two_lt' (by omega)
      rw [Nat.pow_add 2 top v] at h11
      exact Nat.lt_of_mul_lt_mul_right (Nat.lt_of_le_of_lt h10 h11)
    have hN := nearest_rn (s ^^ t) M P (Or.inr hP0) hMb
    refine ⟨_, _, rfl, hN, ?_⟩
    have hrel := (rn_near (sval (s ^^ t) M P)).rel
    obtain ⟨z, hz⟩ : ∃ z, z = rn (sval (s ^^ t) M P) := ⟨_, rfl⟩
    rw [← hz] at hrel ⊢
    obtain ⟨W, hW⟩ : ∃ W, W = sval (s ^^ t) M P := ⟨_, rfl⟩
    obtain ⟨B, hB⟩ : ∃ B, B = sval t n j := ⟨_, rfl⟩
    rw [← hW] at hrel
    rw [← hW, ← hB] at hdiff
    rw [← hB]
    obtain ⟨A, hAe⟩ : ∃ A, A = sval s m i * 2 ^ uE := ⟨_, rfl⟩
    rw [← hAe] at hdiff ⊢
    rw [← hA2, ← hAe] at hbig ⊢
    have k1 : ((z - W) * B).natAbs * 9007199254740992 ≤ (W * B).natAbs := by
      rw [Int.natAbs_mul, Int.natAbs_mul]
      have := Nat.mul_le_mul_right B.natAbs hrel
      rw [Nat.mul_right_comm] at this
      exact this
    have k2 : z * B - A = (z - W) * B + (W * B - A) := by rw [Int.sub_mul]; omega
    rw [k2]
    have e54 : (2 : Nat) ^ 54 = 4 * 4503599627370496 := rfl
    have e52 : (2 : Nat) ^ 52 = 4503599627370496 := rfl
    rw [e54] at hbig
    rw [e52]
    exact fin_arith (by decide) k1 hdiff hbig
end Flt

/- Layer 4's landed dd: a quotient of two tame numbers: sizes and the error. Over whole numbers. No program is named here. -/
namespace Go.Proofs.Ytfpneojhhkfhpaa
open Go.RowKit

theorem quo_bound {K W R a1 a2 a3 a4 a5 a6 : Nat} (hR : R * K ≤ 9 * W) (h1 : a1 * K * K ≤ 130 * W) (h2 : a2 * K * K ≤ 305 * W) (h3 : a3 * K ≤ R) (h4 : a4 * K ≤ 4 * R) (h5 : a5 * K * K ≤ W) (h6 : a6 * K ≤ 12 * R) : (a1 + a2 + a3 + a4 + a5 + a6) * K * K ≤ 589 * W := by
  have k3 := Nat.mul_le_mul_right K h3
  have k4 := Nat.mul_le_mul_right K h4
  have k6 := Nat.mul_le_mul_right K h6
  rw [Nat.mul_assoc 4] at k4
  rw [Nat.mul_assoc 12] at k6
  rw [Nat.add_mul, Nat.add_mul, Nat.add_mul, Nat.add_mul, Nat.add_mul, Nat.add_mul, Nat.add_mul, Nat.add_mul, Nat.add_mul, Nat.add_mul]
  omega
theorem few_k {A K C h : Nat} (hK : 1024 ≤ K) (h1 : A * K * K ≤ C * h) (hC : C ≤ 512) : 2 * (A * K) ≤ h := by
  have h2 := Nat.mul_le_mul_left (A * K) hK
  have h3 := Nat.mul_le_mul_right h hC
  omega
theorem sum5 {R A B C D E : Int} (h : R = A + B + C + D + E) : R.natAbs ≤ A.natAbs + B.natAbs + C.natAbs + D.natAbs + E.natAbs := by omega
theorem sum6 {R A B C D E F : Int} (h : R = A + B + C + D + E + F) : R.natAbs ≤ A.natAbs + B.natAbs + C.natAbs + D.natAbs + E.natAbs + F.natAbs := by
  have h5 := Int.natAbs_add_le (A + B + C + D + E) F
  have h1 := Int.natAbs_add_le (A + B + C + D) E
  have h2 := Int.natAbs_add_le (A + B + C) D
  have h3 := Int.natAbs_add_le (A + B) C
  have h4 := Int.natAbs_add_le A B
  rw [h]
  omega
theorem rest_bound {K : Nat} (hK : 1024 ≤ K) {H L P Q X Zm R : Int} {h : Nat} (eX : X = P + Q) (a : (P - H).natAbs * K ≤ 2 * h) (hL : L.natAbs * K ≤ 2 * h) (hQ : Q.natAbs * K ≤ 4 * h)
    (b : (X - Zm).natAbs * K * K ≤ 130 * h) (c : (R - (H + L - Zm)).natAbs * K * K ≤ 305 * h) : R.natAbs * K ≤ 9 * h := by
  have e : R = (H - P) + L + (-Q) + (X - Zm) + (R - (H + L - Zm)) := by omega
  have e1 := sum5 e
  rw [Int.natAbs_neg, show (H - P).natAbs = (P - H).natAbs from by omega] at e1
  have k1 := few_k hK b (by decide)
  have k2 := few_k hK c (by decide)
  have e2 := Nat.mul_le_mul_right K e1
  rw [Nat.add_mul, Nat.add_mul, Nat.add_mul, Nat.add_mul] at e2
  omega
theorem quo_ring {H L H' L' q P Q X Zm R r t t' U : Int} (e1 : q * H' = P * U) (e2 : q * L' = Q * U) (eX : X = P + Q) :
    (q + t') * (H' + L') - (H + L) * U = (X - Zm) * U + (R - (H + L - Zm)) * U + (r - R) * U + (t * H' - r * U) + (t' - t) * H' + t' * L' := by
  subst eX
  rw [Int.add_mul, Int.mul_add, Int.mul_add, e1, e2, Int.sub_mul, Int.sub_mul, Int.sub_mul, Int.sub_mul, Int.sub_mul, Int.add_mul, Int.add_mul]
  omega
theorem quo_err {K : Nat} (hK : 1024 ≤ K) {H L H' L' q P Q X Zm R r t t' U : Int} {h : Nat} (e1 : q * H' = P * U) (e2 : q * L' = Q * U) (eX : X = P + Q) (a : (P - H).natAbs * K ≤ 2 * h) (hL : L.natAbs * K ≤ 2 * h) (hQ : Q.natAbs * K ≤ 4 * h)
    (b : (X - Zm).natAbs * K * K ≤ 130 * h) (c : (R - (H + L - Zm)).natAbs * K * K ≤ 305 * h) (d : (r - R).natAbs * K ≤ R.natAbs) (f : (t * H' - r * U).natAbs * K ≤ 2 * (r.natAbs * U.natAbs)) (g : (t' - t).natAbs * H'.natAbs * K * K ≤ h * U.natAbs) (g2 : t'.natAbs ≤ t.natAbs) (hL' : L'.natAbs * K ≤ 2 * H'.natAbs) :
    ((q + t') * (H' + L') - (H + L) * U).natAbs * K * K ≤ 589 * (h * U.natAbs) := by
  have hR := rest_bound hK eX a hL hQ b c
  have hr : r.natAbs ≤ 2 * R.natAbs := by
    have h1 := Nat.mul_le_mul_left (r - R).natAbs hK
    omega
  have hs := sum6 (quo_ring (H := H) (L := L) (Zm := Zm) (R := R) (r := r) (t := t) (t' := t') e1 e2 eX)
  rw [Int.natAbs_mul, Int.natAbs_mul, Int.natAbs_mul, Int.natAbs_mul (t' - t), Int.natAbs_mul t'] at hs
  refine Nat.le_trans (Nat.mul_le_mul_right _ (Nat.mul_le_mul_right _ hs)) ?_
  obtain ⟨u, hu⟩ : ∃ u, u = U.natAbs := ⟨_, rfl⟩
  rw [← hu] at f g ⊢
  have hru := Nat.mul_le_mul_right u hr
  rw [Nat.mul_assoc] at hru
  have f4 : (t * H' - r * U).natAbs * K ≤ 4 * (R.natAbs * u) := by omega
  have f0 : (t * H' - r * U).natAbs ≤ r.natAbs * u := by
    have h1 := Nat.mul_le_mul_left (t * H' - r * U).natAbs hK
    omega
  have f6 : t'.natAbs * L'.natAbs * K ≤ 12 * (R.natAbs * u) := by
    have h1 : t'.natAbs * (L'.natAbs * K) ≤ t'.natAbs * (2 * H'.natAbs) := Nat.mul_le_mul_left _ hL'
    have h2 : t'.natAbs * (2 * H'.natAbs) ≤ t.natAbs * (2 * H'.natAbs) := Nat.mul_le_mul_right _ g2
    have h3 : (t * H').natAbs ≤ (t * H' - r * U).natAbs + (r * U).natAbs := by
      have := Int.natAbs_add_le (t * H' - r * U) (r * U)
      rwa [show t * H' - r * U + r * U = t * H' from by omega] at this
    rw [Int.natAbs_mul, Int.natAbs_mul, ← hu] at h3
    have h4 : t.natAbs * (2 * H'.natAbs) = 2 * (t.natAbs * H'.natAbs) := by ac_rfl
    rw [← Nat.mul_assoc] at h1
    omega
  refine quo_bound (R := R.natAbs * u) (W := h * u) ?_ ?_ ?_ ?_ f4 g f6
  · calc R.natAbs * u * K = R.natAbs * K * u := by ac_rfl
      _ ≤ 9 * h * u := Nat.mul_le_mul_right _ hR
      _ = 9 * (h * u) := Nat.mul_assoc ..
  · calc (X - Zm).natAbs * u * K * K = (X - Zm).natAbs * K * K * u := by ac_rfl
      _ ≤ 130 * h * u := Nat.mul_le_mul_right _ b
      _ = 130 * (h * u) := Nat.mul_assoc ..
  · calc (R - (H + L - Zm)).natAbs * u * K * K = (R - (H + L - Zm)).natAbs * K * K * u := by ac_rfl
      _ ≤ 305 * h * u := Nat.mul_le_mul_right _ c
      _ = 305 * (h * u) := Nat.mul_assoc ..
  · calc (r - R).natAbs * u * K = (r - R).natAbs * K * u := by ac_rfl
      _ ≤ R.natAbs * u := Nat.mul_le_mul_right _ d
end Go.Proofs.Ytfpneojhhkfhpaa

/- Quo of the landed dd. -/
namespace Go.Proofs.Ytfpneojhhkfhpaa
open Go.RowKit

theorem pow_sides {a b c x y z : Nat} (hx : x < 2 ^ a) (hy : y < 2 ^ b) (hz : 2 ^ c ≤ z) (h : z * 2 ^ Flt.uE ≤ 2 * (x * y)) : c + Flt.uE < a + b + 1 := by
  have c1 : x * y < 2 ^ a * 2 ^ b := Nat.mul_lt_mul'' hx hy
  have c2 : 2 ^ c * 2 ^ Flt.uE ≤ z * 2 ^ Flt.uE := Nat.mul_le_mul_right _ hz
  rw [← Nat.pow_add] at c1 c2
  refine Flt.two_lt (Nat.lt_of_le_of_lt (Nat.le_trans c2 h) ?_)
  rw [Nat.pow_succ, Nat.mul_comm]
  exact Nat.mul_lt_mul_of_pos_right c1 (by decide)
theorem pow_sides2 {a b c x y z : Nat} (hx : 2 ^ a ≤ x) (hy : 2 ^ b ≤ y) (hz : z < 2 ^ c) (h : x * y ≤ 2 * (z * 2 ^ Flt.uE)) : a + b < c + Flt.uE + 1 := by
  have c1 : 2 ^ a * 2 ^ b ≤ x * y := Nat.mul_le_mul hx hy
  have c2 : z * 2 ^ Flt.uE < 2 ^ c * 2 ^ Flt.uE := Nat.mul_lt_mul_of_pos_right hz (Flt.two_posN _)
  rw [← Nat.pow_add] at c1 c2
  refine Flt.two_lt (Nat.lt_of_le_of_lt (Nat.le_trans c1 h) ?_)
  rw [Nat.pow_succ, Nat.mul_comm (2 ^ (c + Flt.uE))]
  exact Nat.mul_lt_mul_of_pos_left c2 (by decide)
/-- where the quotient of the first parts lies -/
theorem q_size {H H' q : Int} (hd : (q * H' - H * 2 ^ Flt.uE).natAbs * 2 ^ 52 ≤ H.natAbs * 2 ^ Flt.uE) (h1 : 2 ^ 930 ≤ H.natAbs) (h2 : H.natAbs < 2 ^ 1220) (h1' : 2 ^ 930 ≤ H'.natAbs) (h2' : H'.natAbs < 2 ^ 1220) : 2 ^ 782 ≤ q.natAbs ∧ q.natAbs < 2 ^ 1366 := by
  have a1 := Flt.natAbs_uE H
  have a2 : (q * H').natAbs = q.natAbs * H'.natAbs := Int.natAbs_mul ..
  rw [← a1] at hd
  have e52 : (2 : Nat) ^ 52 = 4503599627370496 := rfl
  rw [e52] at hd
  have b1 : (q * H').natAbs ≤ 2 * (H * 2 ^ Flt.uE).natAbs := by omega
  have b2 : (H * 2 ^ Flt.uE).natAbs ≤ 2 * (q * H').natAbs := by omega
  rw [a1, a2] at b1 b2
  constructor
  · refine Classical.byContradiction fun hc => ?_
    have := pow_sides (a := 782) (b := 1220) (c := 930) (Nat.lt_of_not_le hc) h2' h1 b2
    have hu : Flt.uE = 1074 := rfl
    omega
  · refine Classical.byContradiction fun hc => ?_
    have := pow_sides2 (a := 1366) (b := 930) (c := 1220) (Nat.le_of_not_lt hc) h1' h2 b1
    have hu : Flt.uE = 1074 := rfl
    omega
theorem q_zero {H H' q : Int} (hd : (q * H' - H * 2 ^ Flt.uE).natAbs * 2 ^ 52 ≤ H.natAbs * 2 ^ Flt.uE) (h0 : H = 0) (h' : H' ≠ 0) : q = 0 := by
  rw [h0, Int.zero_mul, Int.sub_zero, Int.natAbs_zero, Nat.zero_mul] at hd
  have h1 : (q * H').natAbs = 0 := by
    rcases Nat.mul_eq_zero.1 (Nat.le_zero.1 hd) with h | h
    · exact h
    · exact absurd h (by decide)
  rcases Int.mul_eq_zero.1 (Int.natAbs_eq_zero.1 h1) with h | h
  · exact h
  · exact absurd h h'
/-- the quotient's product with the divisor's first part -/
theorem p_near {H H' q P : Int} (hd : (q * H' - H * 2 ^ Flt.uE).natAbs * 2 ^ 52 ≤ H.natAbs * 2 ^ Flt.uE) (hP : H' * q = P * 2 ^ Flt.uE) : (P - H).natAbs * 2 ^ 52 ≤ H.natAbs := by
  rw [Int.mul_comm] at hP
  rw [hP, ← Int.sub_mul, Flt.natAbs_uE] at hd
  refine Nat.le_of_mul_le_mul_right ?_ (Flt.two_posN Flt.uE)
  rwa [Nat.mul_right_comm] at hd
theorem dbl_pow {a b x y : Nat} (h : x ≤ 2 * y) (hy : y ≤ 2 ^ a) (hb : a + 1 ≤ b) : x ≤ 2 ^ b := by
  refine Nat.le_trans (Nat.le_trans h ?_) (Flt.two_le hb)
  rw [Nat.pow_succ, Nat.mul_comm]
  exact Nat.mul_le_mul_right _ hy
theorem MulIn.quo {y' : Nat} {H L H' L' q : Int} (nq : Flt.Num y' q) (hT : Flt.TameN H L) (hT' : Flt.TameN H' L') (h' : H' ≠ 0) (hd : (q * H' - H * 2 ^ Flt.uE).natAbs * 2 ^ 52 ≤ H.natAbs * 2 ^ Flt.uE) : MulIn H' L' q 0 := by
  obtain ⟨fH', fL'⟩ := TameN.from hT'
  have hq : q = 0 ∨ (2 ^ 782 ≤ q.natAbs ∧ q.natAbs < 2 ^ 1366) := by
    rcases hT with ⟨h0, _⟩ | ⟨h1, h2, _, _⟩
    · exact Or.inl (q_zero hd h0 h')
    · rcases hT' with ⟨h0, _⟩ | ⟨h1', h2', _, _⟩
      · exact absurd h0 h'
      · exact Or.inr (q_size hd h1 h2 h1' h2')
  refine ⟨TameN.rn hT', by rw [Int.add_zero]; exact Flt.rn_fl nq.fl, FromN.down fH' (by decide), fL', ?_, Or.inl rfl, TameN.mild hT', ?_, fun P hP => ?_⟩
  · rcases hq with h | ⟨h1, h2⟩
    · exact Or.inl h
    · exact FromN.down (Flt.FromN.of (k := 782) (e0 := 730) (by decide) h1 (Nat.lt_of_lt_of_le h2 (Flt.two_le (a := 1366) (b := 1400) (by decide)))) (by decide)
  · rcases hq with h | ⟨h1, h2⟩
    · exact Or.inl h
    · exact Or.inr ⟨Nat.le_trans (Flt.two_le (a := mlo) (b := 782) (by decide)) h1, Nat.lt_of_lt_of_le h2 (Flt.two_le (a := 1366) (b := mhi) (by decide))⟩
  · have hn := p_near hd hP
    have e52 : (2 : Nat) ^ 52 = 4503599627370496 := rfl
    rw [e52] at hn
    have b1 : P.natAbs ≤ 2 * H.natAbs := by omega
    have b2 : H.natAbs ≤ 2 * P.natAbs := by omega
    refine ⟨?_, dbl_pow (a := 1220) (b := 1366) b1 (TameN.up hT).1 (by decide)⟩
    rcases hT with ⟨h0, _⟩ | ⟨h1, _, _, _⟩
    · left
      rw [h0] at b1
      omega
    · right
      exact Nat.le_trans (Flt.two_le (a := 786) (b := 929) (by decide)) (half (k := 929) (j := 930) (by decide) b2 h1)
/-- the product that is taken away: one that Add bears -/
theorem MulRk.nearP {H L H' L' P Q1 Q2 Q3 p e m1 m2 c f Z : Int} (h : MulRk H L H' L' P Q1 Q2 Q3 p e m1 m2 c f Z) : (Z - P).natAbs * 8 ≤ P.natAbs := by
  obtain ⟨a1, a2, a3, _⟩ := h.R.lo
  have b := few_k (h := 4 * P.natAbs) (K := Flt.K53) (by rw [Flt.K53_eq]; decide) (C := 17) (Nat.le_trans h.bound (by omega)) (by decide)
  have b2 := Nat.mul_le_mul_left (Z - (P + Q1 + Q2 + Q3)).natAbs K53_k
  have k1 : (Q1 + Q2 + Q3).natAbs * 32 ≤ 3 * P.natAbs := by omega
  clear a1 a2 a3
  omega
theorem quarter4 {s P : Nat} {k j : Nat} (hj : j = k + 2) (h : P ≤ 4 * s) (hP : 2 ^ j ≤ P) : 2 ^ k ≤ s := by
  rw [hj, Nat.pow_add] at hP
  omega
theorem AddIn.neg {H L H' L' P Q1 Q2 Q3 p e m1 m2 c f Z : Int} (h : MulRk H L H' L' P Q1 Q2 Q3 p e m1 m2 c f Z) (hP : P = 0 ∨ 2 ^ 929 ≤ P.natAbs) (hPu : P.natAbs ≤ 2 ^ 1221) : AddIn (-Flt.rn Z) (-(Z - Flt.rn Z)) := by
  have hz := h.nearP
  have hr := rn_le2 Z
  have hr2 := rn_ge2 Z
  refine ⟨?_, ?_, ?_, ?_⟩
  · refine Int.dvd_neg.2 ?_
    rcases hP with h0 | h0
    · rw [h.zero h0, Flt.rn_zero]; exact Int.dvd_zero _
    · refine fl_dvd_of (e := 674) (k := 726) (by decide) (Flt.rn_near Z).fl (Or.inr ?_)
      exact Nat.le_trans (Flt.two_le (a := 726) (b := 927) (by decide)) (quarter4 (k := 927) (j := 929) (by decide) (by omega) h0)
  · rw [Int.natAbs_neg]
    have e1 := Flt.two_add6 1221
    have e2 := Flt.two_le (a := 6 + 1221) (b := 1240) (by decide)
    obtain ⟨A, hA⟩ : ∃ A, A = 2 ^ 1221 := ⟨_, rfl⟩
    obtain ⟨B, hB⟩ : ∃ B, B = 2 ^ 1240 := ⟨_, rfl⟩
    obtain ⟨C, hC⟩ : ∃ C, C = 2 ^ (6 + 1221) := ⟨_, rfl⟩
    rw [← hA] at hPu e1
    rw [← hC] at e1 e2
    rw [← hB] at e2 ⊢
    omega
  · refine Flt.near_lo ?_
    rw [show -Flt.rn Z + -(Z - Flt.rn Z) = -Z from by omega, Flt.rn_neg]
  · exact kp_dvd (Int.dvd_neg.2 (Int.dvd_sub h.dvd (rn_dvd h.dvd)))
/-- what a quotient is made of, up to the rest -/
structure QuoS (H L H' L' q P Q1 Q2 Q3 p e m1 m2 c f Zm s1 e1 t1 f1 v1 s2 e2 g R : Int) : Prop where
  dq : (q * H' - H * 2 ^ Flt.uE).natAbs * 2 ^ 52 ≤ H.natAbs * 2 ^ Flt.uE
  ml : MulRk H' L' q 0 P Q1 Q2 Q3 p e m1 m2 c f Zm
  ad : AddRk H L (-Flt.rn Zm) (-(Zm - Flt.rn Zm)) s1 e1 t1 f1 v1 s2 e2 g R
/-- all of it -/
structure QuoR (H L H' L' q P Q1 Q2 Q3 p e m1 m2 c f Zm s1 e1 t1 f1 v1 s2 e2 g R t Z : Int) : Prop where
  S : QuoS H L H' L' q P Q1 Q2 Q3 p e m1 m2 c f Zm s1 e1 t1 f1 v1 s2 e2 g R
  dt : (t * H' - Flt.rn R * 2 ^ Flt.uE).natAbs * 2 ^ 52 ≤ (Flt.rn R).natAbs * 2 ^ Flt.uE
  hZ : Z = q + kp t
section
variable {H L H' L' q P Q1 Q2 Q3 p e m1 m2 c f Zm s1 e1 t1 f1 v1 s2 e2 g R t Z : Int}
theorem two52 {a b : Nat} (h : a * 2 ^ 52 ≤ b) : a * Flt.K53 ≤ 2 * b := by
  rw [K53_pow, show (53 : Nat) = 52 + 1 from rfl, Nat.pow_succ, ← Nat.mul_assoc, Nat.mul_comm]
  exact Nat.mul_le_mul_left 2 h
theorem near_size {P H : Int} (h : (P - H).natAbs * 2 ^ 52 ≤ H.natAbs) : P.natAbs ≤ 2 * H.natAbs ∧ H.natAbs ≤ 2 * P.natAbs := by
  have e52 : (2 : Nat) ^ 52 = 4503599627370496 := rfl
  rw [e52] at h
  omega
/-- sizes of what is met on the way -/
theorem QuoS.nP (h : QuoS H L H' L' q P Q1 Q2 Q3 p e m1 m2 c f Zm s1 e1 t1 f1 v1 s2 e2 g R) : (P - H).natAbs * 2 ^ 52 ≤ H.natAbs := p_near h.dq h.ml.R.hP
theorem QuoS.Zm8 (h : QuoS H L H' L' q P Q1 Q2 Q3 p e m1 m2 c f Zm s1 e1 t1 f1 v1 s2 e2 g R) : (Flt.rn Zm).natAbs ≤ 8 * H.natAbs := by
  have h1 := (near_size h.nP).1
  have h2 := h.ml.nearP
  have h3 := rn_le2 Zm
  omega
theorem QuoS.parts (h : QuoS H L H' L' q P Q1 Q2 Q3 p e m1 m2 c f Zm s1 e1 t1 f1 v1 s2 e2 g R) (hT : Flt.TameN H L) (hi : AddIn H L) (hn : AddIn (-Flt.rn Zm) (-(Zm - Flt.rn Zm))) (h0 : 2 ^ 930 ≤ H.natAbs) :
    (P - H).natAbs * Flt.K53 ≤ 2 * H.natAbs ∧ L.natAbs * Flt.K53 ≤ 2 * H.natAbs ∧ Q2.natAbs * Flt.K53 ≤ 4 * H.natAbs ∧ (P + Q2 - Zm).natAbs * Flt.K53 * Flt.K53 ≤ 130 * H.natAbs ∧ (R - (H + L - Zm)).natAbs * Flt.K53 * Flt.K53 ≤ 305 * H.natAbs := by
  have hP := h.nP
  obtain ⟨p1, p2⟩ := near_size hP
  have q1 : Q1 = 0 := by
    have := h.ml.R.h1
    rw [Int.mul_zero] at this
    rcases Int.mul_eq_zero.1 this.symm with k | k
    · exact k
    · exact absurd k (Int.ne_of_gt (Flt.two_pos _))
  have q3 : Q3 = 0 := by
    have := h.ml.R.h3
    rw [Int.mul_zero] at this
    rcases Int.mul_eq_zero.1 this.symm with k | k
    · exact k
    · exact absurd k (Int.ne_of_gt (Flt.two_pos _))
  have a2 := Flt.part_lo (H := q) (P := P) (Q := Q2) (a := H') (b := L') (by rw [Int.mul_comm]; exact h.ml.R.hP) (by rw [Int.mul_comm]; exact h.ml.R.h2) (Flt.lo_le h.ml.R.rL)
  have hb := h.ml.bound
  rw [q1, q3, Int.add_zero, Int.add_zero, show (Zm - (P + Q2)).natAbs = (P + Q2 - Zm).natAbs from by omega] at hb
  have he := h.ad.err (B := 8 * H.natAbs) hi hn (by omega) (by rw [Int.natAbs_neg]; exact h.Zm8)
  rw [show H + L + (-Flt.rn Zm + -(Zm - Flt.rn Zm)) = H + L - Zm from by omega] at he
  have hs := q400_small h0
  rw [show (2 : Nat) ^ 7 = 128 from rfl] at hs
  refine ⟨two52 hP, Flt.lo_le (TameN.rn hT), by omega, by omega, by omega⟩
theorem QuoS.zero (h : QuoS H L H' L' q P Q1 Q2 Q3 p e m1 m2 c f Zm s1 e1 t1 f1 v1 s2 e2 g R) (hi : AddIn H L) (hn : AddIn (-Flt.rn Zm) (-(Zm - Flt.rn Zm))) (h' : H' ≠ 0) (h0 : H = 0) : q = 0 ∧ R = 0 := by
  have hq := q_zero h.dq h0 h'
  have hP : P = 0 := by
    have := (near_size h.nP).1
    rw [h0] at this
    simpa using this
  have hZ := h.ml.zero hP
  exact ⟨hq, h.ad.zero hi hn h0 (by rw [hZ, Flt.rn_zero]; rfl)⟩
theorem QuoR.zero (h : QuoR H L H' L' q P Q1 Q2 Q3 p e m1 m2 c f Zm s1 e1 t1 f1 v1 s2 e2 g R t Z) (hi : AddIn H L) (hn : AddIn (-Flt.rn Zm) (-(Zm - Flt.rn Zm))) (h' : H' ≠ 0) (h0 : H = 0) : Z = 0 := by
  obtain ⟨hq, hR⟩ := h.S.zero hi hn h' h0
  have ht := q_zero h.dt (by rw [hR, Flt.rn_zero]) h'
  rw [h.hZ, hq, ht, kp_zero]; rfl
theorem QuoS.rest (h : QuoS H L H' L' q P Q1 Q2 Q3 p e m1 m2 c f Zm s1 e1 t1 f1 v1 s2 e2 g R) (hT : Flt.TameN H L) (hi : AddIn H L) (hn : AddIn (-Flt.rn Zm) (-(Zm - Flt.rn Zm))) (h0 : 2 ^ 930 ≤ H.natAbs) : R.natAbs ≤ H.natAbs := by
  obtain ⟨a, hL, hQ, b, c⟩ := h.parts hT hi hn h0
  have hr := rest_bound (K := Flt.K53) (by rw [Flt.K53_eq]; decide) rfl a hL hQ b c
  have h2 := Nat.mul_le_mul_left R.natAbs K53_k
  omega
theorem big_pow {a b c d k x h : Nat} (hb : x ≤ 2 ^ b) (hh : 2 ^ k ≤ h) (hk : a + b + c + d ≤ k + Flt.uE) : 2 ^ a * x * 2 ^ c * 2 ^ d ≤ h * 2 ^ Flt.uE := by
  have h1 : 2 ^ a * x * 2 ^ c * 2 ^ d ≤ 2 ^ a * 2 ^ b * 2 ^ c * 2 ^ d := Nat.mul_le_mul_right _ (Nat.mul_le_mul_right _ (Nat.mul_le_mul_left _ hb))
  have h2 : 2 ^ k * 2 ^ Flt.uE ≤ h * 2 ^ Flt.uE := Nat.mul_le_mul_right _ hh
  rw [← Nat.pow_add, ← Nat.pow_add, ← Nat.pow_add] at h1
  rw [← Nat.pow_add] at h2
  exact Nat.le_trans h1 (Nat.le_trans (Flt.two_le hk) h2)
theorem q400_big {h b u : Nat} (hh : 2 ^ 930 ≤ h) (hb : b ≤ 2 ^ 1220) (hu : u = 2 ^ Flt.uE) : q400 * b * Flt.K53 * Flt.K53 ≤ h * u := by
  rw [q400_eq, K53_pow, hu]
  have k := @big_pow 674 1220 53 53 930 b h hb hh (by decide)
  exact k
theorem QuoR.bound (h : QuoR H L H' L' q P Q1 Q2 Q3 p e m1 m2 c f Zm s1 e1 t1 f1 v1 s2 e2 g R t Z) (hT : Flt.TameN H L) (hT' : Flt.TameN H' L') (hi : AddIn H L) (hn : AddIn (-Flt.rn Zm) (-(Zm - Flt.rn Zm))) (h0 : 2 ^ 930 ≤ H.natAbs) :
    (Z * (H' + L') - (H + L) * 2 ^ Flt.uE).natAbs * Flt.K53 * Flt.K53 ≤ 589 * (H.natAbs * 2 ^ Flt.uE) := by
  obtain ⟨a, hL, hQ, b, c⟩ := h.S.parts hT hi hn h0
  have hU := Flt.natAbs_two Flt.uE
  have hf := two52 h.dt
  have hg : (kp t - t).natAbs * H'.natAbs * Flt.K53 * Flt.K53 ≤ H.natAbs * 2 ^ Flt.uE := Nat.le_trans (Nat.mul_le_mul_right _ (Nat.mul_le_mul_right _ (Nat.mul_le_mul_right _ (kp_err t)))) (q400_big h0 (TameN.up hT').1 rfl)
  rw [h.hZ]
  have k := quo_err (K := Flt.K53) (by rw [Flt.K53_eq]; decide) (H := H) (L := L) (H' := H') (L' := L') (q := q) (P := P) (Q := Q2) (X := P + Q2) (Zm := Zm) (R := R) (r := Flt.rn R) (t := t) (t' := kp t) (U := 2 ^ Flt.uE) (h := H.natAbs)
    (by rw [Int.mul_comm]; exact h.S.ml.R.hP) (by rw [Int.mul_comm]; exact h.S.ml.R.h2) rfl a hL hQ b c (Flt.rn_near R).relK (by rw [hU]; exact hf) (by rw [hU]; exact hg) (kp_le t) (Flt.lo_le (TameN.rn hT'))
  rw [hU] at k
  exact k
theorem QuoR.err (h : QuoR H L H' L' q P Q1 Q2 Q3 p e m1 m2 c f Zm s1 e1 t1 f1 v1 s2 e2 g R t Z) (hT : Flt.TameN H L) (hT' : Flt.TameN H' L') (hi : AddIn H L) (hn : AddIn (-Flt.rn Zm) (-(Zm - Flt.rn Zm))) (h' : H' ≠ 0) : QuoErr H L H' L' Z := by
  refine ⟨fun h0 => h.zero hi hn h' h0, fun T hT95 ha => ?_⟩
  by_cases h0 : H = 0
  · rw [h.zero hi hn h' h0, hi.zero h0, h0]
    simpa using Nat.mul_pos (Flt.two_posN (T - 95)) (Flt.two_posN Flt.uE)
  · have h1 : 2 ^ 930 ≤ H.natAbs := by
      rcases hT with ⟨z, _⟩ | ⟨h1, _, _, _⟩
      · exact absurd z h0
      · exact h1
    have hb := h.bound hT hT' hi hn h1
    obtain ⟨D, hD⟩ : ∃ D, D = (Z * (H' + L') - (H + L) * 2 ^ Flt.uE).natAbs := ⟨_, rfl⟩
    obtain ⟨M, hM⟩ : ∃ M, M = 2 ^ Flt.uE := ⟨_, rfl⟩
    have hM0 : 0 < M := by rw [hM]; exact Flt.two_posN _
    rw [← hD, ← hM] at hb ⊢
    rw [K53_pow, Nat.mul_assoc, ← Nat.pow_add] at hb
    have e1 : 2 ^ T = 2 ^ (T - 95) * 2 ^ 95 := by rw [← Nat.pow_add]; congr 1; omega
    have e2 : H.natAbs * M < 2 ^ (T - 95) * 2 ^ 95 * M := by rw [← e1]; exact Nat.mul_lt_mul_of_pos_right ha hM0
    have e3 : (2 : Nat) ^ (53 + 53) = 2048 * 2 ^ 95 := by decide
    rw [e3] at hb
    refine Nat.lt_of_mul_lt_mul_right (a := 2048 * 2 ^ 95) ?_
    refine Nat.lt_of_le_of_lt hb ?_
    have e4 : 2 ^ (T - 95) * M * (2048 * 2 ^ 95) = 2048 * (2 ^ (T - 95) * 2 ^ 95 * M) := by ac_rfl
    rw [e4]
    omega
end
theorem run_fquo {P : Program} (t : TypeId) {x y r : Nat} (h : Ieee.double.div x y = some r) (w : World) : (binOp .quo t (.float .f64 x) (.float .f64 y)).run P w = .ok (.float .f64 r) w := run_float_arith w .quo t .f64 x y r h
end Go.Proofs.Ytfpneojhhkfhpaa

/- Quo of the landed dd: the walk. -/
namespace Go.Proofs.Ytfpneojhhkfhpaa
open Go.RowKit

theorem le_nle {a b : Nat} (h : ¬ a ≤ b) : b ≤ a := Nat.le_of_lt (Nat.lt_of_not_le h)
def MZ (H L H' L' Z : Int) : Prop := ∃ P Q1 Q2 Q3 p e m1 m2 c f, MulRk H L H' L' P Q1 Q2 Q3 p e m1 m2 c f Z
def AZ (H L H' L' Z : Int) : Prop := ∃ s1 e1 t1 f1 v1 s2 e2 g, AddRk H L H' L' s1 e1 t1 f1 v1 s2 e2 g Z
def PM (H L q : Int) (s e : Nat) : Prop := ∃ Z, MZ H L q 0 Z ∧ Flt.Num s (Flt.rn Z) ∧ Flt.Num e (Z - Flt.rn Z)
def PN (H L q : Int) (s e : Nat) : Prop := ∃ Z, MZ H L q 0 Z ∧ Flt.Num s (-Flt.rn Z) ∧ Flt.Num e (-(Z - Flt.rn Z))
def PA (H L H' L' q : Int) (s e : Nat) : Prop := ∃ Z R, MZ H' L' q 0 Z ∧ AZ H L (-Flt.rn Z) (-(Z - Flt.rn Z)) R ∧ Flt.Num s (Flt.rn R) ∧ Flt.Num e (R - Flt.rn R)
theorem step_build {o : Oper} {d : Option Nat} {a : Act} {w : World} {K : Act → World → Prop} {Q : Exit → Act → World → Prop} {t : TypeId} {s : Operand} {x v : Value} (hd : o.dst = d) (hop : o.op = .build t #[(0, s)]) (hs : a.eval s = x)
    (hrun : (Instr.build t #[(0, x)]).run Try.prog w = .ok v w) (hK : K (a.put d v) w) : Oper.wp Try.prog o a w K Q := by
  subst hd
  unfold Oper.wp
  simp [execOp, hop, hs, hrun]
  exact hK
theorem build_hi {w : World} {x : Nat} : (Instr.build 25 #[(0, .float .f64 x)]).run Try.prog w = .ok (.agg #[.float .f64 x, .float .f64 0]) w := by simp [go_sem]
theorem load_num {w : World} {A x y : Nat} (h : Two w A x y) : (Instr.loadAt 25 (.pointer (some ⟨A, 0, none⟩))).run Try.prog w = .ok (.agg #[.float .f64 x, .float .f64 y]) w := by
  have c0 := h.c0
  have c1 := h.c1
  simp [go_sem, c0, c1]
def quoPre (i : Nat) : List Nat := match i with | 3 => [2] | 4 => [1, 3] | 5 => [4] | 6 => [0, 5] | 8 => [7, 6] | _ => []
def quoAct (x y u v qw A : Nat) (f : Nat → Value) : Act := { tmps := #[.agg #[.float .f64 x, .float .f64 y], .agg #[.float .f64 u, .float .f64 v], .pointer (some ⟨A, 0, none⟩), .pointer (some ⟨A + 1, 0, none⟩), .pointer (some ⟨A + 1 + 1, 0, none⟩), .float .f64 qw, f 6, .pointer (some ⟨A, 0, none⟩), .float .f64 x, .pointer (some ⟨A + 1, 0, none⟩), .float .f64 u, .float .f64 qw, f 12, f 13, f 14, f 15, f 16, f 17, f 18, undef, undef, undef, undef, undef, undef, undef], defers := [] }
def quoPs (x y u v qw : Nat) (H L H' L' q : Int) : Leaves := [(0, 12, fun z => z = .agg #[.float .f64 x, .float .f64 y]), (1, 13, fun z => z = .agg #[.float .f64 u, .float .f64 v]), (2, 14, fun z => z = .float .f64 qw), (3, 15, fun z => z = .agg #[.float .f64 qw, .float .f64 0]), (4, 16, PairV (PM H' L' q)), (5, 17, PairV (PN H' L' q)), (6, 18, PairV (PA H L H' L' q))]
def quoBs : List Blk := [⟨7, 6, 8, 18, 6⟩]
theorem quo_apart (x y u v qw : Nat) (H L H' L' q : Int) : Apart (quoPs x y u v qw H L H' L' q) quoBs := by
  refine ⟨by simp [quoPs], by simp [quoPs], by simp [quoBs], by simp [quoBs], by simp [quoBs], by simp [quoPs, quoBs], by simp [quoBs], by simp [quoPs, quoBs]⟩
set_option maxHeartbeats 4000000 in
theorem quo_said : QuoSaid := by
  intro x y u v H L H' L' w hx hy hu hv hT hT' h'
  have sf := run_store_float Try.prog
  have hb' : 2 ^ 930 ≤ H'.natAbs ∧ H'.natAbs < 2 ^ 1220 := by
    rcases hT' with ⟨h0, _⟩ | ⟨h1, h2, _, _⟩
    · exact absurd h0 h'
    · exact ⟨h1, h2⟩
  have ha : H = 0 ∨ (2 ^ 930 ≤ H.natAbs ∧ H.natAbs < 2 ^ 1220) := by
    rcases hT with ⟨h0, _⟩ | ⟨h1, h2, _, _⟩
    · exact Or.inl h0
    · exact Or.inr ⟨h1, h2⟩
  obtain ⟨qw, q, kq, nq, dq⟩ := Flt.div_num (u := 930) (U := 1220) (v := 930) (V := 1220) hx hu ha hb' (by decide) (by decide)
  have hMi := MulIn.quo nq hT hT' h' dq
  have hi := AddIn.tame hx hy hT
  have hneg : ∀ Z, MZ H' L' q 0 Z → AddIn (-Flt.rn Z) (-(Z - Flt.rn Z)) := by
    rintro Z ⟨P, Q1, Q2, Q3, p, e, m1, m2, c, f, hK⟩
    have hn := p_near dq hK.R.hP
    obtain ⟨b1, b2⟩ := near_size hn
    refine AddIn.neg hK ?_ (dbl_pow (a := 1220) (b := 1221) b1 (TameN.up hT).1 (by decide))
    rcases ha with h0 | ⟨h1, _⟩
    · left
      rw [h0] at b1
      simpa using b1
    · exact Or.inr (half (k := 929) (j := 930) (by decide) b2 h1)
  have MC : ∀ w, Calls Try.prog 20 #[.agg #[.float .f64 u, .float .f64 v], .agg #[.float .f64 qw, .float .f64 0]] w fun r w' => ∃ s e, r = .returned (.agg #[.float .f64 s, .float .f64 e]) ∧ PM H' L' q s e ∧ Bel w w' := fun w =>
    (mul_wide u v qw 0 H' L' q 0 w hu hv nq num_zero_k hMi).mono fun _ _ ⟨s, e, P, Q1, Q2, Q3, p, ε, m1, m2, c, f, Z, h1, h2, h3, h4, h5⟩ => ⟨s, e, h1, ⟨Z, ⟨P, Q1, Q2, Q3, p, ε, m1, m2, c, f, h2⟩, h3, h4⟩, h5⟩
  have NC : ∀ s e, PM H' L' q s e → ∀ w, Calls Try.prog 12 #[.agg #[.float .f64 s, .float .f64 e]] w fun r w' => ∃ s e, r = .returned (.agg #[.float .f64 s, .float .f64 e]) ∧ PN H' L' q s e ∧ Bel w w' := fun s e ⟨Z, h1, h2, h3⟩ w =>
    (neg_said s e w).mono fun _ _ ⟨k1, k2⟩ => ⟨_, _, k1, ⟨Z, h1, num_neg h2, num_neg h3⟩, k2⟩
  have AC : ∀ s e, PN H' L' q s e → ∀ w, Calls Try.prog 17 #[.agg #[.float .f64 x, .float .f64 y], .agg #[.float .f64 s, .float .f64 e]] w fun r w' => ∃ s e, r = .returned (.agg #[.float .f64 s, .float .f64 e]) ∧ PA H L H' L' q s e ∧ Bel w w' := fun s e ⟨Z, h1, h2, h3⟩ w =>
    (add_wide x y s e H L _ _ w hx hy h2 h3 hi (hneg Z h1)).mono fun _ _ ⟨s, e, s1, e1, t1, f1, v1, s2, e2, g, R, k1, k2, k3, k4, k5⟩ => ⟨s, e, k1, ⟨Z, R, h1, ⟨s1, e1, t1, f1, v1, s2, e2, g, k2⟩, k3, k4⟩, k5⟩
  -- what stands behind the rest
  have FC : ∀ s e, PA H L H' L' q s e → ∃ (tw : Nat) (t : Int), Ieee.double.div s u = some tw ∧ Flt.Num tw t ∧ t.natAbs ≤ 2 ^ 1474 ∧ QuoErr H L H' L' (q + kp t) := by
    rintro s e ⟨Zm, R, hM, ⟨s1, e1, t1, f1, v1, s2, e2, g, hA⟩, ns, ne⟩
    have hn := hneg Zm hM
    obtain ⟨P, Q1, Q2, Q3, p, ε, m1, m2, c, f, hK⟩ := hM
    have hS : QuoS H L H' L' q P Q1 Q2 Q3 p ε m1 m2 c f Zm s1 e1 t1 f1 v1 s2 e2 g R := ⟨dq, hK, hA⟩
    have hRu : R.natAbs ≤ H.natAbs := by
      rcases ha with h0 | ⟨h1, _⟩
      · rw [(hS.zero hi hn h' h0).2]; exact Nat.zero_le _
      · exact hS.rest hT hi hn h1
    have hrn : (Flt.rn R).natAbs < 2 ^ 1222 := by
      have h1 := rn_le2 R
      have h2 : (Flt.rn R).natAbs ≤ 2 ^ 1221 := dbl_pow (a := 1220) (b := 1221) (y := H.natAbs) (by omega) (TameN.up hT).1 (by decide)
      exact Nat.lt_of_le_of_lt h2 (Flt.two_lt' (a := 1221) (b := 1222) (by decide))
    have hra : Flt.rn R = 0 ∨ (2 ^ 622 ≤ (Flt.rn R).natAbs ∧ (Flt.rn R).natAbs < 2 ^ 1222) := by
      rcases ge_of_dvd (e := 622) (k := 622) (rn_dvd (hA.dvd hi hn).1) (by decide) with h | h
      · exact Or.inl h
      · exact Or.inr ⟨h, hrn⟩
    obtain ⟨tw, t, kt, nt, dt⟩ := Flt.div_num (u := 622) (U := 1222) (v := 930) (V := 1220) ns hu hra hb' (by decide) (by decide)
    refine ⟨tw, t, kt, nt, ?_, QuoR.err ⟨hS, dt, rfl⟩ hT hT' hi hn h'⟩
    refine Classical.byContradiction fun hc => ?_
    have a1 := Flt.natAbs_uE (Flt.rn R)
    have a2 : (t * H').natAbs = t.natAbs * H'.natAbs := Int.natAbs_mul ..
    rw [← a1] at dt
    have e52 : (2 : Nat) ^ 52 = 4503599627370496 := rfl
    rw [e52] at dt
    have b1 : (t * H').natAbs ≤ 2 * (Flt.rn R * 2 ^ Flt.uE).natAbs := by omega
    rw [a1, a2] at b1
    have := pow_sides2 (a := 1474) (b := 930) (c := 1222) (le_nle hc) hb'.1 hrn b1
    have hu : Flt.uE = 1074 := rfl
    omega
  have hqm : q.natAbs ≤ 2 ^ 1474 := by
    rcases hMi.mH' with h | ⟨_, h⟩
    · rw [h]; exact Nat.zero_le _
    · exact Nat.le_trans (Nat.le_of_lt h) (Flt.two_le (a := mhi) (b := 1474) (by decide))
  have hqk := mild_kp hMi.mH'
  have SC : ∀ (tw : Nat) (t : Int) w, Flt.Num tw t → t.natAbs ≤ 2 ^ 1474 → Calls Try.prog 31 #[.float .f64 qw, .float .f64 tw] w fun r w' => ∃ s e, r = .returned (.agg #[.float .f64 s, .float .f64 e]) ∧ Flt.Num s (Flt.rn (q + kp t)) ∧ Flt.Num e (q + kp t - Flt.rn (q + kp t)) ∧ Bel w w' := fun tw t w nt ht => by
    have := sumk_any qw tw q t w nq nt hqm ht
    rwa [hqk] at this
  have GC : ∀ (tw : Nat) (t : Int), Flt.Num tw t → t.natAbs ≤ 2 ^ 1474 → Flt.GoodN (Flt.rn (q + kp t)) ∧ (q + kp t - Flt.rn (q + kp t)).natAbs < 2 ^ 1500 := fun tw t nt ht => by
    have hd : (2 : Int) ^ 622 ∣ q + kp t := by
      have h1 := kp_fl_dvd nq.fl
      rw [hqk] at h1
      exact Int.dvd_add h1 (kp_fl_dvd nt.fl)
    have hr := rn_le2 (q + kp t)
    have hk := kp_up ht
    have e1 := Flt.two_add6 1474
    have e2 := Flt.two_le (a := 6 + 1474) (b := 1500) (by decide)
    have e3 := Flt.two_posN 1474
    obtain ⟨A, hA⟩ : ∃ A, A = 2 ^ 1474 := ⟨_, rfl⟩
    obtain ⟨B, hB⟩ : ∃ B, B = 2 ^ 1500 := ⟨_, rfl⟩
    obtain ⟨C, hC⟩ : ∃ C, C = 2 ^ (6 + 1474) := ⟨_, rfl⟩
    rw [← hA] at hqm hk e1 e3
    rw [← hC] at e1 e2
    rw [← hB] at e2
    have k1 : (Flt.rn (q + kp t)).natAbs < B := by omega
    refine ⟨?_, by rw [← hB]; omega⟩
    rcases ge_of_dvd (e := 622) (k := 600) (rn_dvd hd) (by decide) with h | h
    · exact Or.inl h
    · exact Or.inr ⟨h, by rw [← hB]; exact k1⟩
  have o1 := fun w => run_fquo (P := Try.prog) 22 kq w
  have hF := Lib.hid (And.intro FC (And.intro SC GC))
  have hC := Lib.hid (And.intro MC (And.intro NC AC))
  clear FC SC GC MC NC AC hneg hqm hqk hMi hi ha hb' dq hx hy hu hv hT hT' h' nq kq
  go_enter Try.func22, Try.ntmps22
  go_upto_region 2 with fail
  obtain ⟨w1, hw1⟩ : ∃ w1, w1 = ((w.alloc (Obj.cells #[.float .f64 x, .float .f64 y] 25)).alloc (Obj.cells #[.float .f64 u, .float .f64 v] 25)).alloc (Obj.cells #[.float .f64 0, .float .f64 0] 25) := ⟨_, rfl⟩
  have hB1 : Bel w w1 := by rw [hw1]; exact (((Bel.refl w).alloc _).alloc _).alloc _
  have tx : Two w1 w.heap.size x y := by rw [hw1]; exact ((Two.new w x y _).al _).al _
  have tu : Two w1 (w.heap.size + 1) u v := by rw [hw1]; exact (Two.newN _ u v _ _ (by simp)).al _
  have tr : Two w1 (w.heap.size + 1 + 1) 0 0 := by rw [hw1]; exact Two.newN _ 0 0 _ _ (by simp)
  rw [← hw1]
  obtain ⟨A, hA⟩ : ∃ A, A = w.heap.size := ⟨_, rfl⟩
  rw [← hA] at tx tu tr ⊢
  have hAw : w.heap.size ≤ A + 1 + 1 := by omega
  have hw1H := Lib.hid (And.intro hw1 hA)
  clear hw1 hA
  go_cut [6] from 12 to 18 (fun p wx => ∃ (X s e : Nat), p = .pointer (some ⟨X, 0, none⟩) ∧ Two wx X s e ∧ PA H L H' L' q s e ∧ Bel w1 wx)
  case first =>
    refine wp_region_gv (pre := quoPre) (quoAct x y u v qw A) (fun _ => undef) (by kernel_rfl) (by decide +kernel) (quoPs x y u v qw H L H' L' q) quoBs (quo_apart x y u v qw H L H' L' q) ?_ ⟨by simp [quoPs], by simp [quoBs]⟩ ?_
    · intro i hi
      have hi : i < 9 := hi
      match i, hi with
      | 0, _ => exact .value 12 (fun z => z = .agg #[.float .f64 x, .float .f64 y]) (by simp [quoPs]) fun f w hB h => wpOp_go rfl rfl (step_load (d := some 12) rfl rfl rfl (load_num (tx.by hB)) ⟨_, rfl, rfl, Bel.refl _⟩)
      | 1, _ => exact .value 13 (fun z => z = .agg #[.float .f64 u, .float .f64 v]) (by simp [quoPs]) fun f w hB h => wpOp_go rfl rfl (step_load (d := some 13) rfl rfl rfl (load_num (tu.by hB)) ⟨_, rfl, rfl, Bel.refl _⟩)
      | 2, _ => exact .value 14 (fun z => z = .float .f64 qw) (by simp [quoPs]) fun f w hB h => wpOp_go rfl rfl (step_move (d := some 14) rfl (Or.inl rfl) rfl ⟨_, rfl, rfl, Bel.refl _⟩)
      | 3, _ => exact .value 15 (fun z => z = .agg #[.float .f64 qw, .float .f64 0]) (by simp [quoPs]) fun f w hB h => wpOp_go rfl rfl (step_build (d := some 15) rfl rfl (h (2, 14, (fun z => z = .float .f64 qw)) (by simp [quoPs]) (by simp [quoPre])) build_hi ⟨_, rfl, rfl, Bel.refl _⟩)
      | 4, _ => exact .value 16 (PairV (PM H' L' q)) (by simp [quoPs]) fun f w hB h => wpOp_go rfl rfl (step_call2 (d := some 16) rfl rfl (h (1, 13, fun z => z = .agg #[.float .f64 u, .float .f64 v]) (by simp [quoPs]) (by simp [quoPre])) (h (3, 15, fun z => z = .agg #[.float .f64 qw, .float .f64 0]) (by simp [quoPs]) (by simp [quoPre])) (by kernel_rfl) ((hC.out.1 _).mono fun _ _ ⟨s, e, k1, k2, k3⟩ => ⟨_, k1, _, rfl, ⟨s, e, rfl, k2⟩, k3⟩))
      | 5, _ =>
        refine .value 17 (PairV (PN H' L' q)) (by simp [quoPs]) fun f w hB h => ?_
        obtain ⟨s, e, hv, hp⟩ := h (4, 16, PairV (PM H' L' q)) (by simp [quoPs]) (by simp [quoPre])
        exact wpOp_go rfl rfl (step_call1 (d := some 17) rfl rfl hv (by kernel_rfl) ((hC.out.2.1 s e hp _).mono fun _ _ ⟨s, e, k1, k2, k3⟩ => ⟨_, k1, _, rfl, ⟨s, e, rfl, k2⟩, k3⟩))
      | 6, _ =>
        refine .value 18 (PairV (PA H L H' L' q)) (by simp [quoPs]) fun f w hB h => ?_
        obtain ⟨s, e, hv, hp⟩ := h (5, 17, PairV (PN H' L' q)) (by simp [quoPs]) (by simp [quoPre])
        exact wpOp_go rfl rfl (step_call2 (d := some 18) rfl rfl (h (0, 12, fun z => z = .agg #[.float .f64 x, .float .f64 y]) (by simp [quoPs]) (by simp [quoPre])) hv (by kernel_rfl) ((hC.out.2.2 s e hp _).mono fun _ _ ⟨s, e, k1, k2, k3⟩ => ⟨_, k1, _, rfl, ⟨s, e, rfl, k2⟩, k3⟩))
      | 7, _ => exact .alloc ⟨7, 6, 8, 18, 6⟩ (by simp [quoBs]) rfl 25 fun f w K hK => wpOp_go rfl rfl (step_alloc (d := some 6) rfl rfl hK)
      | 8, _ => exact .store ⟨7, 6, 8, 18, 6⟩ (by simp [quoBs]) rfl (by simp [quoPre]) (by simp [quoPre]) (by simp [quoPs]; rintro x ⟨s, e, hv, _⟩; exact ⟨s, e, hv⟩) fun f w K X a b α β hX hv hT hK => wpOp_go rfl rfl (step_store (d := none) rfl rfl hX hv hT hK)
    · intro f wx hB h hF
      obtain ⟨X, α, β, r1, r2, r3, r4⟩ := hF.1 ⟨7, 6, 8, 18, 6⟩ (by simp [quoBs])
      obtain ⟨s, e, hv, hp⟩ := h (6, 18, PairV (PA H L H' L' q)) (by simp [quoPs])
      have r4 : f 18 = _ := r4
      have hv : f 18 = _ := hv
      rw [hv] at r4
      cases r4
      have r1 : f 6 = _ := r1
      unfold quoAct
      rw [r1]
      go_wp2
      go_meet
      exact ⟨X, α, β, rfl, r3, hp, hB⟩
  case rest =>
    obtain ⟨X, s, e, rfl, tX, hp, hB⟩ := hcut
    obtain ⟨tw, t, kt, nt, ht, hE⟩ := hF.out.1 s e hp
    have S4 := fun w => hF.out.2.1 tw t w nt ht
    have hG := Lib.hid (hF.out.2.2 tw t nt ht)
    have hE := Lib.hid hE
    have o2 := fun w => run_fquo (P := Try.prog) 22 kt w
    have tu := tu.by hB
    have tr := tr.by hB
    have hBd := hB1.trans hB
    obtain ⟨R, hR⟩ : ∃ R, R = A + 1 + 1 := ⟨_, rfl⟩
    rw [← hR] at tr hAw ⊢
    have s0 := tX.c0
    have u0 := tu.c0
    clear hw1H hB1 hB tX tu tx hp hC hF nt ht kt hR
    go_wp2_with fail
    refine (S4 _).mono ?_; rintro r w3 ⟨p6, q6, rfl, np6, nq6, hB3⟩
    have tr3 := tr.by hB3
    obtain ⟨m1, m2⟩ := tr3.mid p6
    obtain ⟨d0, d1, _, _⟩ := tr3.set p6 q6
    obtain ⟨c0, c1, g0, g1⟩ := tr3
    have nH := Lib.hid (And.intro np6 nq6)
    have hBw := hBd.trans hB3
    clear np6 nq6 S4 s0 u0
    go_wp2
    refine bodyPost_ret (by simp [results, go_sem, d0, d1]; try rfl) rfl ?_
    refine ⟨p6, q6, _, _, rfl, nH.out.1, nH.out.2, by rw [show Flt.rn (q + kp t) + (q + kp t - Flt.rn (q + kp t)) = q + kp t from by omega], hG.out.1, hG.out.2, ?_, (hBw.setCell hAw _).setCell hAw _⟩
    rw [show Flt.rn (q + kp t) + (q + kp t - Flt.rn (q + kp t)) = q + kp t from by omega]
    exact hE.out
end Go.Proofs.Ytfpneojhhkfhpaa
