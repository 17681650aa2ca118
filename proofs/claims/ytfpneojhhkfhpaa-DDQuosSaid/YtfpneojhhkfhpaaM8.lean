/- Merged texts: LDDQuos0. -/
import Derived.Test.YtfpneojhhkfhpaaM6
import Derived.Test.YtfpneojhhkfhpaaM4
import Derived.Deep.DeepCutAuto
/- DDQuos' walk; what New, Quo and the wakes answer are its hypotheses. -/
namespace Go.Proofs.Ytfpneojhhkfhpaa
open Go.RowKit

set_option maxHeartbeats 4000000 in
theorem quos0 (hnew : NewSaid) (hquo : QuoSaid) (hwk : WakesSaid) (a0 a1 b0 b1 : Int) (w : World) :
    Calls Try.prog 6 #[.agg #[.int .i64 a0, .int .i64 a1], .agg #[.int .i64 b0, .int .i64 b1]] w fun e w' => e = .returned (.bool true) ∧ Bel w w' := by
  have sf := run_store_float Try.prog
  go_enter Try.func6, Try.ntmps6
  go_upto_region 1 with fail
  obtain ⟨w1, hw1⟩ : ∃ w1, w1 = (w.alloc (Obj.cells #[Value.int IntKind.i64 a0, Value.int IntKind.i64 a1] 38)).alloc (Obj.cells #[Value.int IntKind.i64 b0, Value.int IntKind.i64 b1] 38) := ⟨_, rfl⟩
  have hB1 : Bel w w1 := by rw [hw1]; exact ((Bel.refl w).alloc _).alloc _
  have c0 : w1.cell? ⟨w.heap.size, 0, none⟩ = some (.int .i64 a0) := by rw [hw1, World.cell?_alloc_past _ _ _ (by simp), World.cell?_alloc_new]; rfl
  have c1 : w1.cell? ⟨w.heap.size, 1, none⟩ = some (.int .i64 a1) := by rw [hw1, World.cell?_alloc_past _ _ _ (by simp), World.cell?_alloc_new]; rfl
  have c2 : w1.cell? ⟨w.heap.size + 1, 0, none⟩ = some (.int .i64 b0) := by rw [hw1, World.cell?_alloc_at _ _ _ _ (by simp)]; rfl
  have c3 : w1.cell? ⟨w.heap.size + 1, 1, none⟩ = some (.int .i64 b1) := by rw [hw1, World.cell?_alloc_at _ _ _ _ (by simp)]; rfl
  have hsz : w1.heap.size = w.heap.size + 2 := by rw [hw1]; simp
  rw [← hw1]
  obtain ⟨A, hA⟩ : ∃ A, A = w.heap.size := ⟨_, rfl⟩
  rw [← hA] at c0 c1 c2 c3 hsz ⊢
  have hw1H := Lib.hid (And.intro hw1 hA)
  have z0 : A < w1.heap.size := by omega
  have z1 : A + 1 < w1.heap.size := by omega
  clear hw1 hA
  go_cut [5, 6] from 9 to 12 (fun p q wx => Tames w wx p q)
  case first =>
    refine pair_region hnew (fun u5 u6 u9 u10 u11 u12 => { tmps := #[.agg #[.int .i64 a0, .int .i64 a1], .agg #[.int .i64 b0, .int .i64 b1], .pointer (some ⟨A, 0, none⟩), .pointer (some ⟨A + 1, 0, none⟩), .bool false, u5, u6, undef, undef, u9, u10, u11, u12, undef, undef, undef, undef, undef, undef, undef, undef, undef, undef, undef, undef, undef, undef, undef, undef, undef, undef, undef, undef, undef, undef, undef, undef, undef, undef, undef, undef, undef, undef, undef, undef, undef, undef, undef, undef, undef, undef, undef, undef, undef, undef, undef, undef, undef, undef, undef, undef, undef], defers := [] }) 2 3 5 6 9 10 11 12 1 w w1 A a0 a1 b0 b1 _ _
      ⟨_, _, _, _, _, _, _, _, _, _, _, _, _, _, _, _, _, _, _, _, _, _, _, _, rfl⟩ (by decide +kernel) (fun _ _ _ _ _ _ _ => rfl) (fun _ _ _ _ _ _ _ => rfl) (fun _ _ _ _ _ _ _ => rfl) (fun _ _ _ _ _ _ _ => rfl) (fun _ _ _ _ _ _ _ => rfl) (fun _ _ _ _ _ _ _ => rfl) (fun _ _ _ _ _ _ => rfl) (fun _ _ _ _ _ _ => rfl) (fun _ _ _ _ _ _ => rfl) (fun _ _ _ _ _ _ => rfl) (fun _ _ _ _ _ _ => rfl) (fun _ _ _ _ _ _ => rfl) (fun _ _ _ _ _ _ => rfl) (fun _ _ _ _ _ _ => rfl)
      hB1 z1 c0 c1 c2 c3 undef undef undef undef undef undef ?_
    intro u5 u6 u9 u10 u11 u12 wx hT
    go_wp2
    go_meet
    exact hT
  case rest =>
    obtain ⟨X, Y, x, y, u, v, rfl, rfl, hne, hX, hY, tx, ty, hBc, ⟨H, L, nx, ny, hT, _⟩, ⟨H', L', nu, nv, hT', hu0⟩⟩ := hcut
    have lx := tx.lt
    have ly := ty.lt
    obtain ⟨x0, x1, _, _⟩ := tx
    obtain ⟨y0, y1, _, _⟩ := ty
    clear c0 c1 c2 c3 z0 z1 hsz hw1H hB1
    go_wp2_with fail
    refine (hwk _).mono ?_; rintro r w2 ⟨rfl, g2⟩
    have x0 := (g2.cell (p := ⟨X, 0, none⟩) lx).trans x0
    have x1 := (g2.cell (p := ⟨X, 1, none⟩) lx).trans x1
    have y0 := (g2.cell (p := ⟨Y, 0, none⟩) ly).trans y0
    have y1 := (g2.cell (p := ⟨Y, 1, none⟩) ly).trans y1
    have lx := Nat.lt_of_lt_of_le lx g2.size
    have ly := Nat.lt_of_lt_of_le ly g2.size
    have hB2 := hBc.trans g2
    by_cases h0 : H' = 0
    · have e0 := hu0 h0
      rw [e0] at y0
      have o0 : FloatKind.f64.format.order 0 0 = some .eq := ord_same num_zero num_zero
      clear e0 h0 hu0
      go_wp2_with fail
      refine (hwk _).mono ?_; rintro r w3 ⟨rfl, g3⟩
      go_wp2
      go_ret
      exact ⟨rfl, hB2.trans g3⟩
    · have o0 := tame_word nu h0
      have hQu := fun w => hquo x y u v H L H' L' w nx ny nu nv hT hT' h0
      clear hu0
      go_wp2_with fail
      refine (hQu _).mono ?_; rintro r w4 ⟨s, e, S, E, rfl, ns, ne, hneat, hGS, hEb, hE, g4⟩
      go_upto_region 5 with fail
      obtain ⟨w5, hw5⟩ : ∃ w5, w5 = w4.alloc (.cells #[.float .f64 s, .float .f64 e] 25) := ⟨_, rfl⟩
      have hB45 : Bel w4 w5 := by rw [hw5]; exact (Bel.refl w4).alloc _
      have hT5 : Two w5 w4.heap.size s e := by rw [hw5]; exact Two.new w4 s e _
      have hq5 : w4.heap.size < w5.heap.size := by rw [hw5]; simp
      rw [← hw5]
      obtain ⟨Q, hQ⟩ : ∃ Q, Q = w4.heap.size := ⟨_, rfl⟩
      have hXQ : X < Q := by rw [hQ]; exact Nat.lt_of_lt_of_le lx g4.size
      have g5 := g4.trans hB45
      rw [← hQ] at hT5 hq5 ⊢
      have hwQ := Lib.hid hQ
      clear hw5 hQ hB45
      obtain ⟨hc0, hc1, _, _⟩ := hT5
      have k0 := (g5.cell (p := ⟨X, 0, none⟩) lx).trans x0
      have k1 := (g5.cell (p := ⟨X, 1, none⟩) lx).trans x1
      have k2 := (g5.cell (p := ⟨Y, 0, none⟩) ly).trans y0
      have k3 := (g5.cell (p := ⟨Y, 1, none⟩) ly).trans y1
      have hf := fun w => fine_any s e S E w ns ne (quo_sum hGS hEb) hneat
      have hB5 := hB2.trans g5
      have lx5 : X < w5.heap.size := Nat.lt_trans hXQ hq5
      have ly5 : Y < w5.heap.size := Nat.lt_of_lt_of_le ly g5.size
      have habs := fun w => abs_any e w ne.lt
      have hyL : e % 9223372036854775808 < 9218868437227405312 := ne.fin
      have hgood := quo_good ne hEb
      have hez := (zero_word ne)
      have henz := mt (zero_word ne).1
      have hH0 : E ≠ 0 → FloatKind.f64.format.order x 0 = some Ordering.lt ∨ FloatKind.f64.format.order x 0 = some Ordering.gt := fun hE0 => tame_word2 nx fun h => hE0 (quo_zero hE hneat h)
      have heo : E ≠ 0 → FloatKind.f64.format.order e 0 = some Ordering.lt ∨ FloatKind.f64.format.order e 0 = some Ordering.gt := fun hE0 => tame_word2 ne hE0
      have hee : E = 0 → FloatKind.f64.format.order e 0 = some Ordering.eq := fun hE0 => by
        rw [hE0] at ne
        exact ord_same ne num_zero
      obtain ⟨y', hy'⟩ : ∃ y', y' = e % 9223372036854775808 := ⟨_, rfl⟩
      rw [← hy'] at habs hyL hgood hez henz
      have ho := Flt.ord4 y' 2715670575304409088 (by omega) (by decide)
      clear x0 x1 y0 y1 g4 g5 hy' hQu hEb
      by_cases hA : y' < 2715670575304409088 ∧ E ≠ 0
      · obtain ⟨hA1, hA2⟩ := hA
        have o1 : FloatKind.f64.format.order y' 2715670575304409088 = some .lt := by
          rcases ho with ⟨o, _⟩ | ⟨_, h⟩ | ⟨_, h, _⟩ | ⟨_, h⟩
          · exact o
          · exact absurd h (by omega)
          · exact absurd h (by omega)
          · exact absurd h (by omega)
        have o2 := heo hA2
        have o3 := hH0 hA2
        clear ho heo hee hgood hez henz hH0 hA1 hA2 hyL
        rcases o3 with o3 | o3 <;> rcases o2 with o2 | o2
        all_goals
          go_wp2_with fail
          refine (hf _).mono ?_; rintro r w6 ⟨rfl, g6⟩
          have d0 := (g6.cell (p := ⟨Q, 0, none⟩) hq5).trans hc0
          have d1 := (g6.cell (p := ⟨Q, 1, none⟩) hq5).trans hc1
          have d2 := (g6.cell (p := ⟨X, 0, none⟩) lx5).trans k0
          go_wp2_with fail
          refine (habs _).mono ?_; rintro r w7 ⟨rfl, rfl⟩
          go_wp2_with fail
          refine (hf _).mono ?_; rintro r w7 ⟨rfl, g7⟩
          go_wp2
          go_ret
          exact ⟨rfl, (hB5.trans g6).trans g7⟩
      · have hGE : Flt.GoodN E := hgood (by
          by_cases hE0 : E = 0
          · exact Or.inl (hez.1 hE0)
          · exact Or.inr (by refine Classical.byContradiction fun hc => hA ⟨by omega, hE0⟩))
        have hoo : (FloatKind.f64.format.order y' 2715670575304409088 = some .lt ∧ FloatKind.f64.format.order e 0 = some Ordering.eq) ∨ FloatKind.f64.format.order y' 2715670575304409088 = some .eq ∨ FloatKind.f64.format.order y' 2715670575304409088 = some .gt := by
          rcases ho with ⟨o, h⟩ | ⟨o, _⟩ | ⟨o, _⟩ | ⟨_, h⟩
          · exact Or.inl ⟨o, hee (Classical.byContradiction fun hc => hA ⟨h, hc⟩)⟩
          · exact Or.inr (Or.inl o)
          · exact Or.inr (Or.inr o)
          · exact absurd h (by omega)
        clear ho heo hee hgood hez henz hH0 hA hyL
        rcases hoo with ⟨o1, o2⟩ | o1 | o1
        all_goals
          go_wp2_with fail
          refine (hf _).mono ?_; rintro r w6 ⟨rfl, g6⟩
          have d0 := (g6.cell (p := ⟨Q, 0, none⟩) hq5).trans hc0
          have d1 := (g6.cell (p := ⟨Q, 1, none⟩) hq5).trans hc1
          go_wp2_with fail
          refine (habs _).mono ?_; rintro r w7 ⟨rfl, rfl⟩
          have q0 := (g6.cell (p := ⟨Q, 0, none⟩) hq5).trans hc0
          have q1 := (g6.cell (p := ⟨Q, 1, none⟩) hq5).trans hc1
          have p0 := (g6.cell (p := ⟨X, 0, none⟩) lx5).trans k0
          have p1 := (g6.cell (p := ⟨X, 1, none⟩) lx5).trans k1
          have p2 := (g6.cell (p := ⟨Y, 0, none⟩) ly5).trans k2
          have p3 := (g6.cell (p := ⟨Y, 1, none⟩) ly5).trans k3
          have hB7 := hB5.trans g6
          have lq7 := Nat.lt_of_lt_of_le hq5 g6.size
          have lx7 := Nat.lt_of_lt_of_le lx5 g6.size
          have ly7 := Nat.lt_of_lt_of_le ly5 g6.size
          clear hc0 hc1 k0 k1 k2 k3 d0 d1 hB5 g6 hf lx5 ly5 hq5
          go_upto_region 7 with fail
          obtain ⟨g, hg⟩ : ∃ g, g = w6.heap.size := ⟨_, rfl⟩
          have hz := long_zero
          have hL0 := long_new w6 33
          have hB8 : Bel w6 (w6.alloc (Obj.cells (Array.replicate 110 (Value.int IntKind.i64 0)) 33)) := (Bel.refl w6).alloc _
          obtain ⟨w8, hw8⟩ : ∃ w8, w8 = w6.alloc (Obj.cells (Array.replicate 110 (Value.int IntKind.i64 0)) 33) := ⟨_, rfl⟩
          have hs8 : g < w8.heap.size := by rw [hw8, hg]; simp
          rw [← hw8] at hL0 hB8
          rw [← hg] at hL0
          have hgw : w.heap.size ≤ g := by rw [hg]; exact hB7.size
          have nq : Q ≠ g := by omega
          have nX : X ≠ g := by omega
          have nY : Y ≠ g := by omega
          have c0 := (hB8.cell (p := ⟨Q, 0, none⟩) lq7).trans q0
          have c1 := (hB8.cell (p := ⟨Q, 1, none⟩) lq7).trans q1
          have c2 := (hB8.cell (p := ⟨X, 0, none⟩) lx7).trans p0
          have c3 := (hB8.cell (p := ⟨X, 1, none⟩) lx7).trans p1
          have c4 := (hB8.cell (p := ⟨Y, 0, none⟩) ly7).trans p2
          have c5 := (hB8.cell (p := ⟨Y, 1, none⟩) ly7).trans p3
          have lx8 := Nat.lt_of_lt_of_le lx7 hB8.size
          have kB := hB7.trans hB8
          have hgH := Lib.hid (And.intro hg hw8)
          obtain ⟨T1, hT1⟩ := good_prod ns nu hGS (TameN.goods hT').1
          obtain ⟨T2, hT2⟩ := good_prod ns nv hGS (TameN.goods hT').2
          obtain ⟨T3, hT3⟩ := good_prod ne nu hGE (TameN.goods hT').1
          obtain ⟨T4, hT4⟩ := good_prod ne nv hGE (TameN.goods hT').2
          have hsumT : (T1 + T2 + T3 + T4) * 2 ^ Flt.uE = (S + E) * (H' + L') := by
            rw [Int.add_mul, Int.add_mul, Int.add_mul, ← hT1, ← hT2, ← hT3, ← hT4, Int.add_mul, Int.mul_add, Int.mul_add]
            omega
          have P1 := fun f w => times_sgn _ 1 sgn_pos g f s e u v S E H' L' T1 T2 T3 T4 w ns ne nu nv hGS hGE (TameN.goods hT').1 (TameN.goods hT').2 hT1 hT2 hT3 hT4
          have P2 := fun f w => put_sgn _ (-1) sgn_neg g f x y H L w nx ny (GoodN.w (TameN.goods hT).1) (GoodN.w (TameN.goods hT).2)
          clear hg hw8 q0 q1 p0 p1 p2 p3 hB7 hB8 lq7 lx7 ly7 hT1 hT2 hT3 hT4
          go_upto_region 8 with fail
          rw [← hgH.out.1, ← hgH.out.2]
          go_wp2_with fail
          refine (P1 (fun _ => 0) _ hL0 hs8 (fun _ => by simp)).mono ?_; rintro r w9 ⟨rfl, f1, l1, v1, d1, e1⟩
          have r1 : ∀ j, (f1 j).natAbs ≤ 51539607552 := fun j => by have := d1 j; simpa using this
          have s9 := e1.below.size
          have a2 := (e1.cell (p := ⟨X, 0, none⟩) lx8 nX).trans c2
          have a3 := (e1.cell (p := ⟨X, 1, none⟩) lx8 nX).trans c3
          go_wp2_with fail
          refine (P2 f1 _ l1 (Nat.lt_of_lt_of_le hs8 s9) (fun j => by have := r1 j; omega)).mono ?_; rintro r w11 ⟨rfl, f3, l3, v3, d3, e2⟩
          have r3 : ∀ j, (f3 j).natAbs ≤ 2305843009213693952 := fun j => by have := d3 j; have := r1 j; omega
          have e13 := e1.trans e2
          have s11 := Nat.lt_of_lt_of_le hs8 e13.below.size
          have m2 := (e13.cell (p := ⟨X, 0, none⟩) lx8 nX).trans c2
          have lX := Nat.lt_of_lt_of_le lx8 e13.below.size
          obtain ⟨D, hD⟩ : ∃ D, D = T1 + T2 + T3 + T4 - (H + L) := ⟨_, rfl⟩
          have hDu : D * 2 ^ Flt.uE = (S + E) * (H' + L') - (H + L) * 2 ^ Flt.uE := by rw [hD, Int.sub_mul, hsumT]
          have hval : lval f3 = D * 2 ^ 126 := by
            rw [v3, v1, lval_zero, Int.zero_add, Int.one_mul, ← Int.add_mul, hD]
            congr 1
            omega
          clear hsumT
          have hS := fun w hw hg => size_any g f3 w hw hg r3 (by rw [hval]; exact quos_big hT hE hDu)
          rw [hval] at hS
          have t12 := fun w => top_of x H L w nx hT
          have hfin := fun k k1 => Lib.hid (quos_fin (k := k) (k1 := k1) hT hE hDu)
          have kB2 : Bel w w11 := Below.trans kB (Below.mono e13.below hgw)
          have kept : ∀ z : World, Bel w11 z → (z.cell? ⟨X, 0, none⟩ = some (.float .f64 x) ∧ LongAt z g f3 ∧ g < z.heap.size ∧ Bel w11 z) := fun _ kb =>
            ⟨(kb.cell (p := ⟨X, 0, none⟩) lX).trans m2, l3.bel kb s11, Nat.lt_of_lt_of_le s11 kb.size, kb⟩
          go_upto_region 10 with fail
          have hk0 := kept w11.drew (Bel.refl w11).drew
          clear hL0 hs8 l1 v1 v3 d1 d3 e1 e2 r1 e13 s9 a2 a3 c0 c1 c2 c3 c4 c5 P1 P2 hz kB hD hDu hE hneat
          go_region_held3 (fun z => z.cell? ⟨X, 0, none⟩ = some (.float .f64 x) ∧ LongAt z g f3 ∧ g < z.heap.size ∧ Bel w11 z) (first | exact hk0 | assumption | exact kept _ ((‹_ ∧ LongAt _ g f3 ∧ _ ∧ Bel w11 _›).2.2.2.trans kg))
            (first
              | (go_at_call 18; refine (hS _ (‹_ ∧ LongAt _ g f3 ∧ _ ∧ Bel w11 _›).2.1 (‹_ ∧ LongAt _ g f3 ∧ _ ∧ Bel w11 _›).2.2.1).mono ?_; rintro r w12 ⟨k, rfl, hk, hk1, hk2, kg⟩)
              | (go_at_call 19; refine (t12 _).mono ?_; rintro r w12 ⟨k1, rfl, hk3, hk4, hk5, rfl⟩))
          rename_i hHd
          have hle := (hfin k k1).out hk3 hk
          have hwr : IntKind.i64.wrap (k1 - 95) = k1 - 95 := by rw [IntKind.wrap_i64]; omega
          rw [hwr]
          have hle2 : k ≤ if -1200 < k1 - 95 then k1 - 95 else -1200 := by split <;> omega
          obtain ⟨Z, hZ⟩ : ∃ Z, Z = if -1200 < k1 - 95 then k1 - 95 else -1200 := ⟨_, rfl⟩
          rw [← hZ] at hle2 ⊢
          rw [decide_eq_true hle2]
          clear hZ hle hle2 hwr hfin
          go_wp2
          go_ret
          exact ⟨rfl, kB2.trans hHd.2.2.2⟩
end Go.Proofs.Ytfpneojhhkfhpaa
