/- Merged texts: EProd, Pure4, MulW, DivQ, QuoK, QuoC, AddFK, SumP, AddF, MulF. -/
import Derived.Test.YtpifkjmdcbieoaaM6
import Derived.Test.YtpifkjmdcbieoaaM3
import Derived.Deep.DeepCutAuto
import Derived.Test.YtpifkjmdcbieoaaM5
/- eft.Split and eft.Prod of mild floats. -/
namespace Go.Proofs.Ytpifkjmdcbieoaa
open Go.RowKit

/-- a mild number but 0: its last place -/
theorem mild_place {n : Int} (hf : Flt.FL n) (h1 : 2 ^ mlo ≤ n.natAbs) (h2 : n.natAbs < 2 ^ mhi) : ∃ e : Nat, (2 : Int) ^ e ∣ n ∧ 2 ^ (52 + e) ≤ n.natAbs ∧ n.natAbs < 2 ^ (53 + e) ∧ 600 ≤ e ∧ e ≤ 1500 := by
  obtain ⟨e, hd, hlt, hc⟩ := Flt.canon hf
  have e1 := Flt.two_lt (Nat.lt_of_le_of_lt h1 hlt)
  have q1 : mlo = 674 := rfl
  have q2 : mhi = 1474 := rfl
  have hc2 : 2 ^ (52 + e) ≤ n.natAbs := by
    rcases hc with h | h
    · omega
    · exact h
  have e2 := Flt.two_lt (Nat.lt_of_le_of_lt hc2 h2)
  exact ⟨e, hd, hc2, hlt, by omega, by omega⟩
theorem split_any (x : Nat) (n : Int) (w : World) (hx : Flt.Num x n) (hn : MildN n) :
    Calls Try.prog 48 #[.float .f64 x] w fun r w' => ∃ h l, r = .returned (.tuple #[.float .f64 h, .float .f64 l]) ∧ Flt.HalfW x h l n ∧ w = w' := by
  rcases hn with rfl | ⟨h1, h2⟩
  · obtain ⟨c, d, h, l, m1, m2, m3, m4, nh, nl⟩ := Flt.split_zero hx
    exact (split_run w m1 m2 m3 m4).mono fun r w' k => ⟨h, l, k.1, ⟨hx, Or.inl ⟨rfl, nh, nl⟩⟩, k.2⟩
  · obtain ⟨e, hd, hge, hlt, e1, e2⟩ := mild_place hx.fl h1 h2
    obtain ⟨c, d, h, l, H, L, m1, m2, m3, m4, nh, nl, hH⟩ := Flt.split_words hx hd hge hlt e1 e2
    obtain ⟨A, H', L', a1, a2, a3, hU⟩ := hH.units hd hge hlt
    exact (split_run w m1 m2 m3 m4).mono fun r w' k => ⟨h, l, k.1, ⟨hx, Or.inr ⟨e, A, H', L', e1, e2, a1, a2 ▸ nh, a3 ▸ nl, hU⟩⟩, k.2⟩

set_option maxHeartbeats 1000000 in
theorem prod_any (x y : Nat) (a b : Int) (w : World) (hx : Flt.Num x a) (hy : Flt.Num y b) (ha : MildN a) (hb : MildN b) :
    Calls Try.prog 32 #[.float .f64 x, .float .f64 y] w fun r w' => ∃ p e π ε, r = .returned (.tuple #[.float .f64 p, .float .f64 e]) ∧ Ieee.double.mul x y = some p ∧ Flt.Num p π ∧ Flt.Num e ε ∧ a * b = (π + ε) * 2 ^ Flt.uE ∧ (∃ P, a * b = P * 2 ^ Flt.uE ∧ Flt.Near P π) ∧ w = w' := by
  obtain ⟨p0, hp0⟩ : ∃ p0, Ieee.double.mul x y = some p0 := by
    obtain ⟨s, m, i, hr, _⟩ := hx.ex
    obtain ⟨t, n, j, hr', _⟩ := hy.ex
    unfold Ieee.Format.mul
    rw [hr, hr']
    exact ⟨_, rfl⟩
  have o0 := fun w => run_fmul (P := Try.prog) 28 hp0 w
  have hp0H := Lib.hid hp0
  clear hp0
  go_enter Try.func32, Try.ntmps32
  go_wp2_with fail
  refine (split_any x a _ hx ha).mono ?_; rintro r w1 ⟨h, l, rfl, hX, rfl⟩
  go_wp2_with fail
  refine (split_any y b _ hy hb).mono ?_; rintro r w1 ⟨g, m, rfl, hY, rfl⟩
  obtain ⟨p, e, π, ε, hW, hsum, hnear⟩ := Flt.prod_words hX hY
  obtain ⟨hg, t1, hm, t2, lg, t3, lm, q1, r1, q2, r2, q3, r3, q4, r4⟩ := hW.ops
  have epp : p0 = p := by have := hp0H.out.symm.trans hW.hp; cases this; rfl
  subst epp
  have o1 := fun w => run_fmul (P := Try.prog) 28 q1 w
  have o2 := fun w => run_fsub (P := Try.prog) 28 r1 w
  have o3 := fun w => run_fmul (P := Try.prog) 28 q2 w
  have o4 := fun w => run_fadd (P := Try.prog) 28 r2 w
  have o5 := fun w => run_fmul (P := Try.prog) 28 q3 w
  have o6 := fun w => run_fadd (P := Try.prog) 28 r3 w
  have o7 := fun w => run_fmul (P := Try.prog) 28 q4 w
  have o8 := fun w => run_fadd (P := Try.prog) 28 r4 w
  have fin := Lib.hid (And.intro hW.np (And.intro hW.ne (And.intro hsum hnear)))
  clear q1 r1 q2 r2 q3 r3 q4 r4 hW hsum hnear hX hY hx hy ha hb
  go_wp2
  go_ret2
  obtain ⟨f1, f2, f3, f4⟩ := fin.out
  exact ⟨p0, e, π, ε, rfl, hp0H.out, f1, f2, f3, f4, rfl⟩
end Go.Proofs.Ytpifkjmdcbieoaa

/- eft.Split, eft.Prod and what is kept, as functions: the words that they answer are known ahead of the call. -/
namespace Go.Proofs.Ytpifkjmdcbieoaa
open Go.RowKit

theorem split_pure (x : Nat) (n : Int) (hx : Flt.Num x n) (hn : MildN n) :
    ∃ h l, Flt.HalfW x h l n ∧ ∀ w, Calls Try.prog 48 #[.float .f64 x] w fun r w' => r = .returned (.tuple #[.float .f64 h, .float .f64 l]) ∧ w = w' := by
  rcases hn with rfl | ⟨h1, h2⟩
  · obtain ⟨c, d, h, l, m1, m2, m3, m4, nh, nl⟩ := Flt.split_zero hx
    exact ⟨h, l, ⟨hx, Or.inl ⟨rfl, nh, nl⟩⟩, fun w => split_run w m1 m2 m3 m4⟩
  · obtain ⟨e, hd, hge, hlt, e1, e2⟩ := mild_place hx.fl h1 h2
    obtain ⟨c, d, h, l, H, L, m1, m2, m3, m4, nh, nl, hH⟩ := Flt.split_words hx hd hge hlt e1 e2
    obtain ⟨A, H', L', a1, a2, a3, hU⟩ := hH.units hd hge hlt
    exact ⟨h, l, ⟨hx, Or.inr ⟨e, A, H', L', e1, e2, a1, a2 ▸ nh, a3 ▸ nl, hU⟩⟩, fun w => split_run w m1 m2 m3 m4⟩
set_option maxHeartbeats 1000000 in
theorem prod_pure (x y : Nat) (a b : Int) (hx : Flt.Num x a) (hy : Flt.Num y b) (ha : MildN a) (hb : MildN b) :
    ∃ p e π ε, Ieee.double.mul x y = some p ∧ Flt.Num p π ∧ Flt.Num e ε ∧ a * b = (π + ε) * 2 ^ Flt.uE ∧ (∃ P, a * b = P * 2 ^ Flt.uE ∧ Flt.Near P π) ∧
      ∀ w, Calls Try.prog 32 #[.float .f64 x, .float .f64 y] w fun r w' => r = .returned (.tuple #[.float .f64 p, .float .f64 e]) ∧ w = w' := by
  obtain ⟨h, l, hX, cX⟩ := split_pure x a hx ha
  obtain ⟨g, m, hY, cY⟩ := split_pure y b hy hb
  obtain ⟨p, e, π, ε, hW, hsum, hnear⟩ := Flt.prod_words hX hY
  refine ⟨p, e, π, ε, hW.hp, hW.np, hW.ne, hsum, hnear, fun w => ?_⟩
  obtain ⟨hg, t1, hm, t2, lg, t3, lm, q1, r1, q2, r2, q3, r3, q4, r4⟩ := hW.ops
  have hp0 := hW.hp
  have o0 := fun w => run_fmul (P := Try.prog) 28 hp0 w
  have o1 := fun w => run_fmul (P := Try.prog) 28 q1 w
  have o2 := fun w => run_fsub (P := Try.prog) 28 r1 w
  have o3 := fun w => run_fmul (P := Try.prog) 28 q2 w
  have o4 := fun w => run_fadd (P := Try.prog) 28 r2 w
  have o5 := fun w => run_fmul (P := Try.prog) 28 q3 w
  have o6 := fun w => run_fadd (P := Try.prog) 28 r3 w
  have o7 := fun w => run_fmul (P := Try.prog) 28 q4 w
  have o8 := fun w => run_fadd (P := Try.prog) 28 r4 w
  clear q1 r1 q2 r2 q3 r3 q4 r4 hW hsum hnear hX hY hx hy ha hb hp0
  go_enter Try.func32, Try.ntmps32
  go_wp2_with fail
  refine (cX _).mono ?_; rintro r w1 ⟨rfl, rfl⟩
  go_wp2_with fail
  refine (cY _).mono ?_; rintro r w1 ⟨rfl, rfl⟩
  go_wp2
  go_ret2
  exact ⟨rfl, rfl⟩
theorem kept_pure (x : Nat) (n : Int) (hx : Flt.Num x n) : ∃ y, Flt.Num y (kp n) ∧ ∀ w, Calls Try.prog 33 #[.float .f64 x] w fun r w' => r = .returned (.float .f64 y) ∧ w = w' := by
  have habs := fun w => abs_any x w hx.lt
  have nA := num_abs hx
  obtain ⟨y', hy'⟩ : ∃ y', y' = x % 9223372036854775808 := ⟨_, rfl⟩
  rw [← hy'] at habs nA
  have ho := Flt.ord4 y' 2805742567851819008 (by omega) (by decide)
  have hcut := cut_400 nA (by omega)
  have hcut2 := v_400' nA
  rw [← q400_eq] at hcut hcut2
  have hyf : y' < 9218868437227405312 := by have := hx.fin; omega
  have hx := Lib.hid hx
  clear nA hy'
  rcases ho with ⟨o, ho'⟩ | ho
  · have o2 : FloatKind.f64.format.order y' 2805742567851819008 = _ := o
    have hk := Lib.hid (kp_lt (hcut2 ho'))
    refine ⟨0, hk.out ▸ num_zero_k, fun w => ?_⟩
    clear o ho' hcut hcut2 hyf
    go_enter Try.func33, Try.ntmps33
    go_wp2_with fail
    refine (habs _).mono ?_; rintro r w3 ⟨rfl, rfl⟩
    go_wp2
    go_ret
    exact ⟨rfl, rfl⟩
  · have hk := Lib.hid (kp_ge (hcut (by omega)))
    refine ⟨x, hk.out.symm ▸ hx.out, fun w => ?_⟩
    rcases ho with ⟨o, ho'⟩ | ⟨o, ho', _⟩ | ⟨o, ho'⟩
    · have o2 : FloatKind.f64.format.order y' 2805742567851819008 = _ := o
      clear o ho' hcut hcut2 hyf
      go_enter Try.func33, Try.ntmps33
      go_wp2_with fail
      refine (habs _).mono ?_; rintro r w3 ⟨rfl, rfl⟩
      go_wp2
      go_ret
      exact ⟨rfl, rfl⟩
    · have o2 : FloatKind.f64.format.order y' 2805742567851819008 = _ := o
      clear o ho' hcut hcut2 hyf
      go_enter Try.func33, Try.ntmps33
      go_wp2_with fail
      refine (habs _).mono ?_; rintro r w3 ⟨rfl, rfl⟩
      go_wp2
      go_ret
      exact ⟨rfl, rfl⟩
    · exact absurd ho' (Nat.not_lt_of_lt hyf)
end Go.Proofs.Ytpifkjmdcbieoaa

/- Mul of the landed dd: the walk. -/
namespace Go.Proofs.Ytpifkjmdcbieoaa
open Go.RowKit

def mulPre (i : Nat) : List Nat := match i with | 1 => [0] | 2 => [1] | 4 => [3] | 5 => [4] | 6 => [2, 5] | 7 => [6] | 8 => [7] | 9 => [7] | 10 => [8] | 11 => [9] | _ => []
def mulAct (a0 a1 : Value) (A : Nat) (f : Nat → Value) : Act := { tmps := #[a0, a1, .pointer (some ⟨A, 0, none⟩), .pointer (some ⟨A + 1, 0, none⟩), .pointer (some ⟨A + 1 + 1, 0, none⟩), f 5, f 6, undef, f 8, f 9, f 10, f 11, f 12, f 13, f 14, f 15, f 16, f 17, undef, undef, undef, undef, undef, undef, undef, undef, undef, undef, undef, undef, undef, undef, undef, undef], defers := [] }
def mulCs (x u x' u' p e A : Nat) : List (Nat × Nat × Value) := [(0, 9, .pointer (some ⟨A, 0, none⟩)), (1, 10, .float .f64 x), (2, 11, .float .f64 x'), (3, 12, .pointer (some ⟨A + 1, 0, none⟩)), (4, 13, .float .f64 u), (5, 14, .float .f64 u'), (6, 15, .tuple #[.float .f64 p, .float .f64 e]), (7, 8, .tuple #[.float .f64 p, .float .f64 e]), (8, 16, .float .f64 p), (9, 17, .float .f64 e), (10, 5, .float .f64 p), (11, 6, .float .f64 e)]
set_option maxHeartbeats 2000000 in
theorem mul_wide (x y u v : Nat) (H L H' L' : Int) (w : World) (hx : Flt.Num x H) (hy : Flt.Num y L) (hu : Flt.Num u H') (hv : Flt.Num v L') (hi : MulIn H L H' L') :
    Calls Try.prog 19 #[.agg #[.float .f64 x, .float .f64 y], .agg #[.float .f64 u, .float .f64 v]] w fun r w' => ∃ s e P Q1 Q2 Q3 p ε m1 m2 c f Z, r = .returned (.agg #[.float .f64 s, .float .f64 e]) ∧ MulRk H L H' L' P Q1 Q2 Q3 p ε m1 m2 c f Z ∧ Flt.Num s (Flt.rn Z) ∧ Flt.Num e (Z - Flt.rn Z) ∧ Bel w w' := by
  have sf := run_store_float Try.prog
  obtain ⟨Q1, r1, m1, h1, k1, nm1, near1, _⟩ := Flt.mul_from hx hv hi.fH hi.fL' (by decide) (by decide)
  obtain ⟨Q2, r2, m2, h2, k2, nm2, near2, _⟩ := Flt.mul_from hy hu hi.fL hi.fH' (by decide) (by decide)
  obtain ⟨Q3, _, _, h3, _, _, _, _⟩ := Flt.mul_from hy hv hi.fL hi.fL' (by decide) (by decide)
  obtain ⟨x', nx', cx⟩ := kept_pure x H hx
  obtain ⟨u', nu', cu⟩ := kept_pure u H' hu
  rw [mild_kp hi.mH] at nx'
  rw [mild_kp hi.mH'] at nu'
  obtain ⟨pw, ew, π, ε, _, np, ne, hsum, ⟨P, hP, hnear⟩, cp⟩ := prod_pure x' u' H H' nx' nu' hi.mH hi.mH'
  obtain ⟨hPs, hPu⟩ := hi.sz P hP
  have hPe : π + ε = P := uE_cancel (hsum.symm.trans hP)
  obtain ⟨c, hc⟩ : ∃ c, c = Flt.rn (m1 + m2) := ⟨_, rfl⟩
  obtain ⟨f, hf⟩ : ∃ f, f = Flt.rn (ε + c) := ⟨_, rfl⟩
  have hR : MulR H L H' L' P Q1 Q2 Q3 π ε m1 m2 c f := ⟨hi.rL, hi.rL', hP, h1, h2, h3, hnear, hPe, near1, near2, hc, hf⟩
  obtain ⟨b1, b2, b3, b4, b5, b6⟩ := hR.le
  obtain ⟨V, hV⟩ : ∃ V, V = 2 ^ 1366 := ⟨_, rfl⟩
  have hPV : P.natAbs ≤ V := hV ▸ hPu
  have w74 : ∀ {n : Nat}, n ≤ 1048576 * V → n ≤ 2 ^ 1474 := fun h => v_le (k := 1366) (m := 1474) hV h (by decide)
  have wT : ∀ {n : Nat}, 4 * n ≤ 1048576 * V → n < 2 ^ Flt.top := fun h => Nat.lt_of_le_of_lt (w74 (Nat.le_trans (Nat.le_mul_of_pos_left _ (by decide)) h)) (Flt.two_lt' (a := 1474) (b := Flt.top) (by decide))
  have bV : ∀ {n c : Nat}, n ≤ c * P.natAbs → n ≤ c * V := fun h => Nat.le_trans h (Nat.mul_le_mul_left _ hPV)
  have wc : ∀ {n c : Nat}, n ≤ c * V → c ≤ 1048576 → n ≤ 2 ^ 1474 := fun h hc => w74 (Nat.le_trans h (Nat.mul_le_mul_right _ hc))
  obtain ⟨r3, k3, nm3⟩ := Flt.add_rn nm1 nm2 (wT (up_add (bV b3) (bV b4) (by decide)))
  rw [← hc] at nm3
  obtain ⟨r4, k4, nm4⟩ := Flt.add_rn ne nm3 (wT (up_add (bV b2) (bV b5) (by decide)))
  rw [← hf] at nm4
  have S4 := fun w => sumk_any pw r4 π f w np nm4 (wc (bV b1) (by decide)) (wc (bV b6) (by decide))
  obtain ⟨Z, hZ⟩ : ∃ Z, Z = kp π + kp f := ⟨_, rfl⟩
  rw [← hZ] at S4
  have hK : MulRk H L H' L' P Q1 Q2 Q3 π ε m1 m2 c f Z := ⟨hR, hPs, hZ, np.fl, nm4.fl⟩
  have hKH := Lib.hid hK
  have o1 := fun w => run_fmul (P := Try.prog) 28 k1 w
  have o2 := fun w => run_fmul (P := Try.prog) 28 k2 w
  have o3 := fun w => run_fadd (P := Try.prog) 28 k3 w
  have o4 := fun w => run_fadd (P := Try.prog) 28 k4 w
  clear hK hZ hR hc hf b1 b2 b3 b4 b5 b6 hV hPV w74 wT bV wc hsum hnear hPe hP h1 h2 h3 near1 near2 hPs hPu hi nx' nu' np ne nm1 nm2 nm3 nm4 hx hy hu hv k1 k2 k3 k4
  go_enter Try.func19, Try.ntmps19
  go_upto_region 1 with fail
  obtain ⟨w1, hw1⟩ : ∃ w1, w1 = ((w.alloc (Obj.cells #[.float .f64 x, .float .f64 y] 30)).alloc (Obj.cells #[.float .f64 u, .float .f64 v] 30)).alloc (Obj.cells #[.float .f64 0, .float .f64 0] 30) := ⟨_, rfl⟩
  have hB1 : Bel w w1 := by rw [hw1]; exact (((Bel.refl w).alloc _).alloc _).alloc _
  have tx : Two w1 w.heap.size x y := by rw [hw1]; exact ((Two.new w x y _).al _).al _
  have tu : Two w1 (w.heap.size + 1) u v := by rw [hw1]; exact (Two.newN _ u v _ _ (by simp)).al _
  have tr : Two w1 (w.heap.size + 1 + 1) 0 0 := by rw [hw1]; exact Two.newN _ 0 0 _ _ (by simp)
  rw [← hw1]
  obtain ⟨A, hA⟩ : ∃ A, A = w.heap.size := ⟨_, rfl⟩
  rw [← hA] at tx tu tr ⊢
  have hAw : w.heap.size ≤ A + 1 + 1 := by omega
  have hw1H := Lib.hid (And.intro hw1 hA)
  clear hw1 hA
  go_cut [5, 6] from 8 to 17 (fun p q wx => p = .float .f64 pw ∧ q = .float .f64 ew ∧ wx = w1.drew)
  case first =>
    refine wp_region_cv (pre := mulPre) (mulAct (.agg #[.float .f64 x, .float .f64 y]) (.agg #[.float .f64 u, .float .f64 v]) A) (fun _ => undef) (by kernel_rfl) (by decide +kernel) (mulCs x u x' u' pw ew A) (by simp [mulCs]) (by simp [mulCs]) ?_ ?_ (by simp [mulCs])
    · intro i hi
      have g0 : w1.drew.cell? ⟨A, 0, none⟩ = _ := tx.c0
      have g2 : w1.drew.cell? ⟨A + 1, 0, none⟩ = _ := tu.c0
      have hi : i < 12 := hi
      match i, hi with
      | 0, _ => exact ⟨9, _, by simp [mulCs], fun f h => wpOp_go rfl rfl (step_field (d := some 9) rfl rfl rfl field_hi ⟨rfl, rfl⟩)⟩
      | 1, _ => exact ⟨10, .float .f64 x, by simp [mulCs], fun f h => wpOp_go rfl rfl (step_load (d := some 10) rfl rfl (h (0, 9, _) (by simp [mulCs]) (by simp [mulPre])) (load_float g0) ⟨rfl, rfl⟩)⟩
      | 2, _ => exact ⟨11, .float .f64 x', by simp [mulCs], fun f h => wpOp_go rfl rfl (step_call1 (d := some 11) rfl rfl (h (1, 10, .float .f64 x) (by simp [mulCs]) (by simp [mulPre])) (by kernel_rfl) ((cx _).mono fun _ _ ⟨k1, k2⟩ => ⟨_, k1, rfl, k2.symm⟩))⟩
      | 3, _ => exact ⟨12, _, by simp [mulCs], fun f h => wpOp_go rfl rfl (step_field (d := some 12) rfl rfl rfl field_hi ⟨rfl, rfl⟩)⟩
      | 4, _ => exact ⟨13, .float .f64 u, by simp [mulCs], fun f h => wpOp_go rfl rfl (step_load (d := some 13) rfl rfl (h (3, 12, _) (by simp [mulCs]) (by simp [mulPre])) (load_float g2) ⟨rfl, rfl⟩)⟩
      | 5, _ => exact ⟨14, .float .f64 u', by simp [mulCs], fun f h => wpOp_go rfl rfl (step_call1 (d := some 14) rfl rfl (h (4, 13, .float .f64 u) (by simp [mulCs]) (by simp [mulPre])) (by kernel_rfl) ((cu _).mono fun _ _ ⟨k1, k2⟩ => ⟨_, k1, rfl, k2.symm⟩))⟩
      | 6, _ => exact ⟨15, .tuple #[.float .f64 pw, .float .f64 ew], by simp [mulCs], fun f h => wpOp_go rfl rfl (step_call2 (d := some 15) rfl rfl (h (2, 11, .float .f64 x') (by simp [mulCs]) (by simp [mulPre])) (h (5, 14, .float .f64 u') (by simp [mulCs]) (by simp [mulPre])) (by kernel_rfl) ((cp _).mono fun _ _ ⟨k1, k2⟩ => ⟨_, k1, rfl, k2.symm⟩))⟩
      | 7, _ => exact ⟨8, .tuple #[.float .f64 pw, .float .f64 ew], by simp [mulCs], fun f h => wpOp_go rfl rfl (step_move (d := some 8) rfl (Or.inl rfl) (h (6, 15, .tuple #[.float .f64 pw, .float .f64 ew]) (by simp [mulCs]) (by simp [mulPre])) ⟨rfl, rfl⟩)⟩
      | 8, _ => exact ⟨16, .float .f64 pw, by simp [mulCs], fun f h => wpOp_go rfl rfl (step_extract (d := some 16) rfl rfl (h (7, 8, .tuple #[.float .f64 pw, .float .f64 ew]) (by simp [mulCs]) (by simp [mulPre])) rfl ⟨rfl, rfl⟩)⟩
      | 9, _ => exact ⟨17, .float .f64 ew, by simp [mulCs], fun f h => wpOp_go rfl rfl (step_extract (d := some 17) rfl rfl (h (7, 8, .tuple #[.float .f64 pw, .float .f64 ew]) (by simp [mulCs]) (by simp [mulPre])) rfl ⟨rfl, rfl⟩)⟩
      | 10, _ => exact ⟨5, .float .f64 pw, by simp [mulCs], fun f h => wpOp_go rfl rfl (step_move (d := some 5) rfl (Or.inr rfl) (h (8, 16, .float .f64 pw) (by simp [mulCs]) (by simp [mulPre])) ⟨rfl, rfl⟩)⟩
      | 11, _ => exact ⟨6, .float .f64 ew, by simp [mulCs], fun f h => wpOp_go rfl rfl (step_move (d := some 6) rfl (Or.inr rfl) (h (9, 17, .float .f64 ew) (by simp [mulCs]) (by simp [mulPre])) ⟨rfl, rfl⟩)⟩
    · intro f h
      have e5 : f 5 = .float .f64 pw := h (10, 5, _) (by simp [mulCs])
      have e6 : f 6 = .float .f64 ew := h (11, 6, _) (by simp [mulCs])
      unfold mulAct
      rw [e5, e6]
      go_wp2
      go_meet
      exact ⟨rfl, rfl, rfl⟩
  case rest =>
    obtain ⟨rfl, rfl, rfl⟩ := hcut
    have hB1d := hB1.drew
    have tx := tx.dr
    have tu := tu.dr
    have tr := tr.dr
    obtain ⟨w2, hw2⟩ : ∃ w2, w2 = w1.drew := ⟨_, rfl⟩
    rw [← hw2] at tx tu tr hB1d ⊢
    obtain ⟨R, hR⟩ : ∃ R, R = A + 1 + 1 := ⟨_, rfl⟩
    rw [← hR] at tr hAw ⊢
    have x0 := tx.c0
    have x1 := tx.c1
    have u0 := tu.c0
    have u1 := tu.c1
    clear hw2 hw1H hB1 tx tu cx cu cp hR
    go_wp2_with fail
    refine (S4 _).mono ?_; rintro r w3 ⟨p6, q6, rfl, np6, nq6, hB3⟩
    have tr3 := tr.by hB3
    obtain ⟨m1, m2⟩ := tr3.mid p6
    obtain ⟨d0, d1, _, _⟩ := tr3.set p6 q6
    obtain ⟨c0, c1, g0, g1⟩ := tr3
    have nH := Lib.hid (And.intro np6 nq6)
    have hBw := hB1d.trans hB3
    clear np6 nq6 S4 x0 x1 u0 u1
    go_wp2
    refine bodyPost_ret (by simp [results, go_sem, d0, d1]; try rfl) rfl ?_
    exact ⟨p6, q6, _, _, _, _, _, _, _, _, _, _, _, rfl, hKH.out, nH.out.1, nH.out.2, (hBw.setCell hAw _).setCell hAw _⟩
end Go.Proofs.Ytpifkjmdcbieoaa

/- Quotients of floats in the model: how near they are. No program is named here. -/
namespace Flt
open Ieee

theorem nat_mul_sub (D n : Nat) (hn : 0 < n) : ((2 * (D / n) + (D % n != 0).toNat : Nat) * (n : Int) - 2 * (D : Int)).natAbs < n := by
  have h1 := Nat.div_add_mod D n
  have h2 := Nat.mod_lt D hn
  obtain ⟨q, hq⟩ : ∃ q, q = D / n := ⟨_, rfl⟩
  obtain ⟨r, hr⟩ : ∃ r, r = D % n := ⟨_, rfl⟩
  rw [← hq, ← hr] at h1
  rw [← hr] at h2
  rw [← hq, ← hr]
  have hD : (D : Int) = (n : Int) * (q : Int) + (r : Int) := by rw [← h1, Int.natCast_add, Int.natCast_mul]
  by_cases h0 : r = 0
  · subst h0
    have e : ((0 : Nat) != 0).toNat = 0 := rfl
    rw [e, hD]
    have : ((2 * q + 0 : Nat) : Int) * (n : Int) - 2 * ((n : Int) * (q : Int) + ((0 : Nat) : Int)) = 0 := by
      rw [Nat.add_zero, Int.natCast_mul, Int.mul_comm (n : Int)]
      have : ((2 : Nat) : Int) * (q : Int) * (n : Int) = 2 * ((q : Int) * (n : Int)) := Int.mul_assoc _ _ _
      rw [this]; omega
    rw [this]; simpa using hn
  · have e : (r != 0).toNat = 1 := by
      have : (r != 0) = true := by rw [bne_iff_ne]; exact h0
      rw [this]; rfl
    rw [e, hD]
    have : ((2 * q + 1 : Nat) : Int) * (n : Int) - 2 * ((n : Int) * (q : Int) + (r : Int)) = (n : Int) - 2 * (r : Int) := by
      rw [Int.natCast_add, Int.natCast_mul, Int.add_mul, Int.mul_comm (n : Int)]
      have h3 : ((2 : Nat) : Int) * (q : Int) * (n : Int) = 2 * ((q : Int) * (n : Int)) := Int.mul_assoc _ _ _
      have h4 : ((1 : Nat) : Int) * (n : Int) = n := Int.one_mul _
      rw [h3, h4]; omega
    rw [this]; omega
theorem dividend_ge {m n more : Nat} (hm : m ≠ 0) (h : more = 54 + n.log2 - m.log2) : 2 ^ 53 * n ≤ m * 2 ^ more := by
  have h1 := Nat.log2_self_le hm
  have h2 := @Nat.lt_log2_self n
  have h3 : 2 ^ m.log2 * 2 ^ more ≤ m * 2 ^ more := Nat.mul_le_mul_right _ h1
  rw [← Nat.pow_add] at h3
  have h4 : 2 ^ (53 + (n.log2 + 1)) ≤ 2 ^ (m.log2 + more) := two_le (by omega)
  rw [Nat.pow_add] at h4
  have h5 : 2 ^ 53 * n ≤ 2 ^ 53 * 2 ^ (n.log2 + 1) := Nat.mul_le_mul_left _ (Nat.le_of_lt h2)
  omega
theorem signed_xor (s t : Bool) (M n a b : Nat) : signed (s ^^ t) M a * signed t n b = signed s (M * n) (a + b) := by
  rw [signed_mul]
  have : (s ^^ t ^^ t) = s := by cases s <;> cases t <;> rfl
  rw [this]
theorem signed_sub (s : Bool) (x y u : Nat) : (signed s x u - signed s y u).natAbs = ((x : Int) - (y : Int)).natAbs * 2 ^ u := by
  rw [signed_eq, signed_eq]
  have h : ∀ z : Int, (z * 2 ^ u).natAbs = z.natAbs * 2 ^ u := fun z => shift_abs z u
  cases s
  · show ((x : Int) * 2 ^ u - (y : Int) * 2 ^ u).natAbs = _
    rw [← Int.sub_mul, h]
  · show (-((x : Int) * 2 ^ u) - -((y : Int) * 2 ^ u)).natAbs = _
    have : -((x : Int) * 2 ^ u) - -((y : Int) * 2 ^ u) = -(((x : Int) - (y : Int)) * 2 ^ u) := by rw [Int.sub_mul]; omega
    rw [this, Int.natAbs_neg, h]

theorem fin_arith {X Y A : Int} {N K : Nat} (hK : 1 ≤ K) (k1 : X.natAbs * (2 * K) ≤ Y.natAbs) (hd : (Y - A).natAbs < N) (hb : N * (4 * K) ≤ A.natAbs) : (X + (Y - A)).natAbs * K ≤ A.natAbs := by
  have h1 : (X + (Y - A)).natAbs * K ≤ (X.natAbs + (Y - A).natAbs) * K := Nat.mul_le_mul_right K (Int.natAbs_add_le _ _)
  have h2 : Y.natAbs ≤ A.natAbs + (Y - A).natAbs := by omega
  have h3 : (Y - A).natAbs * K ≤ N * K := Nat.mul_le_mul_right K (Nat.le_of_lt hd)
  have h4 : (Y - A).natAbs * 1 ≤ (Y - A).natAbs * K := Nat.mul_le_mul_left _ hK
  rw [Nat.add_mul] at h1
  have e1 : X.natAbs * (2 * K) = 2 * (X.natAbs * K) := by ac_rfl
  have e2 : N * (4 * K) = 4 * (N * K) := by ac_rfl
  rw [e1] at k1
  rw [e2] at hb
  obtain ⟨p, hp⟩ : ∃ p, p = X.natAbs * K := ⟨_, rfl⟩
  obtain ⟨q, hq⟩ : ∃ q, q = (Y - A).natAbs * K := ⟨_, rfl⟩
  obtain ⟨r, hr⟩ : ∃ r, r = N * K := ⟨_, rfl⟩
  rw [← hp, ← hq] at h1
  rw [← hq] at h3 h4
  rw [← hr] at h3 hb
  rw [← hp] at k1
  omega
/-- the quotient: of a number by one that isn't 0, where neither is too small or too great for the other -/
theorem div_num {x y : Nat} {a b : Int} {u U v V : Nat} (hx : Num x a) (hy : Num y b) (ha : a = 0 ∨ (2 ^ u ≤ a.natAbs ∧ a.natAbs < 2 ^ U)) (hb : 2 ^ v ≤ b.natAbs ∧ b.natAbs < 2 ^ V) (h1 : V ≤ u + 900) (h2 : U ≤ v + 1000) :
    ∃ r z, double.div x y = some r ∧ Num r z ∧ (z * b - a * 2 ^ uE).natAbs * 2 ^ 52 ≤ a.natAbs * 2 ^ uE := by
  obtain ⟨s, m, i, hr, i1, i2, i3, rfl⟩ := hx.ex
  obtain ⟨t, n, j, hr', j1, j2, j3, rfl⟩ := hy.ex
  have hvb : (sval t n j).natAbs = n * 2 ^ (j + 1074).toNat := signed_abs _ _ _
  have hva : (sval s m i).natAbs = m * 2 ^ (i + 1074).toNat := signed_abs _ _ _
  have hn0 : n ≠ 0 := by
    intro hc
    rw [hvb, hc, Nat.zero_mul] at hb
    exact absurd hb.1 (Nat.not_le_of_lt (two_posN v))
  obtain ⟨more, hmore⟩ : ∃ more, more = 54 + n.log2 - m.log2 := ⟨_, rfl⟩
  obtain ⟨D, hD⟩ : ∃ D, D = m * 2 ^ more := ⟨_, rfl⟩
  obtain ⟨M, hM⟩ : ∃ M, M = 2 * (D / n) + (D % n != 0).toNat := ⟨_, rfl⟩
  obtain ⟨P, hP⟩ : ∃ P : Int, P = i - j - more - 1 := ⟨_, rfl⟩
  have hdiv : double.div x y = some (double.nearest (s ^^ t) M P) := by
    unfold Format.div
    rw [hr, hr', fraction_eq]
    show ((if n = 0 then _ else some (Datum.number (s ^^ t) (2 * ((m <<< (54 + n.log2 - m.log2)) / n) + ((m <<< (54 + n.log2 - m.log2)) % n != 0).toNat) (i - j - ((54 + n.log2 - m.log2 : Nat) : Int) - 1))) : Option Datum).map double.write = _
    rw [if_neg hn0, ← hmore, Nat.shiftLeft_eq, ← hD, ← hM, ← hP]
    rfl
  rw [hdiv]
  by_cases hm0 : m = 0
  · have hM0 : M = 0 := by rw [hM, hD, hm0, Nat.zero_mul, Nat.zero_div, Nat.zero_mod]; rfl
    have hz : sval s m i = 0 := by
      unfold sval
      rw [hm0, signed_eq]; cases s <;> simp
    have hN := nearest_rn (s ^^ t) M P (Or.inl hM0) (by rw [hM0, Nat.zero_mul]; exact two_posN top)
    have hz2 : sval (s ^^ t) M P = 0 := by
      unfold sval
      rw [hM0, signed_eq]; cases (s ^^ t) <;> simp
    rw [hz2, rn_zero] at hN
    refine ⟨_, 0, rfl, hN, ?_⟩
    rw [hz, Int.zero_mul, Int.zero_mul]; simp
  · have ha' : 2 ^ u ≤ m * 2 ^ (i + 1074).toNat ∧ m * 2 ^ (i + 1074).toNat < 2 ^ U := by
      rcases ha with h | h
      · exfalso
        rw [h] at hva
        have := Nat.mul_pos (Nat.pos_of_ne_zero hm0) (two_posN (i + 1074).toNat)
        omega
      · rw [hva] at h; exact h
    have hb' : 2 ^ v ≤ n * 2 ^ (j + 1074).toNat ∧ n * 2 ^ (j + 1074).toNat < 2 ^ V := by rw [hvb] at hb; exact hb
    -- the places
    have p1 : u < 53 + (i + 1074).toNat := by
      have : m * 2 ^ (i + 1074).toNat < 2 ^ 53 * 2 ^ (i + 1074).toNat := Nat.mul_lt_mul_of_pos_right i3 (two_posN _)
      rw [← Nat.pow_add] at this
      exact two_lt (Nat.lt_of_le_of_lt ha'.1 this)
    have p2 : (j + 1074).toNat < V := by
      have : 1 * 2 ^ (j + 1074).toNat ≤ n * 2 ^ (j + 1074).toNat := Nat.mul_le_mul_right _ (Nat.pos_of_ne_zero hn0)
      rw [Nat.one_mul] at this
      exact two_lt (Nat.lt_of_le_of_lt this hb'.2)
    have hln : n.log2 ≤ 52 := by
      have := Nat.log2_self_le hn0
      have := two_lt (Nat.lt_of_le_of_lt this j3)
      omega
    have hP0 : -1074 ≤ P := by omega
    -- the exact product
    obtain ⟨E, hE⟩ : ∃ E : Nat, E = (P + 1074).toNat + (j + 1074).toNat := ⟨_, rfl⟩
    have hge := dividend_ge (n := n) hm0 hmore
    rw [← hD] at hge
    have hVb : sval (s ^^ t) M P * sval t n j = signed s (M * n) E := by
      unfold sval
      rw [signed_xor, hE]
    have hA : sval s m i * 2 ^ uE = signed s (2 * D) E := by
      have hu : uE = 1074 := rfl
      have e1 : (i + 1074).toNat + uE = (more + 1) + E := by omega
      unfold sval
      rw [← signed_scale, e1, hD, signed_eq, signed_eq]
      have e2 : ((2 * (m * 2 ^ more) : Nat) : Int) * 2 ^ E = (m : Int) * 2 ^ (more + 1 + E) := by
        rw [Int.natCast_mul, Int.natCast_mul, Int.natCast_pow, Int.pow_add, Int.pow_succ]
        show (2 : Int) * ((m : Int) * 2 ^ more) * 2 ^ E = (m : Int) * (2 ^ more * 2 * 2 ^ E)
        ac_rfl
      rw [e2]
    have hdiff : (sval (s ^^ t) M P * sval t n j - sval s m i * 2 ^ uE).natAbs < n * 2 ^ E := by
      rw [hVb, hA, signed_sub]
      have h3 := nat_mul_sub D n (Nat.pos_of_ne_zero hn0)
      rw [← hM] at h3
      have h4 : ((M * n : Nat) : Int) - ((2 * D : Nat) : Int) = (M : Int) * (n : Int) - 2 * (D : Int) := by rw [Int.natCast_mul, Int.natCast_mul]; rfl
      rw [h4]
      exact Nat.mul_lt_mul_of_pos_right h3 (two_posN E)
    have hAabs : (sval s m i * 2 ^ uE).natAbs = 2 * D * 2 ^ E := by rw [hA, signed_abs]
    have hA2 : (sval s m i * 2 ^ uE).natAbs = (sval s m i).natAbs * 2 ^ uE := by rw [Int.natAbs_mul, natAbs_two]
    have hbig : n * 2 ^ E * 2 ^ 54 ≤ (sval s m i).natAbs * 2 ^ uE := by
      rw [← hA2, hAabs]
      have e53 : (2 : Nat) ^ 54 = 2 * 2 ^ 53 := by decide
      have h5 : 2 * (2 ^ 53 * n) * 2 ^ E ≤ 2 * D * 2 ^ E := Nat.mul_le_mul_right _ (Nat.mul_le_mul_left 2 hge)
      have e6 : n * 2 ^ E * 2 ^ 54 = 2 * (2 ^ 53 * n) * 2 ^ E := by rw [e53]; ac_rfl
      rw [e6]; exact h5
    -- it is not too great
    have hMb : M * 2 ^ (P + 1074).toNat < 2 ^ top := by
      have hsv : (sval (s ^^ t) M P).natAbs = M * 2 ^ (P + 1074).toNat := signed_abs _ _ _
      have h6 : (sval (s ^^ t) M P * sval t n j).natAbs ≤ 2 * ((sval s m i).natAbs * 2 ^ uE) := by
        rw [← hA2]
        rw [← hA2] at hbig
        have e54 : (2 : Nat) ^ 54 = 18014398509481984 := rfl
        rw [e54] at hbig
        omega
      rw [Int.natAbs_mul, hsv, hvb, hva] at h6
      have h7 : M * 2 ^ (P + 1074).toNat * 2 ^ v ≤ M * 2 ^ (P + 1074).toNat * (n * 2 ^ (j + 1074).toNat) := Nat.mul_le_mul_left _ hb'.1
      have h8 : 2 * (m * 2 ^ (i + 1074).toNat * 2 ^ uE) ≤ 2 * (2 ^ U * 2 ^ uE) := Nat.mul_le_mul_left 2 (Nat.mul_le_mul_right _ (Nat.le_of_lt ha'.2))
      have h9 : 2 * (2 ^ U * 2 ^ uE) = 2 ^ (U + uE + 1) := by rw [Nat.pow_succ, Nat.pow_add, Nat.mul_comm]
      have h10 : M * 2 ^ (P + 1074).toNat * 2 ^ v ≤ 2 ^ (U + uE + 1) := by rw [← h9]; exact Nat.le_trans h7 (Nat.le_trans h6 h8)
      have ht : top = 2097 := rfl
      have hu : uE = 1074 := rfl
      have h11 : 2 ^ (U + uE + 1) < 2 ^ (top + v) := two_lt' (by omega)
      rw [Nat.pow_add 2 top v] at h11
      exact Nat.lt_of_mul_lt_mul_right (Nat.lt_of_le_of_lt h10 h11)
    have hN := nearest_rn (s ^^ t) M P (Or.inr hP0) hMb
    refine ⟨_, _, rfl, hN, ?_⟩
    have hrel := (rn_near (sval (s ^^ t) M P)).rel
    obtain ⟨z, hz⟩ : ∃ z, z = rn (sval (s ^^ t) M P) := ⟨_, rfl⟩
    rw [← hz] at hrel ⊢
    obtain ⟨W, hW⟩ : ∃ W, W = sval (s ^^ t) M P := ⟨_, rfl⟩
    obtain ⟨B, hB⟩ : ∃ B, B = sval t n j := ⟨_, rfl⟩
    rw [← hW] at hrel
    rw [← hW, ← hB] at hdiff
    rw [← hB]
    obtain ⟨A, hAe⟩ : ∃ A, A = sval s m i * 2 ^ uE := ⟨_, rfl⟩
    rw [← hAe] at hdiff ⊢
    rw [← hA2, ← hAe] at hbig ⊢
    have k1 : ((z - W) * B).natAbs * 9007199254740992 ≤ (W * B).natAbs := by
      rw [Int.natAbs_mul, Int.natAbs_mul]
      have := Nat.mul_le_mul_right B.natAbs hrel
      rw [Nat.mul_right_comm] at this
      exact this
    have k2 : z * B - A = (z - W) * B + (W * B - A) := by rw [Int.sub_mul]; omega
    rw [k2]
    have e54 : (2 : Nat) ^ 54 = 4 * 4503599627370496 := rfl
    have e52 : (2 : Nat) ^ 52 = 4503599627370496 := rfl
    rw [e54] at hbig
    rw [e52]
    exact fin_arith (by decide) k1 hdiff hbig
end Flt

/- Layer 4's landed dd: a quotient of two tame numbers: sizes and the error. Over whole numbers. No program is named here. -/
namespace Go.Proofs.Ytpifkjmdcbieoaa
open Go.RowKit

theorem quo_bound {K W R a1 a2 a3 a4 a5 a6 : Nat} (hR : R * K ≤ 9 * W) (h1 : a1 * K * K ≤ 130 * W) (h2 : a2 * K * K ≤ 305 * W) (h3 : a3 * K ≤ R) (h4 : a4 * K ≤ 4 * R) (h5 : a5 * K * K ≤ W) (h6 : a6 * K ≤ 12 * R) : (a1 + a2 + a3 + a4 + a5 + a6) * K * K ≤ 589 * W := by
  have k3 := Nat.mul_le_mul_right K h3
  have k4 := Nat.mul_le_mul_right K h4
  have k6 := Nat.mul_le_mul_right K h6
  rw [Nat.mul_assoc 4] at k4
  rw [Nat.mul_assoc 12] at k6
  rw [Nat.add_mul, Nat.add_mul, Nat.add_mul, Nat.add_mul, Nat.add_mul, Nat.add_mul, Nat.add_mul, Nat.add_mul, Nat.add_mul, Nat.add_mul]
  omega
theorem few_k {A K C h : Nat} (hK : 1024 ≤ K) (h1 : A * K * K ≤ C * h) (hC : C ≤ 512) : 2 * (A * K) ≤ h := by
  have h2 := Nat.mul_le_mul_left (A * K) hK
  have h3 := Nat.mul_le_mul_right h hC
  omega
theorem sum5 {R A B C D E : Int} (h : R = A + B + C + D + E) : R.natAbs ≤ A.natAbs + B.natAbs + C.natAbs + D.natAbs + E.natAbs := by omega
theorem sum6 {R A B C D E F : Int} (h : R = A + B + C + D + E + F) : R.natAbs ≤ A.natAbs + B.natAbs + C.natAbs + D.natAbs + E.natAbs + F.natAbs := by
  have h5 := Int.natAbs_add_le (A + B + C + D + E) F
  have h1 := Int.natAbs_add_le (A + B + C + D) E
  have h2 := Int.natAbs_add_le (A + B + C) D
  have h3 := Int.natAbs_add_le (A + B) C
  have h4 := Int.natAbs_add_le A B
  rw [h]
  omega
theorem rest_bound {K : Nat} (hK : 1024 ≤ K) {H L P Q X Zm R : Int} {h : Nat} (eX : X = P + Q) (a : (P - H).natAbs * K ≤ 2 * h) (hL : L.natAbs * K ≤ 2 * h) (hQ : Q.natAbs * K ≤ 4 * h)
    (b : (X - Zm).natAbs * K * K ≤ 130 * h) (c : (R - (H + L - Zm)).natAbs * K * K ≤ 305 * h) : R.natAbs * K ≤ 9 * h := by
  have e : R = (H - P) + L + (-Q) + (X - Zm) + (R - (H + L - Zm)) := by omega
  have e1 := sum5 e
  rw [Int.natAbs_neg, show (H - P).natAbs = (P - H).natAbs from by omega] at e1
  have k1 := few_k hK b (by decide)
  have k2 := few_k hK c (by decide)
  have e2 := Nat.mul_le_mul_right K e1
  rw [Nat.add_mul, Nat.add_mul, Nat.add_mul, Nat.add_mul] at e2
  omega
theorem quo_ring {H L H' L' q P Q X Zm R r t t' U : Int} (e1 : q * H' = P * U) (e2 : q * L' = Q * U) (eX : X = P + Q) :
    (q + t') * (H' + L') - (H + L) * U = (X - Zm) * U + (R - (H + L - Zm)) * U + (r - R) * U + (t * H' - r * U) + (t' - t) * H' + t' * L' := by
  subst eX
  rw [Int.add_mul, Int.mul_add, Int.mul_add, e1, e2, Int.sub_mul, Int.sub_mul, Int.sub_mul, Int.sub_mul, Int.sub_mul, Int.add_mul, Int.add_mul]
  omega
theorem quo_err {K : Nat} (hK : 1024 ≤ K) {H L H' L' q P Q X Zm R r t t' U : Int} {h : Nat} (e1 : q * H' = P * U) (e2 : q * L' = Q * U) (eX : X = P + Q) (a : (P - H).natAbs * K ≤ 2 * h) (hL : L.natAbs * K ≤ 2 * h) (hQ : Q.natAbs * K ≤ 4 * h)
    (b : (X - Zm).natAbs * K * K ≤ 130 * h) (c : (R - (H + L - Zm)).natAbs * K * K ≤ 305 * h) (d : (r - R).natAbs * K ≤ R.natAbs) (f : (t * H' - r * U).natAbs * K ≤ 2 * (r.natAbs * U.natAbs)) (g : (t' - t).natAbs * H'.natAbs * K * K ≤ h * U.natAbs) (g2 : t'.natAbs ≤ t.natAbs) (hL' : L'.natAbs * K ≤ 2 * H'.natAbs) :
    ((q + t') * (H' + L') - (H + L) * U).natAbs * K * K ≤ 589 * (h * U.natAbs) := by
  have hR := rest_bound hK eX a hL hQ b c
  have hr : r.natAbs ≤ 2 * R.natAbs := by
    have h1 := Nat.mul_le_mul_left (r - R).natAbs hK
    omega
  have hs := sum6 (quo_ring (H := H) (L := L) (Zm := Zm) (R := R) (r := r) (t := t) (t' := t') e1 e2 eX)
  rw [Int.natAbs_mul, Int.natAbs_mul, Int.natAbs_mul, Int.natAbs_mul (t' - t), Int.natAbs_mul t'] at hs
  refine Nat.le_trans (Nat.mul_le_mul_right _ (Nat.mul_le_mul_right _ hs)) ?_
  obtain ⟨u, hu⟩ : ∃ u, u = U.natAbs := ⟨_, rfl⟩
  rw [← hu] at f g ⊢
  have hru := Nat.mul_le_mul_right u hr
  rw [Nat.mul_assoc] at hru
  have f4 : (t * H' - r * U).natAbs * K ≤ 4 * (R.natAbs * u) := by omega
  have f0 : (t * H' - r * U).natAbs ≤ r.natAbs * u := by
    have h1 := Nat.mul_le_mul_left (t * H' - r * U).natAbs hK
    omega
  have f6 : t'.natAbs * L'.natAbs * K ≤ 12 * (R.natAbs * u) := by
    have h1 : t'.natAbs * (L'.natAbs * K) ≤ t'.natAbs * (2 * H'.natAbs) := Nat.mul_le_mul_left _ hL'
    have h2 : t'.natAbs * (2 * H'.natAbs) ≤ t.natAbs * (2 * H'.natAbs) := Nat.mul_le_mul_right _ g2
    have h3 : (t * H').natAbs ≤ (t * H' - r * U).natAbs + (r * U).natAbs := by
      have := Int.natAbs_add_le (t * H' - r * U) (r * U)
      rwa [show t * H' - r * U + r * U = t * H' from by omega] at this
    rw [Int.natAbs_mul, Int.natAbs_mul, ← hu] at h3
    have h4 : t.natAbs * (2 * H'.natAbs) = 2 * (t.natAbs * H'.natAbs) := by ac_rfl
    rw [← Nat.mul_assoc] at h1
    omega
  refine quo_bound (R := R.natAbs * u) (W := h * u) ?_ ?_ ?_ ?_ f4 g f6
  · calc R.natAbs * u * K = R.natAbs * K * u := by ac_rfl
      _ ≤ 9 * h * u := Nat.mul_le_mul_right _ hR
      _ = 9 * (h * u) := Nat.mul_assoc ..
  · calc (X - Zm).natAbs * u * K * K = (X - Zm).natAbs * K * K * u := by ac_rfl
      _ ≤ 130 * h * u := Nat.mul_le_mul_right _ b
      _ = 130 * (h * u) := Nat.mul_assoc ..
  · calc (R - (H + L - Zm)).natAbs * u * K * K = (R - (H + L - Zm)).natAbs * K * K * u := by ac_rfl
      _ ≤ 305 * h * u := Nat.mul_le_mul_right _ c
      _ = 305 * (h * u) := Nat.mul_assoc ..
  · calc (r - R).natAbs * u * K = (r - R).natAbs * K * u := by ac_rfl
      _ ≤ R.natAbs * u := Nat.mul_le_mul_right _ d
end Go.Proofs.Ytpifkjmdcbieoaa

/- Quo of the landed dd: the error. -/
namespace Go.Proofs.Ytpifkjmdcbieoaa
open Go.RowKit

theorem pow_sides {a b c x y z : Nat} (hx : x < 2 ^ a) (hy : y < 2 ^ b) (hz : 2 ^ c ≤ z) (h : z * 2 ^ Flt.uE ≤ 2 * (x * y)) : c + Flt.uE < a + b + 1 := by
  have c1 : x * y < 2 ^ a * 2 ^ b := Nat.mul_lt_mul'' hx hy
  have c2 : 2 ^ c * 2 ^ Flt.uE ≤ z * 2 ^ Flt.uE := Nat.mul_le_mul_right _ hz
  rw [← Nat.pow_add] at c1 c2
  refine Flt.two_lt (Nat.lt_of_le_of_lt (Nat.le_trans c2 h) ?_)
  rw [Nat.pow_succ, Nat.mul_comm]
  exact Nat.mul_lt_mul_of_pos_right c1 (by decide)
theorem pow_sides2 {a b c x y z : Nat} (hx : 2 ^ a ≤ x) (hy : 2 ^ b ≤ y) (hz : z < 2 ^ c) (h : x * y ≤ 2 * (z * 2 ^ Flt.uE)) : a + b < c + Flt.uE + 1 := by
  have c1 : 2 ^ a * 2 ^ b ≤ x * y := Nat.mul_le_mul hx hy
  have c2 : z * 2 ^ Flt.uE < 2 ^ c * 2 ^ Flt.uE := Nat.mul_lt_mul_of_pos_right hz (Flt.two_posN _)
  rw [← Nat.pow_add] at c1 c2
  refine Flt.two_lt (Nat.lt_of_le_of_lt (Nat.le_trans c1 h) ?_)
  rw [Nat.pow_succ, Nat.mul_comm (2 ^ (c + Flt.uE))]
  exact Nat.mul_lt_mul_of_pos_left c2 (by decide)
/-- where the quotient of the first parts lies -/
theorem q_size {H H' q : Int} (hd : (q * H' - H * 2 ^ Flt.uE).natAbs * 2 ^ 52 ≤ H.natAbs * 2 ^ Flt.uE) (h1 : 2 ^ 930 ≤ H.natAbs) (h2 : H.natAbs < 2 ^ 1220) (h1' : 2 ^ 930 ≤ H'.natAbs) (h2' : H'.natAbs < 2 ^ 1220) : 2 ^ 782 ≤ q.natAbs ∧ q.natAbs < 2 ^ 1366 := by
  have a1 := Flt.natAbs_uE H
  have a2 : (q * H').natAbs = q.natAbs * H'.natAbs := Int.natAbs_mul ..
  rw [← a1] at hd
  have e52 : (2 : Nat) ^ 52 = 4503599627370496 := rfl
  rw [e52] at hd
  have b1 : (q * H').natAbs ≤ 2 * (H * 2 ^ Flt.uE).natAbs := by omega
  have b2 : (H * 2 ^ Flt.uE).natAbs ≤ 2 * (q * H').natAbs := by omega
  rw [a1, a2] at b1 b2
  constructor
  · refine Classical.byContradiction fun hc => ?_
    have := pow_sides (a := 782) (b := 1220) (c := 930) (Nat.lt_of_not_le hc) h2' h1 b2
    have hu : Flt.uE = 1074 := rfl
    omega
  · refine Classical.byContradiction fun hc => ?_
    have := pow_sides2 (a := 1366) (b := 930) (c := 1220) (Nat.le_of_not_lt hc) h1' h2 b1
    have hu : Flt.uE = 1074 := rfl
    omega
theorem q_zero {H H' q : Int} (hd : (q * H' - H * 2 ^ Flt.uE).natAbs * 2 ^ 52 ≤ H.natAbs * 2 ^ Flt.uE) (h0 : H = 0) (h' : H' ≠ 0) : q = 0 := by
  rw [h0, Int.zero_mul, Int.sub_zero, Int.natAbs_zero, Nat.zero_mul] at hd
  have h1 : (q * H').natAbs = 0 := by
    rcases Nat.mul_eq_zero.1 (Nat.le_zero.1 hd) with h | h
    · exact h
    · exact absurd h (by decide)
  rcases Int.mul_eq_zero.1 (Int.natAbs_eq_zero.1 h1) with h | h
  · exact h
  · exact absurd h h'
/-- the quotient's product with the divisor's first part -/
theorem p_near {H H' q P : Int} (hd : (q * H' - H * 2 ^ Flt.uE).natAbs * 2 ^ 52 ≤ H.natAbs * 2 ^ Flt.uE) (hP : H' * q = P * 2 ^ Flt.uE) : (P - H).natAbs * 2 ^ 52 ≤ H.natAbs := by
  rw [Int.mul_comm] at hP
  rw [hP, ← Int.sub_mul, Flt.natAbs_uE] at hd
  refine Nat.le_of_mul_le_mul_right ?_ (Flt.two_posN Flt.uE)
  rwa [Nat.mul_right_comm] at hd
theorem dbl_pow {a b x y : Nat} (h : x ≤ 2 * y) (hy : y ≤ 2 ^ a) (hb : a + 1 ≤ b) : x ≤ 2 ^ b := by
  refine Nat.le_trans (Nat.le_trans h ?_) (Flt.two_le hb)
  rw [Nat.pow_succ, Nat.mul_comm]
  exact Nat.mul_le_mul_right _ hy
theorem MulIn.quo {y' : Nat} {H L H' L' q : Int} (nq : Flt.Num y' q) (hT : Flt.TameN H L) (hT' : Flt.TameN H' L') (h' : H' ≠ 0) (hd : (q * H' - H * 2 ^ Flt.uE).natAbs * 2 ^ 52 ≤ H.natAbs * 2 ^ Flt.uE) : MulIn H' L' q 0 := by
  obtain ⟨fH', fL'⟩ := TameN.from hT'
  have hq : q = 0 ∨ (2 ^ 782 ≤ q.natAbs ∧ q.natAbs < 2 ^ 1366) := by
    rcases hT with ⟨h0, _⟩ | ⟨h1, h2, _, _⟩
    · exact Or.inl (q_zero hd h0 h')
    · rcases hT' with ⟨h0, _⟩ | ⟨h1', h2', _, _⟩
      · exact absurd h0 h'
      · exact Or.inr (q_size hd h1 h2 h1' h2')
  refine ⟨TameN.rn hT', by rw [Int.add_zero]; exact Flt.rn_fl nq.fl, FromN.down fH' (by decide), fL', ?_, Or.inl rfl, TameN.mild hT', ?_, fun P hP => ?_⟩
  · rcases hq with h | ⟨h1, h2⟩
    · exact Or.inl h
    · exact FromN.down (Flt.FromN.of (k := 782) (e0 := 730) (by decide) h1 (Nat.lt_of_lt_of_le h2 (Flt.two_le (a := 1366) (b := 1400) (by decide)))) (by decide)
  · rcases hq with h | ⟨h1, h2⟩
    · exact Or.inl h
    · exact Or.inr ⟨Nat.le_trans (Flt.two_le (a := mlo) (b := 782) (by decide)) h1, Nat.lt_of_lt_of_le h2 (Flt.two_le (a := 1366) (b := mhi) (by decide))⟩
  · have hn := p_near hd hP
    have e52 : (2 : Nat) ^ 52 = 4503599627370496 := rfl
    rw [e52] at hn
    have b1 : P.natAbs ≤ 2 * H.natAbs := by omega
    have b2 : H.natAbs ≤ 2 * P.natAbs := by omega
    refine ⟨?_, dbl_pow (a := 1220) (b := 1366) b1 (TameN.up hT).1 (by decide)⟩
    rcases hT with ⟨h0, _⟩ | ⟨h1, _, _, _⟩
    · left
      rw [h0] at b1
      omega
    · right
      exact Nat.le_trans (Flt.two_le (a := 786) (b := 929) (by decide)) (half (k := 929) (j := 930) (by decide) b2 h1)
/-- the product that is taken away: one that Add bears -/
theorem MulRk.nearP {H L H' L' P Q1 Q2 Q3 p e m1 m2 c f Z : Int} (h : MulRk H L H' L' P Q1 Q2 Q3 p e m1 m2 c f Z) : (Z - P).natAbs * 8 ≤ P.natAbs := by
  obtain ⟨a1, a2, a3, _⟩ := h.R.lo
  have b := few_k (h := 4 * P.natAbs) (K := Flt.K53) (by rw [Flt.K53_eq]; decide) (C := 17) (Nat.le_trans h.bound (by omega)) (by decide)
  have b2 := Nat.mul_le_mul_left (Z - (P + Q1 + Q2 + Q3)).natAbs K53_k
  have k1 : (Q1 + Q2 + Q3).natAbs * 32 ≤ 3 * P.natAbs := by omega
  clear a1 a2 a3
  omega
theorem quarter4 {s P : Nat} {k j : Nat} (hj : j = k + 2) (h : P ≤ 4 * s) (hP : 2 ^ j ≤ P) : 2 ^ k ≤ s := by
  rw [hj, Nat.pow_add] at hP
  omega
theorem AddIn.neg {H L H' L' P Q1 Q2 Q3 p e m1 m2 c f Z : Int} (h : MulRk H L H' L' P Q1 Q2 Q3 p e m1 m2 c f Z) (hP : P = 0 ∨ 2 ^ 929 ≤ P.natAbs) (hPu : P.natAbs ≤ 2 ^ 1221) : AddIn (-Flt.rn Z) (-(Z - Flt.rn Z)) := by
  have hz := h.nearP
  have hr := rn_le2 Z
  have hr2 := rn_ge2 Z
  refine ⟨?_, ?_, ?_, ?_⟩
  · refine Int.dvd_neg.2 ?_
    rcases hP with h0 | h0
    · rw [h.zero h0, Flt.rn_zero]; exact Int.dvd_zero _
    · refine fl_dvd_of (e := 674) (k := 726) (by decide) (Flt.rn_near Z).fl (Or.inr ?_)
      exact Nat.le_trans (Flt.two_le (a := 726) (b := 927) (by decide)) (quarter4 (k := 927) (j := 929) (by decide) (by omega) h0)
  · rw [Int.natAbs_neg]
    have e1 := Flt.two_add6 1221
    have e2 := Flt.two_le (a := 6 + 1221) (b := 1240) (by decide)
    obtain ⟨A, hA⟩ : ∃ A, A = 2 ^ 1221 := ⟨_, rfl⟩
    obtain ⟨B, hB⟩ : ∃ B, B = 2 ^ 1240 := ⟨_, rfl⟩
    obtain ⟨C, hC⟩ : ∃ C, C = 2 ^ (6 + 1221) := ⟨_, rfl⟩
    rw [← hA] at hPu e1
    rw [← hC] at e1 e2
    rw [← hB] at e2 ⊢
    omega
  · refine Flt.near_lo ?_
    rw [show -Flt.rn Z + -(Z - Flt.rn Z) = -Z from by omega, Flt.rn_neg]
  · exact kp_dvd (Int.dvd_neg.2 (Int.dvd_sub h.dvd (rn_dvd h.dvd)))
/-- what a quotient is made of, up to the rest -/
structure QuoS (H L H' L' q P Q1 Q2 Q3 p e m1 m2 c f Zm s1 e1 t1 f1 v1 s2 e2 g R : Int) : Prop where
  dq : (q * H' - H * 2 ^ Flt.uE).natAbs * 2 ^ 52 ≤ H.natAbs * 2 ^ Flt.uE
  ml : MulRk H' L' q 0 P Q1 Q2 Q3 p e m1 m2 c f Zm
  ad : AddRk H L (-Flt.rn Zm) (-(Zm - Flt.rn Zm)) s1 e1 t1 f1 v1 s2 e2 g R
/-- all of it -/
structure QuoR (H L H' L' q P Q1 Q2 Q3 p e m1 m2 c f Zm s1 e1 t1 f1 v1 s2 e2 g R t Z : Int) : Prop where
  S : QuoS H L H' L' q P Q1 Q2 Q3 p e m1 m2 c f Zm s1 e1 t1 f1 v1 s2 e2 g R
  dt : (t * H' - Flt.rn R * 2 ^ Flt.uE).natAbs * 2 ^ 52 ≤ (Flt.rn R).natAbs * 2 ^ Flt.uE
  hZ : Z = q + kp t
section
variable {H L H' L' q P Q1 Q2 Q3 p e m1 m2 c f Zm s1 e1 t1 f1 v1 s2 e2 g R t Z : Int}
theorem two52 {a b : Nat} (h : a * 2 ^ 52 ≤ b) : a * Flt.K53 ≤ 2 * b := by
  rw [K53_pow, show (53 : Nat) = 52 + 1 from rfl, Nat.pow_succ, ← Nat.mul_assoc, Nat.mul_comm]
  exact Nat.mul_le_mul_left 2 h
theorem near_size {P H : Int} (h : (P - H).natAbs * 2 ^ 52 ≤ H.natAbs) : P.natAbs ≤ 2 * H.natAbs ∧ H.natAbs ≤ 2 * P.natAbs := by
  have e52 : (2 : Nat) ^ 52 = 4503599627370496 := rfl
  rw [e52] at h
  omega
/-- sizes of what is met on the way -/
theorem QuoS.nP (h : QuoS H L H' L' q P Q1 Q2 Q3 p e m1 m2 c f Zm s1 e1 t1 f1 v1 s2 e2 g R) : (P - H).natAbs * 2 ^ 52 ≤ H.natAbs := p_near h.dq h.ml.R.hP
theorem QuoS.Zm8 (h : QuoS H L H' L' q P Q1 Q2 Q3 p e m1 m2 c f Zm s1 e1 t1 f1 v1 s2 e2 g R) : (Flt.rn Zm).natAbs ≤ 8 * H.natAbs := by
  have h1 := (near_size h.nP).1
  have h2 := h.ml.nearP
  have h3 := rn_le2 Zm
  omega
theorem QuoS.parts (h : QuoS H L H' L' q P Q1 Q2 Q3 p e m1 m2 c f Zm s1 e1 t1 f1 v1 s2 e2 g R) (hT : Flt.TameN H L) (hi : AddIn H L) (hn : AddIn (-Flt.rn Zm) (-(Zm - Flt.rn Zm))) (h0 : 2 ^ 930 ≤ H.natAbs) :
    (P - H).natAbs * Flt.K53 ≤ 2 * H.natAbs ∧ L.natAbs * Flt.K53 ≤ 2 * H.natAbs ∧ Q2.natAbs * Flt.K53 ≤ 4 * H.natAbs ∧ (P + Q2 - Zm).natAbs * Flt.K53 * Flt.K53 ≤ 130 * H.natAbs ∧ (R - (H + L - Zm)).natAbs * Flt.K53 * Flt.K53 ≤ 305 * H.natAbs := by
  have hP := h.nP
  obtain ⟨p1, p2⟩ := near_size hP
  have q1 : Q1 = 0 := by
    have := h.ml.R.h1
    rw [Int.mul_zero] at this
    rcases Int.mul_eq_zero.1 this.symm with k | k
    · exact k
    · exact absurd k (Int.ne_of_gt (Flt.two_pos _))
  have q3 : Q3 = 0 := by
    have := h.ml.R.h3
    rw [Int.mul_zero] at this
    rcases Int.mul_eq_zero.1 this.symm with k | k
    · exact k
    · exact absurd k (Int.ne_of_gt (Flt.two_pos _))
  have a2 := Flt.part_lo (H := q) (P := P) (Q := Q2) (a := H') (b := L') (by rw [Int.mul_comm]; exact h.ml.R.hP) (by rw [Int.mul_comm]; exact h.ml.R.h2) (Flt.lo_le h.ml.R.rL)
  have hb := h.ml.bound
  rw [q1, q3, Int.add_zero, Int.add_zero, show (Zm - (P + Q2)).natAbs = (P + Q2 - Zm).natAbs from by omega] at hb
  have he := h.ad.err (B := 8 * H.natAbs) hi hn (by omega) (by rw [Int.natAbs_neg]; exact h.Zm8)
  rw [show H + L + (-Flt.rn Zm + -(Zm - Flt.rn Zm)) = H + L - Zm from by omega] at he
  have hs := q400_small h0
  rw [show (2 : Nat) ^ 7 = 128 from rfl] at hs
  refine ⟨two52 hP, Flt.lo_le (TameN.rn hT), by omega, by omega, by omega⟩
theorem QuoS.zero (h : QuoS H L H' L' q P Q1 Q2 Q3 p e m1 m2 c f Zm s1 e1 t1 f1 v1 s2 e2 g R) (hi : AddIn H L) (hn : AddIn (-Flt.rn Zm) (-(Zm - Flt.rn Zm))) (h' : H' ≠ 0) (h0 : H = 0) : q = 0 ∧ R = 0 := by
  have hq := q_zero h.dq h0 h'
  have hP : P = 0 := by
    have := (near_size h.nP).1
    rw [h0] at this
    simpa using this
  have hZ := h.ml.zero hP
  exact ⟨hq, h.ad.zero hi hn h0 (by rw [hZ, Flt.rn_zero]; rfl)⟩
theorem QuoR.zero (h : QuoR H L H' L' q P Q1 Q2 Q3 p e m1 m2 c f Zm s1 e1 t1 f1 v1 s2 e2 g R t Z) (hi : AddIn H L) (hn : AddIn (-Flt.rn Zm) (-(Zm - Flt.rn Zm))) (h' : H' ≠ 0) (h0 : H = 0) : Z = 0 := by
  obtain ⟨hq, hR⟩ := h.S.zero hi hn h' h0
  have ht := q_zero h.dt (by rw [hR, Flt.rn_zero]) h'
  rw [h.hZ, hq, ht, kp_zero]; rfl
theorem QuoS.rest (h : QuoS H L H' L' q P Q1 Q2 Q3 p e m1 m2 c f Zm s1 e1 t1 f1 v1 s2 e2 g R) (hT : Flt.TameN H L) (hi : AddIn H L) (hn : AddIn (-Flt.rn Zm) (-(Zm - Flt.rn Zm))) (h0 : 2 ^ 930 ≤ H.natAbs) : R.natAbs ≤ H.natAbs := by
  obtain ⟨a, hL, hQ, b, c⟩ := h.parts hT hi hn h0
  have hr := rest_bound (K := Flt.K53) (by rw [Flt.K53_eq]; decide) rfl a hL hQ b c
  have h2 := Nat.mul_le_mul_left R.natAbs K53_k
  omega
theorem big_pow {a b c d k x h : Nat} (hb : x ≤ 2 ^ b) (hh : 2 ^ k ≤ h) (hk : a + b + c + d ≤ k + Flt.uE) : 2 ^ a * x * 2 ^ c * 2 ^ d ≤ h * 2 ^ Flt.uE := by
  have h1 : 2 ^ a * x * 2 ^ c * 2 ^ d ≤ 2 ^ a * 2 ^ b * 2 ^ c * 2 ^ d := Nat.mul_le_mul_right _ (Nat.mul_le_mul_right _ (Nat.mul_le_mul_left _ hb))
  have h2 : 2 ^ k * 2 ^ Flt.uE ≤ h * 2 ^ Flt.uE := Nat.mul_le_mul_right _ hh
  rw [← Nat.pow_add, ← Nat.pow_add, ← Nat.pow_add] at h1
  rw [← Nat.pow_add] at h2
  exact Nat.le_trans h1 (Nat.le_trans (Flt.two_le hk) h2)
theorem q400_big {h b u : Nat} (hh : 2 ^ 930 ≤ h) (hb : b ≤ 2 ^ 1220) (hu : u = 2 ^ Flt.uE) : q400 * b * Flt.K53 * Flt.K53 ≤ h * u := by
  rw [q400_eq, K53_pow, hu]
  have k := @big_pow 674 1220 53 53 930 b h hb hh (by decide)
  exact k
theorem QuoR.bound (h : QuoR H L H' L' q P Q1 Q2 Q3 p e m1 m2 c f Zm s1 e1 t1 f1 v1 s2 e2 g R t Z) (hT : Flt.TameN H L) (hT' : Flt.TameN H' L') (hi : AddIn H L) (hn : AddIn (-Flt.rn Zm) (-(Zm - Flt.rn Zm))) (h0 : 2 ^ 930 ≤ H.natAbs) :
    (Z * (H' + L') - (H + L) * 2 ^ Flt.uE).natAbs * Flt.K53 * Flt.K53 ≤ 589 * (H.natAbs * 2 ^ Flt.uE) := by
  obtain ⟨a, hL, hQ, b, c⟩ := h.S.parts hT hi hn h0
  have hU := Flt.natAbs_two Flt.uE
  have hf := two52 h.dt
  have hg : (kp t - t).natAbs * H'.natAbs * Flt.K53 * Flt.K53 ≤ H.natAbs * 2 ^ Flt.uE := Nat.le_trans (Nat.mul_le_mul_right _ (Nat.mul_le_mul_right _ (Nat.mul_le_mul_right _ (kp_err t)))) (q400_big h0 (TameN.up hT').1 rfl)
  rw [h.hZ]
  have k := quo_err (K := Flt.K53) (by rw [Flt.K53_eq]; decide) (H := H) (L := L) (H' := H') (L' := L') (q := q) (P := P) (Q := Q2) (X := P + Q2) (Zm := Zm) (R := R) (r := Flt.rn R) (t := t) (t' := kp t) (U := 2 ^ Flt.uE) (h := H.natAbs)
    (by rw [Int.mul_comm]; exact h.S.ml.R.hP) (by rw [Int.mul_comm]; exact h.S.ml.R.h2) rfl a hL hQ b c (Flt.rn_near R).relK (by rw [hU]; exact hf) (by rw [hU]; exact hg) (kp_le t) (Flt.lo_le (TameN.rn hT'))
  rw [hU] at k
  exact k
end
theorem run_fquo {P : Program} (t : TypeId) {x y r : Nat} (h : Ieee.double.div x y = some r) (w : World) : (binOp .quo t (.float .f64 x) (.float .f64 y)).run P w = .ok (.float .f64 r) w := run_float_arith w .quo t .f64 x y r h
end Go.Proofs.Ytpifkjmdcbieoaa

/- Layer 4's landed dd: a sum of any two neat numbers: the steps, sizes, the error. Over whole numbers. No program is named here. -/
namespace Go.Proofs.Ytpifkjmdcbieoaa
open Go.RowKit

/-- the steps -/
structure AddRf (H L H' L' s1 e1 t1 f1 v s2 e2 g Z : Int) : Prop where
  r_s1 : s1 = Flt.rn (kp H + kp H')
  r_e1 : e1 = kp H + kp H' - s1
  r_t1 : t1 = Flt.rn (kp L + kp L')
  r_f1 : f1 = kp L + kp L' - t1
  r_v : v = Flt.rn (e1 + t1)
  r_s2 : s2 = Flt.rn (kp s1 + kp v)
  r_e2 : e2 = kp s1 + kp v - s2
  r_g : g = Flt.rn (e2 + f1)
  r_Z : Z = kp s2 + kp g
def AF (H L H' L' Z : Int) : Prop := ∃ s1 e1 t1 f1 v s2 e2 g, AddRf H L H' L' s1 e1 t1 f1 v s2 e2 g Z
section
variable {H L H' L' s1 e1 t1 f1 v s2 e2 g Z : Int}
theorem AddRf.bounds {V : Nat} (h : AddRf H L H' L' s1 e1 t1 f1 v s2 e2 g Z) (bH : H.natAbs ≤ V) (bL : L.natAbs ≤ V) (bH' : H'.natAbs ≤ V) (bL' : L'.natAbs ≤ V) : AddBk V s1 e1 t1 f1 v s2 e2 g Z := by
  obtain ⟨h1, h2, h3, h4, h5, h6, h7, h8, h9⟩ := h
  have k1 : (kp H + kp H').natAbs ≤ 2 * V := na_add (kp_up bH) (kp_up bH') (by omega)
  have k2 : (kp L + kp L').natAbs ≤ 2 * V := na_add (kp_up bL) (kp_up bL') (by omega)
  have q1 : s1.natAbs ≤ 4 * V := h1 ▸ na_rn k1 (by omega)
  have q2 : e1.natAbs ≤ 8 * V := h2 ▸ na_sub k1 q1 (by omega)
  have q3 : t1.natAbs ≤ 4 * V := h3 ▸ na_rn k2 (by omega)
  have q4 : f1.natAbs ≤ 8 * V := h4 ▸ na_sub k2 q3 (by omega)
  have q5 : v.natAbs ≤ 32 * V := h5 ▸ na_rn (na_add q2 q3 (Nat.le_refl _)) (by omega)
  have k3 : (kp s1 + kp v).natAbs ≤ 64 * V := na_add (kp_up q1) (kp_up q5) (by omega)
  have q6 : s2.natAbs ≤ 128 * V := h6 ▸ na_rn k3 (by omega)
  have q7 : e2.natAbs ≤ 256 * V := h7 ▸ na_sub k3 q6 (by omega)
  have q8 : g.natAbs ≤ 1024 * V := h8 ▸ na_rn (na_add q7 q4 (Nat.le_refl _)) (by omega)
  have q9 : Z.natAbs ≤ 2048 * V := h9 ▸ na_add (kp_up q6) (kp_up q8) (by omega)
  exact ⟨q1, q2, q3, q4, q5, q6, q7, q8, q9⟩
theorem kp_lo {H L : Int} {B : Nat} (h : L.natAbs * Flt.K53 ≤ H.natAbs + L.natAbs) (hB : H.natAbs ≤ B) : (kp L).natAbs * Flt.K53 ≤ B + (kp L).natAbs := by
  rcases kp_or L with ⟨h1, _⟩ | ⟨h1, _⟩ <;> rw [h1]
  · simp
  · omega
theorem five3 {a b c d e f g h q : Nat} (ha : a ≤ q) (hb : b ≤ q) (hc : c ≤ q) (hd : d ≤ q) (he : e ≤ q) (hf : f ≤ q) (hg : g ≤ q) (hh : h ≤ q) : a + b + c + d + e + (f + g + h) ≤ 8 * q := by omega
theorem sum10 {Z X A B C D E F G I J K : Int} (h : Z - X = A + B + C + D + E + F + G + I + J + K) : (Z - X).natAbs ≤ A.natAbs + B.natAbs + (C.natAbs + D.natAbs + E.natAbs + F.natAbs + G.natAbs + (I.natAbs + J.natAbs + K.natAbs)) := by
  rw [h]
  have h1 := Int.natAbs_add_le (A + B + C + D + E + F) G
  have h2 := Int.natAbs_add_le (A + B + C + D + E) F
  have h3 := Int.natAbs_add_le (A + B + C + D) E
  have h4 := Int.natAbs_add_le (A + B + C) D
  have h5 := Int.natAbs_add_le (A + B) C
  have h6 := Int.natAbs_add_le A B
  have h7 := Int.natAbs_add_le (A + B + C + D + E + F + G) I
  have h8 := Int.natAbs_add_le (A + B + C + D + E + F + G + I) J
  have h9 := Int.natAbs_add_le (A + B + C + D + E + F + G + I + J) K
  omega
theorem na_two {a b : Int} {A B : Nat} (ha : a.natAbs ≤ A) (hb : b.natAbs ≤ B) : (a + b).natAbs ≤ A + B := by omega
theorem na_of {a b c : Int} {C : Nat} (h : a + b = c) (hc : c.natAbs ≤ C) : a.natAbs ≤ C + b.natAbs := by omega
theorem na_from {v c : Int} {C : Nat} (hc : c.natAbs ≤ C) : v.natAbs ≤ C + (v - c).natAbs := by omega
/-- the error -/
theorem AddRf.err {B : Nat} (h : AddRf H L H' L' s1 e1 t1 f1 v s2 e2 g Z) (hi : L.natAbs * Flt.K53 ≤ H.natAbs + L.natAbs) (hi' : L'.natAbs * Flt.K53 ≤ H'.natAbs + L'.natAbs) (hh : H.natAbs ≤ B) (hh' : H'.natAbs ≤ B) : (Z - (H + L + (H' + L'))).natAbs * Flt.K53 * Flt.K53 ≤ 38 * B + 8 * (q400 * Flt.K53 * Flt.K53) := by
  obtain ⟨h1, h2, h3, h4, h5, h6, h7, h8, h9⟩ := h
  have n1 : Flt.Near (kp H + kp H') s1 := h1 ▸ Flt.rn_near _
  have n2 : Flt.Near (kp L + kp L') t1 := h3 ▸ Flt.rn_near _
  have n3 : Flt.Near (e1 + t1) v := h5 ▸ Flt.rn_near _
  have n4 : Flt.Near (kp s1 + kp v) s2 := h6 ▸ Flt.rn_near _
  have n5 : Flt.Near (e2 + f1) g := h8 ▸ Flt.rn_near _
  have x1 : s1 + e1 = kp H + kp H' := by omega
  have x2 : t1 + f1 = kp L + kp L' := by omega
  have x4 : s2 + e2 = kp s1 + kp v := by omega
  have hv := kp_le v
  have hs := kp_le s1
  have hH := kp_up hh
  have hH' := kp_up hh'
  have b := Flt.add_bound (K := Flt.K53) (B := B) (h := B) (h' := B) (l := (kp L).natAbs) (l' := (kp L').natAbs) (e1 := e1.natAbs) (f1 := f1.natAbs) (t1 := t1.natAbs) (v := (kp v).natAbs) (d1 := (v - (e1 + t1)).natAbs) (s1 := (kp s1).natAbs) (e2 := e2.natAbs) (d2 := (g - (e2 + f1)).natAbs) Flt.K53_ge (Nat.le_refl _) (Nat.le_refl _) (kp_lo hi hh) (kp_lo hi' hh')
    (Nat.le_trans (Flt.near_part n1 x1) (na_two hH hH')) (Nat.le_trans (Flt.near_part n2 x2) (Int.natAbs_add_le _ _)) (na_of x2 (Int.natAbs_add_le _ _)) (Nat.le_trans n3.relK (Int.natAbs_add_le _ _)) (Nat.le_trans hv (na_from (Int.natAbs_add_le e1 t1))) (Nat.le_trans hs (na_of x1 (na_two hH hH'))) (Nat.le_trans (Flt.near_part n4 x4) (Int.natAbs_add_le _ _)) (Nat.le_trans n5.relK (Int.natAbs_add_le _ _))
  have e0 : Z - (H + L + (H' + L')) = (v - (e1 + t1)) + (g - (e2 + f1)) + (kp s2 - s2) + (kp g - g) + (kp v - v) + (kp L - L) + (kp L' - L') + (kp s1 - s1) + (kp H - H) + (kp H' - H') := by omega
  have e1 := sum10 e0
  have e2 := five3 (kp_err s2) (kp_err g) (kp_err v) (kp_err L) (kp_err L') (kp_err s1) (kp_err H) (kp_err H')
  have e3 := Nat.le_trans e1 (Nat.add_le_add_left e2 _)
  have e4 := Nat.mul_le_mul_right Flt.K53 (Nat.mul_le_mul_right Flt.K53 e3)
  rw [Nat.add_mul, Nat.add_mul] at e4
  refine Nat.le_trans e4 (Nat.add_le_add b (Nat.le_of_eq ?_))
  rw [Nat.mul_assoc, Nat.mul_assoc, Nat.mul_assoc]
theorem AddRf.fl (h : AddRf H L H' L' s1 e1 t1 f1 v s2 e2 g Z) : Flt.FL s2 ∧ Flt.FL g := ⟨h.r_s2 ▸ (Flt.rn_near _).fl, h.r_g ▸ (Flt.rn_near _).fl⟩
end
end Go.Proofs.Ytpifkjmdcbieoaa

/- eft.Sum, New and sum of what is kept, as functions: the words that they answer are known ahead of the call. -/
namespace Go.Proofs.Ytpifkjmdcbieoaa
open Go.RowKit

theorem sum_pure (x y : Nat) (a b : Int) (hx : Flt.Num x a) (hy : Flt.Num y b) (ha' : a.natAbs ≤ 2 ^ 1474) (hb' : b.natAbs ≤ 2 ^ 1474) :
    ∃ s e, Flt.Num s (Flt.rn (a + b)) ∧ Flt.Num e (a + b - Flt.rn (a + b)) ∧ ∀ w, Calls Try.prog 51 #[.float .f64 x, .float .f64 y] w fun r w' => r = .returned (.tuple #[.float .f64 s, .float .f64 e]) ∧ w = w' := by
  have ha := upTo1 ha'
  have hb := upTo1 hb'
  obtain ⟨s', k1, k2⟩ := Flt.add_rn hx hy ((ha.add hb).lt (by decide))
  obtain ⟨s, σ, h1, n1, r1, u1⟩ := fadd hx hy ha hb (by decide)
  obtain ⟨p, π, h2, n2, r2, u2⟩ := fsub n1 hx u1 ha (by decide)
  obtain ⟨q, κ, h3, n3, r3, u3⟩ := fsub n1 n2 u1 u2 (by decide)
  obtain ⟨d1, δ1, h4, n4, r4, u4⟩ := fsub hx n3 ha u3 (by decide)
  obtain ⟨d2, δ2, h5, n5, r5, u5⟩ := fsub hy n2 hb u2 (by decide)
  obtain ⟨e, ε, h6, n6, r6, u6⟩ := fadd n4 n5 u4 u5 (by decide)
  have hsum := Flt.two_sum hy.fl hx.fl (by rwa [Int.add_comm] at r1) r2 r3 r5 r4 (by rwa [Int.add_comm] at r6)
  have es : s = s' := Option.some.inj (h1.symm.trans k1)
  rw [← es] at k2
  have hσ : σ = Flt.rn (a + b) := num_same' n1 k2
  refine ⟨s, e, k2, ?_, fun w => sum_run w h1 h2 h3 h4 h5 h6⟩
  rw [show a + b - Flt.rn (a + b) = ε from by omega]
  exact n6
theorem new_pure (x y : Nat) (a b : Int) (hx : Flt.Num x a) (hy : Flt.Num y b) (ha : a.natAbs ≤ 2 ^ 1474) (hb : b.natAbs ≤ 2 ^ 1474) :
    ∃ s e, Flt.Num s (Flt.rn (a + b)) ∧ Flt.Num e (a + b - Flt.rn (a + b)) ∧ ∀ w, Calls Try.prog 49 #[.float .f64 x, .float .f64 y] w fun r w' => r = .returned (.agg #[.float .f64 s, .float .f64 e]) ∧ Bel w w' := by
  have sf := run_store_float Try.prog
  obtain ⟨s, e, ns, ne, hS⟩ := sum_pure x y a b hx hy ha hb
  refine ⟨s, e, ns, ne, fun w => ?_⟩
  clear hx hy ha hb ns ne
  go_enter Try.func49, Try.ntmps49
  go_wp2_with fail
  refine (hS _).mono ?_; rintro r w1 ⟨rfl, rfl⟩
  go_wp2
  refine bodyPost_ret (by simp [results, go_sem]; try rfl) rfl ?_
  exact ⟨rfl, (Bel.refl _).alloc _⟩
/-- New of what is kept -/
theorem sumk_pure (x y : Nat) (a b : Int) (hx : Flt.Num x a) (hy : Flt.Num y b) (ha : a.natAbs ≤ 2 ^ 1474) (hb : b.natAbs ≤ 2 ^ 1474) :
    ∃ s e, Flt.Num s (Flt.rn (kp a + kp b)) ∧ Flt.Num e (kp a + kp b - Flt.rn (kp a + kp b)) ∧ ∀ w, Calls Try.prog 34 #[.float .f64 x, .float .f64 y] w fun r w' => r = .returned (.agg #[.float .f64 s, .float .f64 e]) ∧ Bel w w' := by
  have sf := run_store_float Try.prog
  obtain ⟨p, np, k1⟩ := kept_pure x a hx
  obtain ⟨q, nq, k2⟩ := kept_pure y b hy
  obtain ⟨s, e, ns, ne, kN⟩ := new_pure p q (kp a) (kp b) np nq (kp_up ha) (kp_up hb)
  refine ⟨s, e, ns, ne, fun w => ?_⟩
  clear hx hy ha hb np nq ns ne
  go_enter Try.func34, Try.ntmps34
  go_wp2_with fail
  refine (k1 _).mono ?_; rintro r w1 ⟨rfl, rfl⟩
  go_wp2_with fail
  refine (k2 _).mono ?_; rintro r w1 ⟨rfl, rfl⟩
  go_wp2_with fail
  refine (kN _).mono ?_; rintro r w1 ⟨rfl, hB⟩
  have hT3 := (Two.new w 0 0 30).by hB
  have hBw := ((Bel.refl w).alloc (.cells #[.float .f64 0, .float .f64 0] 30)).trans hB
  obtain ⟨R, hR⟩ : ∃ R, R = w.heap.size := ⟨_, rfl⟩
  have hRw : w.heap.size ≤ R := by omega
  rw [← hR] at hT3 ⊢
  obtain ⟨m1, m2⟩ := hT3.mid s
  obtain ⟨d0, d1, _, _⟩ := hT3.set s e
  obtain ⟨c0, c1, f0, f1⟩ := hT3
  clear kN k1 k2 hR hB
  go_wp2
  refine bodyPost_ret (by simp [results, go_sem, d0, d1]; try rfl) rfl ?_
  exact ⟨rfl, (hBw.setCell hRw _).setCell hRw _⟩
end Go.Proofs.Ytpifkjmdcbieoaa

/- Add of the landed dd, as a function, of any two numbers that are not too great: the walk. -/
namespace Go.Proofs.Ytpifkjmdcbieoaa
open Go.RowKit

set_option maxHeartbeats 2000000 in
theorem add_pure (x y u v : Nat) (H L H' L' : Int) (hx : Flt.Num x H) (hy : Flt.Num y L) (hu : Flt.Num u H') (hv : Flt.Num v L') (b1 : H.natAbs ≤ 2 ^ 1240) (b2 : L.natAbs ≤ 2 ^ 1240) (b3 : H'.natAbs ≤ 2 ^ 1240) (b4 : L'.natAbs ≤ 2 ^ 1240) :
    ∃ s e Z, AF H L H' L' Z ∧ Flt.Num s (Flt.rn Z) ∧ Flt.Num e (Z - Flt.rn Z) ∧
      ∀ w, Calls Try.prog 20 #[.agg #[.float .f64 x, .float .f64 y], .agg #[.float .f64 u, .float .f64 v]] w fun r w' => r = .returned (.agg #[.float .f64 s, .float .f64 e]) ∧ Bel w w' := by
  have sf := run_store_float Try.prog
  obtain ⟨s1, e1, t1, f1, v1, s2, e2, g, Z, hR⟩ : ∃ s1 e1 t1 f1 v1 s2 e2 g Z, AddRf H L H' L' s1 e1 t1 f1 v1 s2 e2 g Z := ⟨_, _, _, _, _, _, _, _, _, rfl, rfl, rfl, rfl, rfl, rfl, rfl, rfl, rfl⟩
  obtain ⟨V, hV⟩ : ∃ V, V = 2 ^ 1240 := ⟨_, rfl⟩
  have hB := hR.bounds (V := V) (hV ▸ b1) (hV ▸ b2) (hV ▸ b3) (hV ▸ b4)
  have w74 : ∀ {n : Nat}, n ≤ 1048576 * V → n ≤ 2 ^ 1474 := fun h => v_le (k := 1240) (m := 1474) hV h (by decide)
  have wT : ∀ {n : Nat}, 4 * n ≤ 1048576 * V → n < 2 ^ Flt.top := fun h => Nat.lt_of_le_of_lt (v_le (k := 1240) (m := 1474) hV (Nat.le_trans (Nat.le_mul_of_pos_left _ (by decide)) h) (by decide)) (Flt.two_lt' (a := 1474) (b := Flt.top) (by decide))
  have wc : ∀ {n c : Nat}, n ≤ c * V → c ≤ 1048576 → n ≤ 2 ^ 1474 := fun h hc => w74 (Nat.le_trans h (Nat.mul_le_mul_right _ hc))
  have wi : ∀ {n : Nat}, n ≤ 2 ^ 1240 → n ≤ 2 ^ 1474 := fun h => Nat.le_trans h (Flt.two_le (a := 1240) (b := 1474) (by decide))
  obtain ⟨p1, q1, np1, nq1, S1⟩ := sumk_pure x u H H' hx hu (wi b1) (wi b3)
  obtain ⟨p2, q2, np2, nq2, S2⟩ := sumk_pure y v L L' hy hv (wi b2) (wi b4)
  rw [← hR.r_s1] at np1 nq1
  rw [← hR.r_e1] at nq1
  rw [← hR.r_t1] at np2 nq2
  rw [← hR.r_f1] at nq2
  obtain ⟨p3, m3, np3⟩ := Flt.add_rn nq1 np2 (wT (up_add hB.b_e1 hB.b_t1 (by decide)))
  rw [← hR.r_v] at np3
  obtain ⟨p4, q4, np4, nq4, S3⟩ := sumk_pure p1 p3 s1 v1 np1 np3 (wc hB.b_s1 (by decide)) (wc hB.b_v (by decide))
  rw [← hR.r_s2] at np4 nq4
  rw [← hR.r_e2] at nq4
  obtain ⟨p5, m5, np5⟩ := Flt.add_rn nq4 nq2 (wT (up_add hB.b_e2 hB.b_f1 (by decide)))
  rw [← hR.r_g] at np5
  obtain ⟨p6, q6, np6, nq6, S4⟩ := sumk_pure p4 p5 s2 g np4 np5 (wc hB.b_s2 (by decide)) (wc hB.b_g (by decide))
  rw [← hR.r_Z] at np6 nq6
  refine ⟨p6, q6, Z, ⟨_, _, _, _, _, _, _, _, hR⟩, np6, nq6, fun w => ?_⟩
  have T1 : ∀ w, Calls Try.prog 34 #[.float .f64 x, .float .f64 u] w fun r w' => ∃ s e, r = .returned (.agg #[.float .f64 s, .float .f64 e]) ∧ (s = p1 ∧ e = q1) ∧ Bel w w' := fun w => (S1 w).mono fun _ _ ⟨h1, h4⟩ => ⟨p1, q1, h1, ⟨rfl, rfl⟩, h4⟩
  have T2 : ∀ w, Calls Try.prog 34 #[.float .f64 y, .float .f64 v] w fun r w' => ∃ s e, r = .returned (.agg #[.float .f64 s, .float .f64 e]) ∧ (s = p2 ∧ e = q2) ∧ Bel w w' := fun w => (S2 w).mono fun _ _ ⟨h1, h4⟩ => ⟨p2, q2, h1, ⟨rfl, rfl⟩, h4⟩
  have o3 := fun w => run_fadd (P := Try.prog) 28 m3 w
  have o5 := fun w => run_fadd (P := Try.prog) 28 m5 w
  have hTT := Lib.hid (And.intro T1 T2)
  clear hR hB b1 b2 b3 b4 w74 wT wc wi hV S1 S2 T1 T2 hx hy hu hv np1 nq1 np2 nq2 np3 np4 nq4 np5 np6 nq6 m3 m5
  go_enter Try.func20, Try.ntmps20
  go_upto_region 1 with fail
  obtain ⟨w1, hw1⟩ : ∃ w1, w1 = ((w.alloc (Obj.cells #[.float .f64 x, .float .f64 y] 30)).alloc (Obj.cells #[.float .f64 u, .float .f64 v] 30)).alloc (Obj.cells #[.float .f64 0, .float .f64 0] 30) := ⟨_, rfl⟩
  have hB1 : Bel w w1 := by rw [hw1]; exact (((Bel.refl w).alloc _).alloc _).alloc _
  have tx : Two w1 w.heap.size x y := by rw [hw1]; exact ((Two.new w x y _).al _).al _
  have tu : Two w1 (w.heap.size + 1) u v := by rw [hw1]; exact (Two.newN _ u v _ _ (by simp)).al _
  have tr : Two w1 (w.heap.size + 1 + 1) 0 0 := by rw [hw1]; exact Two.newN _ 0 0 _ _ (by simp)
  have hsz : w1.heap.size = w.heap.size + 3 := by rw [hw1]; simp
  rw [← hw1]
  obtain ⟨A, hA⟩ : ∃ A, A = w.heap.size := ⟨_, rfl⟩
  rw [← hA] at tx tu tr hsz ⊢
  have hw1H := Lib.hid (And.intro hw1 hA)
  have hAw : w.heap.size ≤ A := by omega
  have hAs : A + 1 < w1.heap.size := by omega
  have hAs2 : A + 1 + 1 < w1.heap.size := by omega
  clear hw1 hA
  go_cut [5, 6] from 7 to 16 (fun p q wx => Duos (fun s e => s = p1 ∧ e = q1) (fun s e => s = p2 ∧ e = q2) w1 wx p q)
  case first =>
    refine wp_region_set (pre := duoPre) (by kernel_rfl) (by decide +kernel) (fun D a w => ∃ f, a = addAct x y u v A f ∧ DuoI (fun s e => s = p1 ∧ e = q1) (fun s e => s = p2 ∧ e = q2) (addCs x y u v A) w1 D f w) ?_ ?_ ?_
    · exact ⟨fun _ => undef, rfl, ⟨(Bel.refl w1).drew, fun _ _ h => absurd h (by decide), fun h => absurd h (by decide), fun h => absurd h (by decide), fun h => absurd h (by decide), fun h => absurd h (by decide), fun h => absurd h (by decide), fun h => absurd h (by decide), fun h => absurd h (by decide)⟩⟩
    · rintro D a wx i hi hD hp ⟨f, rfl, hI⟩
      exact duo_step _ _ x y u v A w1 hAs tx.c0 tx.c1 tu.c0 tu.c1 hTT.out.1 hTT.out.2 _ _ ⟨_, _, _, _, _, _, _, _, _, _, _, _, _, _, _, _, _, _, _, _, _, _, _, _, _, _, _, _, _, _, _, _, _, _, _, _, _, _, _, _, _, _, rfl⟩ D f wx i hi hD hp hI
    · rintro D a wx hD ⟨f, rfl, hI⟩
      have hW := hI.whole hD
      unfold addAct
      go_wp2
      go_meet
      exact hW
  case rest =>
    obtain ⟨X, Y, p1', q1', p2', q2', rfl, rfl, hne, hX, hY, tX, tY, hBc, ⟨rfl, rfl⟩, ⟨rfl, rfl⟩⟩ := hcut
    have lX := tX.lt
    have lY := tY.lt
    have tr := tr.by hBc
    obtain ⟨R, hR⟩ : ∃ R, R = A + 1 + 1 := ⟨_, rfl⟩
    rw [← hR] at tr ⊢
    have hRw : w.heap.size ≤ R := by omega
    have hXR : R ≠ X := by omega
    have hYR : R ≠ Y := by omega
    have hXw : w.heap.size ≤ X := by omega
    have hYw : w.heap.size ≤ Y := by omega
    have hBc := hB1.trans hBc
    clear hX hY hAs hAs2 hAw hsz hw1H hB1 tx tu hR hTT
    have x0 := tX.c0
    have x1 := tX.c1
    have fx0 := tX.z0
    have fx1 := tX.z1
    have y0 := tY.c0
    have y1 := tY.c1
    go_wp2_with fail
    refine (S3 _).mono ?_; rintro r w2 ⟨rfl, hB2⟩
    have tX2 := (tX.by hB2).set p4 q4
    obtain ⟨mX1, mX2⟩ := (tX.by hB2).mid p4
    have tX' := tX.by hB2
    have z0 := tX'.c0
    have zf0 := tX'.z0
    have tY2 := (tY.by hB2).so (fun e => hne e.symm) (.float .f64 p4) (.float .f64 q4)
    have tr2 := (tr.by hB2).so hXR (.float .f64 p4) (.float .f64 q4)
    have hBc2 := ((hBc.trans hB2).setCell (p := ⟨X, 0, none⟩) hXw (.float .f64 p4)).setCell (p := ⟨X, 1, none⟩) hXw (.float .f64 q4)
    have u0 := tX2.c0
    have u1 := tX2.c1
    have v0 := tY2.c0
    have v1' := tY2.c1
    clear x0 x1 fx0 fx1 y0 y1 S3
    go_wp2_with fail
    refine (S4 _).mono ?_; rintro r w3 ⟨rfl, hB3⟩
    have tr3 := tr2.by hB3
    obtain ⟨m1, m2⟩ := tr3.mid p6
    obtain ⟨d0, d1, _, _⟩ := tr3.set p6 q6
    obtain ⟨c0, c1, g0, g1⟩ := tr3
    have hBw := hBc2.trans hB3
    clear S4 u0 u1 v0 v1'
    go_wp2
    refine bodyPost_ret (by simp [results, go_sem, d0, d1]; try rfl) rfl ?_
    exact ⟨rfl, (hBw.setCell hRw _).setCell hRw _⟩
end Go.Proofs.Ytpifkjmdcbieoaa

/- Mul of the landed dd, as a function: the walk. -/
namespace Go.Proofs.Ytpifkjmdcbieoaa
open Go.RowKit

def MF (H L H' L' Z : Int) : Prop := ∃ P Q1 Q2 Q3 p e m1 m2 c f, MulRk H L H' L' P Q1 Q2 Q3 p e m1 m2 c f Z
set_option maxHeartbeats 2000000 in
theorem mul_pure (x y u v : Nat) (H L H' L' : Int) (hx : Flt.Num x H) (hy : Flt.Num y L) (hu : Flt.Num u H') (hv : Flt.Num v L') (hi : MulIn H L H' L') :
    ∃ s e Z, MF H L H' L' Z ∧ Flt.Num s (Flt.rn Z) ∧ Flt.Num e (Z - Flt.rn Z) ∧
      ∀ w, Calls Try.prog 19 #[.agg #[.float .f64 x, .float .f64 y], .agg #[.float .f64 u, .float .f64 v]] w fun r w' => r = .returned (.agg #[.float .f64 s, .float .f64 e]) ∧ Bel w w' := by
  have sf := run_store_float Try.prog
  obtain ⟨Q1, r1, m1, h1, k1, nm1, near1, _⟩ := Flt.mul_from hx hv hi.fH hi.fL' (by decide) (by decide)
  obtain ⟨Q2, r2, m2, h2, k2, nm2, near2, _⟩ := Flt.mul_from hy hu hi.fL hi.fH' (by decide) (by decide)
  obtain ⟨Q3, _, _, h3, _, _, _, _⟩ := Flt.mul_from hy hv hi.fL hi.fL' (by decide) (by decide)
  obtain ⟨x', nx', cx⟩ := kept_pure x H hx
  obtain ⟨u', nu', cu⟩ := kept_pure u H' hu
  rw [mild_kp hi.mH] at nx'
  rw [mild_kp hi.mH'] at nu'
  obtain ⟨pw, ew, π, ε, _, np, ne, hsum, ⟨P, hP, hnear⟩, cp⟩ := prod_pure x' u' H H' nx' nu' hi.mH hi.mH'
  obtain ⟨hPs, hPu⟩ := hi.sz P hP
  have hPe : π + ε = P := uE_cancel (hsum.symm.trans hP)
  obtain ⟨c, hc⟩ : ∃ c, c = Flt.rn (m1 + m2) := ⟨_, rfl⟩
  obtain ⟨f, hf⟩ : ∃ f, f = Flt.rn (ε + c) := ⟨_, rfl⟩
  have hR : MulR H L H' L' P Q1 Q2 Q3 π ε m1 m2 c f := ⟨hi.rL, hi.rL', hP, h1, h2, h3, hnear, hPe, near1, near2, hc, hf⟩
  obtain ⟨b1, b2, b3, b4, b5, b6⟩ := hR.le
  obtain ⟨V, hV⟩ : ∃ V, V = 2 ^ 1366 := ⟨_, rfl⟩
  have hPV : P.natAbs ≤ V := hV ▸ hPu
  have w74 : ∀ {n : Nat}, n ≤ 1048576 * V → n ≤ 2 ^ 1474 := fun h => v_le (k := 1366) (m := 1474) hV h (by decide)
  have wT : ∀ {n : Nat}, 4 * n ≤ 1048576 * V → n < 2 ^ Flt.top := fun h => Nat.lt_of_le_of_lt (w74 (Nat.le_trans (Nat.le_mul_of_pos_left _ (by decide)) h)) (Flt.two_lt' (a := 1474) (b := Flt.top) (by decide))
  have bV : ∀ {n c : Nat}, n ≤ c * P.natAbs → n ≤ c * V := fun h => Nat.le_trans h (Nat.mul_le_mul_left _ hPV)
  have wc : ∀ {n c : Nat}, n ≤ c * V → c ≤ 1048576 → n ≤ 2 ^ 1474 := fun h hc => w74 (Nat.le_trans h (Nat.mul_le_mul_right _ hc))
  obtain ⟨r3, k3, nm3⟩ := Flt.add_rn nm1 nm2 (wT (up_add (bV b3) (bV b4) (by decide)))
  rw [← hc] at nm3
  obtain ⟨r4, k4, nm4⟩ := Flt.add_rn ne nm3 (wT (up_add (bV b2) (bV b5) (by decide)))
  rw [← hf] at nm4
  obtain ⟨p6, q6, np6, nq6, S4⟩ := sumk_pure pw r4 π f np nm4 (wc (bV b1) (by decide)) (wc (bV b6) (by decide))
  obtain ⟨Z, hZ⟩ : ∃ Z, Z = kp π + kp f := ⟨_, rfl⟩
  rw [← hZ] at np6 nq6
  have hK : MulRk H L H' L' P Q1 Q2 Q3 π ε m1 m2 c f Z := ⟨hR, hPs, hZ, np.fl, nm4.fl⟩
  refine ⟨p6, q6, Z, ⟨_, _, _, _, _, _, _, _, _, _, hK⟩, np6, nq6, fun w => ?_⟩
  have o1 := fun w => run_fmul (P := Try.prog) 28 k1 w
  have o2 := fun w => run_fmul (P := Try.prog) 28 k2 w
  have o3 := fun w => run_fadd (P := Try.prog) 28 k3 w
  have o4 := fun w => run_fadd (P := Try.prog) 28 k4 w
  clear np6 nq6 hK hZ hR hc hf b1 b2 b3 b4 b5 b6 hV hPV w74 wT bV wc hsum hnear hPe hP h1 h2 h3 near1 near2 hPs hPu hi nx' nu' np ne nm1 nm2 nm3 nm4 hx hy hu hv k1 k2 k3 k4
  go_enter Try.func19, Try.ntmps19
  go_upto_region 1 with fail
  obtain ⟨w1, hw1⟩ : ∃ w1, w1 = ((w.alloc (Obj.cells #[.float .f64 x, .float .f64 y] 30)).alloc (Obj.cells #[.float .f64 u, .float .f64 v] 30)).alloc (Obj.cells #[.float .f64 0, .float .f64 0] 30) := ⟨_, rfl⟩
  have hB1 : Bel w w1 := by rw [hw1]; exact (((Bel.refl w).alloc _).alloc _).alloc _
  have tx : Two w1 w.heap.size x y := by rw [hw1]; exact ((Two.new w x y _).al _).al _
  have tu : Two w1 (w.heap.size + 1) u v := by rw [hw1]; exact (Two.newN _ u v _ _ (by simp)).al _
  have tr : Two w1 (w.heap.size + 1 + 1) 0 0 := by rw [hw1]; exact Two.newN _ 0 0 _ _ (by simp)
  rw [← hw1]
  obtain ⟨A, hA⟩ : ∃ A, A = w.heap.size := ⟨_, rfl⟩
  rw [← hA] at tx tu tr ⊢
  have hAw : w.heap.size ≤ A + 1 + 1 := by omega
  have hw1H := Lib.hid (And.intro hw1 hA)
  clear hw1 hA
  go_cut [5, 6] from 8 to 17 (fun p q wx => p = .float .f64 pw ∧ q = .float .f64 ew ∧ wx = w1.drew)
  case first =>
    refine wp_region_cv (pre := mulPre) (mulAct (.agg #[.float .f64 x, .float .f64 y]) (.agg #[.float .f64 u, .float .f64 v]) A) (fun _ => undef) (by kernel_rfl) (by decide +kernel) (mulCs x u x' u' pw ew A) (by simp [mulCs]) (by simp [mulCs]) ?_ ?_ (by simp [mulCs])
    · intro i hi
      have g0 : w1.drew.cell? ⟨A, 0, none⟩ = _ := tx.c0
      have g2 : w1.drew.cell? ⟨A + 1, 0, none⟩ = _ := tu.c0
      have hi : i < 12 := hi
      match i, hi with
      | 0, _ => exact ⟨9, _, by simp [mulCs], fun f h => wpOp_go rfl rfl (step_field (d := some 9) rfl rfl rfl field_hi ⟨rfl, rfl⟩)⟩
      | 1, _ => exact ⟨10, .float .f64 x, by simp [mulCs], fun f h => wpOp_go rfl rfl (step_load (d := some 10) rfl rfl (h (0, 9, _) (by simp [mulCs]) (by simp [mulPre])) (load_float g0) ⟨rfl, rfl⟩)⟩
      | 2, _ => exact ⟨11, .float .f64 x', by simp [mulCs], fun f h => wpOp_go rfl rfl (step_call1 (d := some 11) rfl rfl (h (1, 10, .float .f64 x) (by simp [mulCs]) (by simp [mulPre])) (by kernel_rfl) ((cx _).mono fun _ _ ⟨k1, k2⟩ => ⟨_, k1, rfl, k2.symm⟩))⟩
      | 3, _ => exact ⟨12, _, by simp [mulCs], fun f h => wpOp_go rfl rfl (step_field (d := some 12) rfl rfl rfl field_hi ⟨rfl, rfl⟩)⟩
      | 4, _ => exact ⟨13, .float .f64 u, by simp [mulCs], fun f h => wpOp_go rfl rfl (step_load (d := some 13) rfl rfl (h (3, 12, _) (by simp [mulCs]) (by simp [mulPre])) (load_float g2) ⟨rfl, rfl⟩)⟩
      | 5, _ => exact ⟨14, .float .f64 u', by simp [mulCs], fun f h => wpOp_go rfl rfl (step_call1 (d := some 14) rfl rfl (h (4, 13, .float .f64 u) (by simp [mulCs]) (by simp [mulPre])) (by kernel_rfl) ((cu _).mono fun _ _ ⟨k1, k2⟩ => ⟨_, k1, rfl, k2.symm⟩))⟩
      | 6, _ => exact ⟨15, .tuple #[.float .f64 pw, .float .f64 ew], by simp [mulCs], fun f h => wpOp_go rfl rfl (step_call2 (d := some 15) rfl rfl (h (2, 11, .float .f64 x') (by simp [mulCs]) (by simp [mulPre])) (h (5, 14, .float .f64 u') (by simp [mulCs]) (by simp [mulPre])) (by kernel_rfl) ((cp _).mono fun _ _ ⟨k1, k2⟩ => ⟨_, k1, rfl, k2.symm⟩))⟩
      | 7, _ => exact ⟨8, .tuple #[.float .f64 pw, .float .f64 ew], by simp [mulCs], fun f h => wpOp_go rfl rfl (step_move (d := some 8) rfl (Or.inl rfl) (h (6, 15, .tuple #[.float .f64 pw, .float .f64 ew]) (by simp [mulCs]) (by simp [mulPre])) ⟨rfl, rfl⟩)⟩
      | 8, _ => exact ⟨16, .float .f64 pw, by simp [mulCs], fun f h => wpOp_go rfl rfl (step_extract (d := some 16) rfl rfl (h (7, 8, .tuple #[.float .f64 pw, .float .f64 ew]) (by simp [mulCs]) (by simp [mulPre])) rfl ⟨rfl, rfl⟩)⟩
      | 9, _ => exact ⟨17, .float .f64 ew, by simp [mulCs], fun f h => wpOp_go rfl rfl (step_extract (d := some 17) rfl rfl (h (7, 8, .tuple #[.float .f64 pw, .float .f64 ew]) (by simp [mulCs]) (by simp [mulPre])) rfl ⟨rfl, rfl⟩)⟩
      | 10, _ => exact ⟨5, .float .f64 pw, by simp [mulCs], fun f h => wpOp_go rfl rfl (step_move (d := some 5) rfl (Or.inr rfl) (h (8, 16, .float .f64 pw) (by simp [mulCs]) (by simp [mulPre])) ⟨rfl, rfl⟩)⟩
      | 11, _ => exact ⟨6, .float .f64 ew, by simp [mulCs], fun f h => wpOp_go rfl rfl (step_move (d := some 6) rfl (Or.inr rfl) (h (9, 17, .float .f64 ew) (by simp [mulCs]) (by simp [mulPre])) ⟨rfl, rfl⟩)⟩
    · intro f h
      have e5 : f 5 = .float .f64 pw := h (10, 5, _) (by simp [mulCs])
      have e6 : f 6 = .float .f64 ew := h (11, 6, _) (by simp [mulCs])
      unfold mulAct
      rw [e5, e6]
      go_wp2
      go_meet
      exact ⟨rfl, rfl, rfl⟩
  case rest =>
    obtain ⟨rfl, rfl, rfl⟩ := hcut
    have hB1d := hB1.drew
    have tx := tx.dr
    have tu := tu.dr
    have tr := tr.dr
    obtain ⟨w2, hw2⟩ : ∃ w2, w2 = w1.drew := ⟨_, rfl⟩
    rw [← hw2] at tx tu tr hB1d ⊢
    obtain ⟨R, hR⟩ : ∃ R, R = A + 1 + 1 := ⟨_, rfl⟩
    rw [← hR] at tr hAw ⊢
    have x0 := tx.c0
    have x1 := tx.c1
    have u0 := tu.c0
    have u1 := tu.c1
    clear hw2 hw1H hB1 tx tu cx cu cp hR
    go_wp2_with fail
    refine (S4 _).mono ?_; rintro r w3 ⟨rfl, hB3⟩
    have tr3 := tr.by hB3
    obtain ⟨m1, m2⟩ := tr3.mid p6
    obtain ⟨d0, d1, _, _⟩ := tr3.set p6 q6
    obtain ⟨c0, c1, g0, g1⟩ := tr3
    have hBw := hB1d.trans hB3
    clear S4 x0 x1 u0 u1
    go_wp2
    refine bodyPost_ret (by simp [results, go_sem, d0, d1]; try rfl) rfl ?_
    exact ⟨rfl, (hBw.setCell hAw _).setCell hAw _⟩
end Go.Proofs.Ytpifkjmdcbieoaa
