/- Law 6's float, same and is. -/
import Derived.Test.YtnclnbbnkfolgaaNan6
import Derived.Test.YtnclnbbnkfolgaaBits3
import Derived.Test.YtnclnbbnkfolgaaTwoW
import Derived.Test.YtnclnbbnkfolgaaTwo
import Derived.Test.YtnclnbbnkfolgaaAbs
namespace Go.Proofs.Ytnclnbbnkfolgaa
open Go.RowKit

/-- an integer's bits as a word -/
def wd (b : Int) : Nat := (b % 18446744073709551616).toNat
theorem wd_lt (b : Int) : wd b < 18446744073709551616 := by unfold wd; omega
theorem float_any (b : Int) (w : World) : Calls Try.prog 21 #[.int .i64 b] w fun r w' => r = .returned (.float .f64 (wd b)) ∧ w = w' := by
  have e : IntKind.u64.wrap b = ((wd b : Nat) : Int) := by rw [IntKind.wrap_u64]; unfold wd; omega
  have r2 := fun w => run_frombits ((wd b : Nat) : Int) w
  have e2 : ((wd b : Nat) : Int).toNat = wd b := Int.toNat_natCast _
  rw [e2] at r2
  generalize wd b = x at *
  clear e2
  go_enter Try.func21, Try.ntmps21
  go_wp2
  go_ret
  exact ⟨rfl, rfl⟩
theorem same_any (x y : Nat) (w : World) (h : Sm x y) : Calls Try.prog 24 #[.float .f64 x, .float .f64 y] w fun r w' => r = .returned (.bool true) ∧ w = w' := by
  have r1 := fun w => run_bits x w
  have r2 := fun w => run_bits y w
  by_cases c : x = y
  · have e : ((x : Int) == (y : Int)) = true := by rw [c]; simp
    clear h c
    go_enter Try.func24, Try.ntmps24
    go_wp2
    go_ret
    exact ⟨rfl, rfl⟩
  · have e : ((x : Int) == (y : Int)) = false := by rw [beq_eq_false_iff_ne]; omega
    obtain ⟨a, b⟩ := h.resolve_left c
    have o1 := ord_nan_l a x
    have o2 := ord_nan_l b y
    clear c h a b
    go_enter Try.func24, Try.ntmps24
    go_wp2
    go_ret
    exact ⟨rfl, rfl⟩
theorem is_any (r s x y : Nat) (w : World) (h : Sm r x) (k : Sm s y) : Calls Try.prog 11 #[.agg #[.float .f64 r, .float .f64 s], .float .f64 x, .float .f64 y] w fun q w' => q = .returned (.bool true) ∧ Bel w w' := by
  have h1 := fun w => same_any r x w h
  have h2 := fun w => same_any s y w k
  have hB := (Bel.refl w).alloc (.cells #[.float .f64 r, .float .f64 s] 25)
  clear h k
  go_enter Try.func11, Try.ntmps11
  go_wp2_with fail
  refine (h1 _).mono ?_; rintro q w1 ⟨rfl, rfl⟩
  go_wp2_with fail
  refine (h2 _).mono ?_; rintro q w1 ⟨rfl, rfl⟩
  go_wp2
  go_ret
  exact ⟨rfl, hB⟩
/-- the reference's product -/
def MulR6 (a b c d r s : Nat) : Prop := ∃ p q u v, FR .mul a c p ∧ FR .mul b d q ∧ FR .sub p q r ∧ FR .mul a d u ∧ FR .mul b c v ∧ FR .add u v s
def MulRe (a b c d r : Nat) : Prop := ∃ p q, FR .mul a c p ∧ FR .mul b d q ∧ FR .sub p q r
def MulIm (a b c d s : Nat) : Prop := ∃ u v, FR .mul a d u ∧ FR .mul b c v ∧ FR .add u v s
theorem MulR6.re {a b c d r s : Nat} (h : MulR6 a b c d r s) : MulRe a b c d r := by
  obtain ⟨p, q, u, v, h1, h2, h3, h4, h5, h6⟩ := h
  exact ⟨p, q, h1, h2, h3⟩
theorem MulR6.im {a b c d r s : Nat} (h : MulR6 a b c d r s) : MulIm a b c d s := by
  obtain ⟨p, q, u, v, h1, h2, h3, h4, h5, h6⟩ := h
  exact ⟨u, v, h4, h5, h6⟩
theorem MulR6.of {a b c d r s : Nat} (h : MulRe a b c d r) (k : MulIm a b c d s) : MulR6 a b c d r s := by
  obtain ⟨p, q, h1, h2, h3⟩ := h
  obtain ⟨u, v, h4, h5, h6⟩ := k
  exact ⟨p, q, u, v, h1, h2, h3, h4, h5, h6⟩
theorem MulR6.sm {a b c d r s r' s' : Nat} (h : MulR6 a b c d r s) (h' : MulR6 a b c d r' s') : Sm r r' ∧ Sm s s' := by
  obtain ⟨p, q, u, v, h1, h2, h3, h4, h5, h6⟩ := h
  obtain ⟨p', q', u', v', k1, k2, k3, k4, k5, k6⟩ := h'
  exact ⟨h3.sm arS k3 (h1.sm arM k1 (Sm.refl _) (Sm.refl _)) (h2.sm arM k2 (Sm.refl _) (Sm.refl _)), h6.sm arA k6 (h4.sm arM k4 (Sm.refl _) (Sm.refl _)) (h5.sm arM k5 (Sm.refl _) (Sm.refl _))⟩
theorem ref6mul (a b c d : Nat) (w : World) : Calls Try.prog 15 #[.float .f64 a, .float .f64 b, .float .f64 c, .float .f64 d] w fun q w' => ∃ r s, q = .returned (.tuple #[.float .f64 r, .float .f64 s]) ∧ MulR6 a b c d r s ∧ Bel w w' := by
  have o1 := fun (x y : Nat) w => run_fany (P := Try.prog) arM 23 x y w
  have o2 := fun (x y : Nat) w => run_fany (P := Try.prog) arS 23 x y w
  have o3 := fun (x y : Nat) w => run_fany (P := Try.prog) arA 23 x y w
  go_enter Try.func15, Try.ntmps15
  go_wp2
  go_ret2
  refine ⟨_, _, rfl, ⟨_, _, _, _, fval_fr _ _ _, fval_fr _ _ _, fval_fr _ _ _, fval_fr _ _ _, fval_fr _ _ _, fval_fr _ _ _⟩, ?_⟩
  exact (((((fwor_bel _ _ _ _).trans (fwor_bel _ _ _ _)).trans (fwor_bel _ _ _ _)).trans (fwor_bel _ _ _ _)).trans (fwor_bel _ _ _ _)).trans (fwor_bel _ _ _ _)
end Go.Proofs.Ytnclnbbnkfolgaa
