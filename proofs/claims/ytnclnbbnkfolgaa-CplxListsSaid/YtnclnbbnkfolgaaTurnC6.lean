/- The landed Turn: a switch over the last two bits of the quarters. -/
import Derived.Test.YtnclnbbnkfolgaaCplx6
import Derived.Laws.BitsLemmas
namespace Go.Proofs.Ytnclnbbnkfolgaa
open Go.RowKit

theorem and_three (q : Int) : bits .and .i64 q 3 = q % 4 := by
  have h3 : (BitVec.ofInt 64 3).toNat = 3 := by decide
  have hq : (BitVec.ofInt 64 q).toNat = (q % 18446744073709551616).toNat := by rw [BitVec.toNat_ofInt]; rfl
  have hm : (q % 18446744073709551616).toNat &&& 3 = (q % 18446744073709551616).toNat % 4 := Nat.and_two_pow_sub_one_eq_mod _ 2
  have e : ((BitVec.ofInt 64 q &&& BitVec.ofInt 64 3).toNat : Int) = q % 4 := by
    rw [BitVec.toNat_and, h3, hq, hm]
    omega
  show IntKind.i64.wrap ((BitVec.ofInt 64 q &&& BitVec.ofInt 64 3).toNat : Int) = q % 4
  rw [e, IntKind.wrap_i64]
  omega
theorem turn_said6 : TurnSaid6 := by
  intro x y q w hx hy hq
  obtain ⟨r, hr⟩ : ∃ r : Nat, r = quart6 q := ⟨_, rfl⟩
  have hrb : r = 0 ∨ r = 1 ∨ r = 2 ∨ r = 3 := by unfold quart6 at hr; omega
  have e : bits .and .i64 q 3 = (r : Int) := by
    rw [and_three]
    unfold quart6 at hr
    omega
  rw [← hr]
  have nn : Op.negFloat .f64 (Op.negFloat .f64 y) = y := neg_neg6 hy
  obtain ⟨v, hv⟩ : ∃ v, v = Op.negFloat .f64 x := ⟨_, rfl⟩
  obtain ⟨u, hu⟩ : ∃ u, u = Op.negFloat .f64 y := ⟨_, rfl⟩
  have rx := run_neg (P := Try.prog) x
  have ry := run_neg (P := Try.prog) y
  rw [← hv] at rx
  rw [← hu] at ry nn
  have sf := run_store_float Try.prog
  obtain ⟨a, ha⟩ : ∃ a, a = (rot6 x y r).1 := ⟨_, rfl⟩
  obtain ⟨b, hb⟩ : ∃ b, b = (rot6 x y r).2 := ⟨_, rfl⟩
  have key : (r = 0 ∧ a = x ∧ b = y) ∨ (r = 1 ∧ a = u ∧ b = x) ∨ (r = 2 ∧ a = v ∧ b = u) ∨ (r = 3 ∧ a = y ∧ b = v) := by
    rcases hrb with rfl | rfl | rfl | rfl
    · exact Or.inl ⟨rfl, ha, hb⟩
    · exact Or.inr (Or.inl ⟨rfl, ha.trans hu.symm, hb⟩)
    · exact Or.inr (Or.inr (Or.inl ⟨rfl, ha.trans hv.symm, hb.trans hu.symm⟩))
    · refine Or.inr (Or.inr (Or.inr ⟨rfl, ?_, hb.trans hv.symm⟩))
      have e3 : (rot6 x y 3).1 = Op.negFloat .f64 (Op.negFloat .f64 y) := rfl
      rw [ha, e3, ← hu, nn]
  rw [← ha, ← hb]
  clear ha hb hr hrb hu hv hx hy nn hq
  rcases key with ⟨k0, k1, k2⟩ | ⟨k0, k1, k2⟩ | ⟨k0, k1, k2⟩ | ⟨k0, k1, k2⟩ <;> subst k0 <;> rw [k1, k2] <;> clear k1 k2 a b
  · have e : bits .and .i64 q 3 = 0 := e
    go_enter Try.func18, Try.ntmps18
    go_upto_region 1 with fail
    obtain ⟨w1, hw1⟩ : ∃ w1, w1 = (w.alloc (Obj.cells #[.float .f64 x, .float .f64 y] 25)).alloc (Obj.cells #[.float .f64 0, .float .f64 0] 25) := ⟨_, rfl⟩
    have tA : Two w1 w.heap.size x y := by rw [hw1]; exact (Two.newN _ _ _ _ _ rfl).al _
    have tC : Two w1 (w.heap.size + 1) 0 0 := by rw [hw1]; exact Two.newN _ _ _ _ _ (by simp)
    have b1 : Bel w w1 := by rw [hw1]; exact ((Bel.refl _).alloc _).alloc _
    have lc : w.heap.size ≤ w.heap.size + 1 := by omega
    rw [← hw1]
    obtain ⟨A, hA⟩ : ∃ A, A = w.heap.size := ⟨_, rfl⟩
    obtain ⟨C, hC⟩ : ∃ C, C = w.heap.size + 1 := ⟨_, rfl⟩
    rw [← hC] at tC lc ⊢
    rw [← hA] at tA ⊢
    have a0 := tA.c0
    have a1 := tA.c1
    have c0 := tC.c0
    have z0 := tC.z0
    obtain ⟨m1, m2⟩ := tC.mid x
    have tR := tC.set x y
    have e0 := tR.c0
    have e1 := tR.c1
    have BB := (b1.setCell (p := ⟨C, 0, none⟩) lc (.float .f64 x)).setCell (p := ⟨C, 1, none⟩) lc (.float .f64 y)
    clear tA tC tR b1 lc hA hC hw1
    go_wp2
    refine bodyPost_ret (by simp [results, go_sem, e0, e1]; try rfl) rfl ?_
    exact ⟨rfl, BB⟩
  · have e : bits .and .i64 q 3 = 1 := e
    go_enter Try.func18, Try.ntmps18
    go_upto_region 1 with fail
    obtain ⟨w1, hw1⟩ : ∃ w1, w1 = (w.alloc (Obj.cells #[.float .f64 x, .float .f64 y] 25)).alloc (Obj.cells #[.float .f64 0, .float .f64 0] 25) := ⟨_, rfl⟩
    have tA : Two w1 w.heap.size x y := by rw [hw1]; exact (Two.newN _ _ _ _ _ rfl).al _
    have tC : Two w1 (w.heap.size + 1) 0 0 := by rw [hw1]; exact Two.newN _ _ _ _ _ (by simp)
    have b1 : Bel w w1 := by rw [hw1]; exact ((Bel.refl _).alloc _).alloc _
    have lc : w.heap.size ≤ w.heap.size + 1 := by omega
    rw [← hw1]
    obtain ⟨A, hA⟩ : ∃ A, A = w.heap.size := ⟨_, rfl⟩
    obtain ⟨C, hC⟩ : ∃ C, C = w.heap.size + 1 := ⟨_, rfl⟩
    rw [← hC] at tC lc ⊢
    rw [← hA] at tA ⊢
    have a0 := tA.c0
    have a1 := tA.c1
    have c0 := tC.c0
    have z0 := tC.z0
    obtain ⟨m1, m2⟩ := tC.mid u
    have tR := tC.set u x
    have e0 := tR.c0
    have e1 := tR.c1
    have BB := (b1.setCell (p := ⟨C, 0, none⟩) lc (.float .f64 u)).setCell (p := ⟨C, 1, none⟩) lc (.float .f64 x)
    clear tA tC tR b1 lc hA hC hw1
    go_wp2
    refine bodyPost_ret (by simp [results, go_sem, e0, e1]; try rfl) rfl ?_
    exact ⟨rfl, BB⟩
  · have e : bits .and .i64 q 3 = 2 := e
    go_enter Try.func18, Try.ntmps18
    go_upto_region 1 with fail
    obtain ⟨w1, hw1⟩ : ∃ w1, w1 = (w.alloc (Obj.cells #[.float .f64 x, .float .f64 y] 25)).alloc (Obj.cells #[.float .f64 0, .float .f64 0] 25) := ⟨_, rfl⟩
    have tA : Two w1 w.heap.size x y := by rw [hw1]; exact (Two.newN _ _ _ _ _ rfl).al _
    have tC : Two w1 (w.heap.size + 1) 0 0 := by rw [hw1]; exact Two.newN _ _ _ _ _ (by simp)
    have b1 : Bel w w1 := by rw [hw1]; exact ((Bel.refl _).alloc _).alloc _
    have lc : w.heap.size ≤ w.heap.size + 1 := by omega
    rw [← hw1]
    obtain ⟨A, hA⟩ : ∃ A, A = w.heap.size := ⟨_, rfl⟩
    obtain ⟨C, hC⟩ : ∃ C, C = w.heap.size + 1 := ⟨_, rfl⟩
    rw [← hC] at tC lc ⊢
    rw [← hA] at tA ⊢
    have a0 := tA.c0
    have a1 := tA.c1
    have c0 := tC.c0
    have z0 := tC.z0
    obtain ⟨m1, m2⟩ := tC.mid v
    have tR := tC.set v u
    have e0 := tR.c0
    have e1 := tR.c1
    have BB := (b1.setCell (p := ⟨C, 0, none⟩) lc (.float .f64 v)).setCell (p := ⟨C, 1, none⟩) lc (.float .f64 u)
    clear tA tC tR b1 lc hA hC hw1
    go_wp2
    refine bodyPost_ret (by simp [results, go_sem, e0, e1]; try rfl) rfl ?_
    exact ⟨rfl, BB⟩
  · have e : bits .and .i64 q 3 = 3 := e
    go_enter Try.func18, Try.ntmps18
    go_upto_region 1 with fail
    obtain ⟨w1, hw1⟩ : ∃ w1, w1 = (w.alloc (Obj.cells #[.float .f64 x, .float .f64 y] 25)).alloc (Obj.cells #[.float .f64 0, .float .f64 0] 25) := ⟨_, rfl⟩
    have tA : Two w1 w.heap.size x y := by rw [hw1]; exact (Two.newN _ _ _ _ _ rfl).al _
    have tC : Two w1 (w.heap.size + 1) 0 0 := by rw [hw1]; exact Two.newN _ _ _ _ _ (by simp)
    have b1 : Bel w w1 := by rw [hw1]; exact ((Bel.refl _).alloc _).alloc _
    have lc : w.heap.size ≤ w.heap.size + 1 := by omega
    rw [← hw1]
    obtain ⟨A, hA⟩ : ∃ A, A = w.heap.size := ⟨_, rfl⟩
    obtain ⟨C, hC⟩ : ∃ C, C = w.heap.size + 1 := ⟨_, rfl⟩
    rw [← hC] at tC lc ⊢
    rw [← hA] at tA ⊢
    have a0 := tA.c0
    have a1 := tA.c1
    have c0 := tC.c0
    have z0 := tC.z0
    obtain ⟨m1, m2⟩ := tC.mid y
    have tR := tC.set y v
    have e0 := tR.c0
    have e1 := tR.c1
    have BB := (b1.setCell (p := ⟨C, 0, none⟩) lc (.float .f64 y)).setCell (p := ⟨C, 1, none⟩) lc (.float .f64 v)
    clear tA tC tR b1 lc hA hC hw1
    go_wp2
    refine bodyPost_ret (by simp [results, go_sem, e0, e1]; try rfl) rfl ?_
    exact ⟨rfl, BB⟩
end Go.Proofs.Ytnclnbbnkfolgaa
