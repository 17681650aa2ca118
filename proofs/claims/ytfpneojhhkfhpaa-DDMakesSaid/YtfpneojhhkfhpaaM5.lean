/- Merged texts: TwoR, Wakes4, RegN, Reg8, Step8, StepN, EftSum, ErrAdd, AddP, Kept, NewC, ErrMul, ProdW, MulG, MulP. -/
import Derived.Test.YtfpneojhhkfhpaaM4
import Derived.Test.YtfpneojhhkfhpaaM3
import Derived.Deep.RegionHeld3
import Derived.WalkKit
import Derived.Orders
import Derived.Test.YtfpneojhhkfhpaaProg
import Derived.Test.YtfpneojhhkfhpaaM1
import Derived.Test.YtfpneojhhkfhpaaM2
/- Blocks of two floats in a region that draws its order: what is kept, and a store as one step. -/
namespace Go.Proofs.Ytfpneojhhkfhpaa
open Go.RowKit

theorem Two.newN (w : World) (a b : Nat) (t : TypeId) (N : Nat) (h : N = w.heap.size) : Two (w.alloc (.cells #[.float .f64 a, .float .f64 b] t)) N a b := h ▸ Two.new w a b t
theorem Two.lt {w : World} {R a b : Nat} (h : Two w R a b) : R < w.heap.size := World.block_lt_of_cell? w _ h.c0
theorem Two.al {w : World} {R a b : Nat} (h : Two w R a b) (o : Obj) : Two (w.alloc o) R a b := h.bel ((Bel.refl w).alloc o) h.lt
theorem Two.dr {w : World} {R a b : Nat} (h : Two w R a b) : Two w.drew R a b := ⟨h.c0, h.c1, h.z0, h.z1⟩
theorem Two.by {w w' : World} {R a b : Nat} (g : Bel w w') (h : Two w R a b) : Two w' R a b := h.bel g h.lt
theorem Two.so {w : World} {R X a b : Nat} (hne : R ≠ X) (h : Two w R a b) (u v : Value) : Two ((w.setCell ⟨X, 0, none⟩ u).setCell ⟨X, 1, none⟩ v) R a b := by
  have k : ∀ (i j : Nat), (⟨X, i, none⟩ : Addr) ≠ ⟨R, j, none⟩ := fun i j e => by cases e; exact hne rfl
  refine ⟨?_, ?_, by rw [World.frozen?_setCell, World.frozen?_setCell]; exact h.z0, by rw [World.frozen?_setCell, World.frozen?_setCell]; exact h.z1⟩
  · rw [World.cell?_setCell_other _ _ _ _ (k _ _), World.cell?_setCell_other _ _ _ _ (k _ _)]; exact h.c0
  · rw [World.cell?_setCell_other _ _ _ _ (k _ _), World.cell?_setCell_other _ _ _ _ (k _ _)]; exact h.c1
theorem held1 {w w' : World} {C : Prop} (g : Bel (w.alloc (Obj.cells #[Value.float FloatKind.f64 0, Value.float FloatKind.f64 0] 25)) w') (h : w'.cell? ⟨w.heap.size, 0, none⟩ = some (.float .f64 0) → w'.cell? ⟨w.heap.size, 1, none⟩ = some (.float .f64 0) → w'.frozen? ⟨w.heap.size, 0, none⟩ = false → w'.frozen? ⟨w.heap.size, 1, none⟩ = false → C) : C := by
  obtain ⟨h1, h2, h3, h4⟩ := Two.by (w := w.alloc (Obj.cells #[Value.float FloatKind.f64 0, Value.float FloatKind.f64 0] 25)) g (Two.new w 0 0 25)
  exact h h1 h2 h3 h4
theorem held2 {w w' : World} {C : Prop} (g : Bel ((w.alloc (Obj.cells #[Value.float FloatKind.f64 0, Value.float FloatKind.f64 0] 25)).alloc (Obj.cells #[Value.float FloatKind.f64 0, Value.float FloatKind.f64 0] 25)) w') (h : w'.cell? ⟨w.heap.size, 0, none⟩ = some (.float .f64 0) → w'.cell? ⟨w.heap.size, 1, none⟩ = some (.float .f64 0) → w'.frozen? ⟨w.heap.size, 0, none⟩ = false → w'.frozen? ⟨w.heap.size, 1, none⟩ = false → w'.cell? ⟨(w.heap.size + 1), 0, none⟩ = some (.float .f64 0) → w'.cell? ⟨(w.heap.size + 1), 1, none⟩ = some (.float .f64 0) → w'.frozen? ⟨(w.heap.size + 1), 0, none⟩ = false → w'.frozen? ⟨(w.heap.size + 1), 1, none⟩ = false → C) : C := by
  obtain ⟨h1, h2, h3, h4⟩ := Two.by (w := (w.alloc (Obj.cells #[Value.float FloatKind.f64 0, Value.float FloatKind.f64 0] 25)).alloc (Obj.cells #[Value.float FloatKind.f64 0, Value.float FloatKind.f64 0] 25)) g ((Two.new w 0 0 25).al _)
  obtain ⟨k1, k2, k3, k4⟩ := Two.by (w := (w.alloc (Obj.cells #[Value.float FloatKind.f64 0, Value.float FloatKind.f64 0] 25)).alloc (Obj.cells #[Value.float FloatKind.f64 0, Value.float FloatKind.f64 0] 25)) g (Two.newN (w.alloc (Obj.cells #[Value.float FloatKind.f64 0, Value.float FloatKind.f64 0] 25)) 0 0 25 (w.heap.size + 1) (by simp))
  exact h h1 h2 h3 h4 k1 k2 k3 k4
theorem held1d {w w' : World} {C : Prop} (g : Bel (w.alloc (Obj.cells #[Value.float FloatKind.f64 0, Value.float FloatKind.f64 0] 25)).drew w') (h : w'.cell? ⟨w.heap.size, 0, none⟩ = some (.float .f64 0) → w'.cell? ⟨w.heap.size, 1, none⟩ = some (.float .f64 0) → w'.frozen? ⟨w.heap.size, 0, none⟩ = false → w'.frozen? ⟨w.heap.size, 1, none⟩ = false → C) : C := by
  obtain ⟨h1, h2, h3, h4⟩ := Two.by g (Two.dr (Two.new w 0 0 25))
  exact h h1 h2 h3 h4
theorem held2d {w w' : World} {C : Prop} (g : Bel ((w.alloc (Obj.cells #[Value.float FloatKind.f64 0, Value.float FloatKind.f64 0] 25)).alloc (Obj.cells #[Value.float FloatKind.f64 0, Value.float FloatKind.f64 0] 25)).drew w') (h : w'.cell? ⟨w.heap.size, 0, none⟩ = some (.float .f64 0) → w'.cell? ⟨w.heap.size, 1, none⟩ = some (.float .f64 0) → w'.frozen? ⟨w.heap.size, 0, none⟩ = false → w'.frozen? ⟨w.heap.size, 1, none⟩ = false → w'.cell? ⟨(w.heap.size + 1), 0, none⟩ = some (.float .f64 0) → w'.cell? ⟨(w.heap.size + 1), 1, none⟩ = some (.float .f64 0) → w'.frozen? ⟨(w.heap.size + 1), 0, none⟩ = false → w'.frozen? ⟨(w.heap.size + 1), 1, none⟩ = false → C) : C := by
  obtain ⟨h1, h2, h3, h4⟩ := Two.by g (Two.dr ((Two.new w 0 0 25).al _))
  obtain ⟨k1, k2, k3, k4⟩ := Two.by g (Two.dr (Two.newN (w.alloc (Obj.cells #[Value.float FloatKind.f64 0, Value.float FloatKind.f64 0] 25)) 0 0 25 (w.heap.size + 1) (by simp)))
  exact h h1 h2 h3 h4 k1 k2 k3 k4
theorem again0 {w w' : World} {C : Prop} (R : Nat) (g : Bel w w') (h1 : w.cell? ⟨R, 0, none⟩ = some (.float .f64 0)) (h2 : w.cell? ⟨R, 1, none⟩ = some (.float .f64 0)) (h3 : w.frozen? ⟨R, 0, none⟩ = false) (h4 : w.frozen? ⟨R, 1, none⟩ = false) (h : w'.cell? ⟨R, 0, none⟩ = some (.float .f64 0) → w'.cell? ⟨R, 1, none⟩ = some (.float .f64 0) → w'.frozen? ⟨R, 0, none⟩ = false → w'.frozen? ⟨R, 1, none⟩ = false → C) : C := by
  obtain ⟨k1, k2, k3, k4⟩ := Two.by g (Two.mk h1 h2 h3 h4)
  exact h k1 k2 k3 k4
theorem again1 {w w' : World} {C : Prop} (R : Nat) (g : Bel (w.alloc (Obj.cells #[Value.float FloatKind.f64 0, Value.float FloatKind.f64 0] 25)) w') (h1 : w.cell? ⟨R, 0, none⟩ = some (.float .f64 0)) (h2 : w.cell? ⟨R, 1, none⟩ = some (.float .f64 0)) (h3 : w.frozen? ⟨R, 0, none⟩ = false) (h4 : w.frozen? ⟨R, 1, none⟩ = false) (h : w'.cell? ⟨R, 0, none⟩ = some (.float .f64 0) → w'.cell? ⟨R, 1, none⟩ = some (.float .f64 0) → w'.frozen? ⟨R, 0, none⟩ = false → w'.frozen? ⟨R, 1, none⟩ = false → C) : C := by
  obtain ⟨k1, k2, k3, k4⟩ := Two.by g ((Two.mk h1 h2 h3 h4).al _)
  exact h k1 k2 k3 k4
theorem again2 {w w' : World} {C : Prop} (R : Nat) (g : Bel ((w.alloc (Obj.cells #[Value.float FloatKind.f64 0, Value.float FloatKind.f64 0] 25)).alloc (Obj.cells #[Value.float FloatKind.f64 0, Value.float FloatKind.f64 0] 25)) w') (h1 : w.cell? ⟨R, 0, none⟩ = some (.float .f64 0)) (h2 : w.cell? ⟨R, 1, none⟩ = some (.float .f64 0)) (h3 : w.frozen? ⟨R, 0, none⟩ = false) (h4 : w.frozen? ⟨R, 1, none⟩ = false) (h : w'.cell? ⟨R, 0, none⟩ = some (.float .f64 0) → w'.cell? ⟨R, 1, none⟩ = some (.float .f64 0) → w'.frozen? ⟨R, 0, none⟩ = false → w'.frozen? ⟨R, 1, none⟩ = false → C) : C := by
  obtain ⟨k1, k2, k3, k4⟩ := Two.by g (((Two.mk h1 h2 h3 h4).al _).al _)
  exact h k1 k2 k3 k4
/-- a store of two floats, as one step of a region that draws -/
theorem step_store_two {ops : Array Oper} {o : Oper} {a : Act} {w : World} {K : Act → World → Prop} {Q : Exit → Act → World → Prop} {E : Prop}
    (hg : o.guard = none) (s x : Operand) (hop : o.op = Op.store 25 s x) (X u v a0 b0 : Nat) (hs : a.eval s = .pointer (some ⟨X, 0, none⟩)) (hx : a.eval x = .agg #[.float .f64 u, .float .f64 v])
    (hT : Two w X a0 b0) (hK : K (a.put o.dst undef) ((w.setCell ⟨X, 0, none⟩ (.float .f64 u)).setCell ⟨X, 1, none⟩ (.float .f64 v))) :
    if Region.wanted o (yielded ops a.tmps) = true then Oper.wp Try.prog o a w K Q else E := by
  have hw : Region.wanted o (yielded ops a.tmps) = true := by simp [Region.wanted, hg]
  rw [if_pos hw]
  obtain ⟨m1, m2⟩ := hT.mid u
  have c0 := hT.c0
  have z0 := hT.z0
  have sf := run_store_float Try.prog
  unfold Oper.wp
  have hrun : (Instr.storeAt 25 (.pointer (some ⟨X, 0, none⟩)) (.agg #[.float .f64 u, .float .f64 v])).run Try.prog w = .ok () ((w.setCell ⟨X, 0, none⟩ (.float .f64 u)).setCell ⟨X, 1, none⟩ (.float .f64 v)) := by
    simp [go_sem, sf, c0, z0, m1, m2]
  simp [execOp, hop, hs, hx, hrun]
  exact hK
end Go.Proofs.Ytfpneojhhkfhpaa

/- Layer 4's wakes, from what New and Mul are to answer. -/
namespace Flt
open Ieee

theorem two_add954 (k : Nat) : (2 : Int) ^ (k + 954) = 2 ^ k * 2 ^ 954 := Int.pow_add 2 k 954
theorem ge_of (k : Nat) {P s : Nat} (hP : P = 2 ^ k) (h : 2 ^ 119 * P ≤ s) : ∀ j, j = 119 + k → 2 ^ j ≤ s := by
  rintro j rfl
  rw [Nat.pow_add, ← hP]
  exact h
theorem two_uE4 : (2 : Int) ^ uE = 2 ^ 120 * 2 ^ 954 := two_add954 120
/-- what is near to 1 is rounded to 1 -/
theorem near_one {Z S P : Int} (hP : P = 2 ^ 954) (h : Near Z S) (hz : (Z - 2 ^ 120 * P).natAbs ≤ (2 ^ 62 * P).natAbs) : S = 2 ^ 120 * P := by
  have p0 : 0 < P := by rw [hP]; exact two_pos 954
  have hone : FL (2 ^ 120 * P) := ⟨1, 120 + 954, by rw [hP, ← two_add954, Int.one_mul], by decide⟩
  have h1 := h.le _ hone
  have e120 : (2 : Int) ^ 120 = 1329227995784915872903807060280344576 := by decide
  have e62 : (2 : Int) ^ 62 = 4611686018427387904 := by decide
  have e67 : (2 : Int) ^ 67 = 147573952589676412928 := by decide
  have hS : (S - 2 ^ 120 * P).natAbs ≤ 2 * (2 ^ 62 * P).natAbs := by omega
  rw [e120, e62] at hS
  have hPn : P.natAbs = 2 ^ 954 := by rw [hP, natAbs_two]
  have a1 : 664613997892457936451903530140172288 * P.natAbs ≤ S.natAbs := by omega
  have hbig := ge_of 954 hPn (by rw [show (2 : Nat) ^ 119 = 664613997892457936451903530140172288 from by decide]; exact a1) (52 + (67 + 954)) (by omega)
  obtain ⟨m, hm⟩ := dvd_of_ge h.fl hbig
  rw [two_add954, ← hP, e67] at hm
  have hm2 : S - 1329227995784915872903807060280344576 * P = 147573952589676412928 * (P * (m - 9007199254740992)) := by
    rw [hm, Int.mul_sub, Int.mul_sub, Int.mul_assoc]
    omega
  rw [e120]
  by_cases c : m - 9007199254740992 = 0
  · rw [c, Int.mul_zero, Int.mul_zero] at hm2
    omega
  · exfalso
    have h4 : P.natAbs ≤ (P * (m - 9007199254740992)).natAbs := by
      rw [Int.natAbs_mul]
      exact Nat.le_mul_of_pos_right _ (by omega)
    rw [hm2] at hS
    omega
end Flt
namespace Go.Proofs.Ytfpneojhhkfhpaa
open Go.RowKit

theorem num_mid {x : Nat} {c k : Nat} {n : Int} (h1 : 4503599627370496 ≤ x) (h2 : x < 9218868437227405312) (e1 : 4503599627370496 + x % 4503599627370496 = c) (e2 : x / 4503599627370496 - 1 = k) (hn : (c : Int) * 2 ^ k = n) : Flt.Num x n := by
  have h := Flt.num_of (x := x) (by omega) (by omega)
  rw [Flt.v_mid h1 h2, e1, e2, hn] at h
  exact h
theorem num_p60 {P : Int} (hP : P = 2 ^ 954) : Flt.Num 4336966441157787648 (1152921504606846976 * P) :=
  num_mid (c := 4503599627370496) (k := 8 + 954) (by decide) (by decide) (by decide) (by decide) (by rw [Flt.two_add954, ← hP, ← Int.mul_assoc]; congr 1)
theorem num_c1 {P : Int} (hP : P = 2 ^ 954) : Flt.Num 4341452448599113728 (2301339409586323456 * P) :=
  num_mid (c := 8989607068696576) (k := 8 + 954) (by decide) (by decide) (by decide) (by decide) (by rw [Flt.two_add954, ← hP, ← Int.mul_assoc]; congr 1)
theorem num_c2 {P : Int} (hP : P = 2 ^ 954) : Flt.Num 4341487632971202560 (2314850208468434944 * P) :=
  num_mid (c := 4521191813414912) (k := 9 + 954) (by decide) (by decide) (by decide) (by decide) (by rw [Flt.two_add954, ← hP, ← Int.mul_assoc]; congr 1)
theorem num_p0 {P : Int} (hP : P = 2 ^ 954) : Flt.Num 4607182418800017408 (1329227995784915872903807060280344576 * P) := by
  have h := Flt.num_one
  rw [Flt.two_uE4, ← hP] at h
  exact h
theorem run_eql_dd {a b c d : Nat} (h1 : FloatKind.f64.format.order a c = some .eq) (h2 : FloatKind.f64.format.order b d = some .eq) (w : World) :
    (binOp .eql 25 (.agg #[.float .f64 a, .float .f64 b]) (.agg #[.float .f64 c, .float .f64 d])).run Try.prog w = .ok (.bool true) w := by
  have h := run_neq_dd h1 h2 w
  rw [run_neq_struct] at h
  rw [run_eql_struct]
  generalize hr : (Op.equalIn 10000 25 (.agg #[.float .f64 a, .float .f64 b]) (.agg #[.float .f64 c, .float .f64 d])).run Try.prog w = r at h ⊢
  cases r with
  | ok b w' => simp [Result.andThen] at h ⊢; exact ⟨by simpa using h.1, h.2⟩
  | halt x w' => simp [Result.andThen] at h
theorem pow3 (k : Nat) : 2 ^ (145 + (k + k)) = 2 ^ 145 * (2 ^ k * 2 ^ k) := by rw [Nat.pow_add, Nat.pow_add]
/-- the product's bounds -/
theorem wake_mul {Z P : Int} (hP : P = 2 ^ 954) (h : (Z * 2 ^ Flt.uE - (1329227995784915872903807060280344576 * P + 1152921504606846976 * P) * (1329227995784915872903807060280344576 * P + 1152921504606846976 * P)).natAbs < 2 ^ (145 + (954 + 954))) :
    (Z - 1329227995784915875209650069494038529 * P).natAbs < 33554432 * P.natAbs := by
  have p0 : 0 < P := by rw [hP]; exact Flt.two_pos 954
  have hPn : P.natAbs = 2 ^ 954 := by rw [hP, Flt.natAbs_two]
  rw [pow3 954, ← hPn, Flt.two_uE4, ← hP] at h
  have e : Z * (2 ^ 120 * P) - (1329227995784915872903807060280344576 * P + 1152921504606846976 * P) * (1329227995784915872903807060280344576 * P + 1152921504606846976 * P) = 1329227995784915872903807060280344576 * P * (Z - 1329227995784915875209650069494038529 * P) := by
    rw [← Int.add_mul, show (1329227995784915872903807060280344576 + 1152921504606846976 : Int) = 1329227995784915874056728564887191552 from by decide, show (2 : Int) ^ 120 = 1329227995784915872903807060280344576 from by decide, Int.mul_sub]
    congr 1
    · ac_rfl
    · have e1 : (1329227995784915874056728564887191552 : Int) * 1329227995784915874056728564887191552 = 1329227995784915872903807060280344576 * 1329227995784915875209650069494038529 := by decide
      calc (1329227995784915874056728564887191552 : Int) * P * (1329227995784915874056728564887191552 * P) = 1329227995784915874056728564887191552 * 1329227995784915874056728564887191552 * (P * P) := by ac_rfl
        _ = 1329227995784915872903807060280344576 * 1329227995784915875209650069494038529 * (P * P) := by rw [e1]
        _ = _ := by ac_rfl
  rw [e, Int.natAbs_mul, Int.natAbs_mul] at h
  have h2 : 1329227995784915872903807060280344576 * P.natAbs * (Z - 1329227995784915875209650069494038529 * P).natAbs < 1329227995784915872903807060280344576 * P.natAbs * (33554432 * P.natAbs) := by
    refine Nat.lt_of_lt_of_le h (Nat.le_of_eq ?_)
    rw [show (2 : Nat) ^ 145 = 1329227995784915872903807060280344576 * 33554432 from by decide]
    ac_rfl
  exact Nat.lt_of_mul_lt_mul_left h2
theorem pow_ge {H : Int} {a b : Nat} (hH : H = 2 ^ a) (h : b ≤ a) : 2 ^ b ≤ H.natAbs := by rw [hH, Flt.natAbs_two]; exact Flt.two_le h
theorem pow_lt {H : Int} {a b : Nat} (hH : H = 2 ^ a) (h : a < b) : H.natAbs < 2 ^ b := by rw [hH, Flt.natAbs_two]; exact Flt.two_lt' h
theorem cmp_gt {a b : Int} (h : b < a) : compare a b = .gt := by
  show compareOfLessAndEq a b = _
  unfold compareOfLessAndEq
  rw [if_neg (by omega), if_neg (by omega)]
theorem cmp_lt {a b : Int} (h : a < b) : compare a b = .lt := by
  simp [compare, compareOfLessAndEq, h]
theorem tame_pow {a b : Nat} {H L : Int} (hH : H = 2 ^ a) (hL : L = 2 ^ b) (h1 : 930 ≤ a) (h2 : a < 1220) (h3 : 674 ≤ b) (h : Flt.rn (H + L) = H) : Flt.TameN H L := by
  exact Or.inr ⟨pow_ge (b := 930) hH h1, pow_lt (b := 1220) hH h2, h, Or.inr (pow_ge (b := 674) hL h3)⟩
theorem tame_one {P : Int} (hP : P = 2 ^ 954) (h : Flt.rn (1329227995784915872903807060280344576 * P + 1152921504606846976 * P) = 1329227995784915872903807060280344576 * P) : Flt.TameN (1329227995784915872903807060280344576 * P) (1152921504606846976 * P) := by
  have e1 : 1329227995784915872903807060280344576 * P = 2 ^ (120 + 954) := by rw [Flt.two_add954, ← hP]; rfl
  have e2 : 1152921504606846976 * P = 2 ^ (60 + 954) := by rw [Flt.two_add954, ← hP]; rfl
  exact tame_pow e1 e2 (by decide) (by decide) (by decide) h
theorem TameN.lt_1075 {P : Int} (hP : P = 2 ^ 954) : (1329227995784915872903807060280344576 * P).natAbs < 2 ^ 1075 := by
  have e1 : 1329227995784915872903807060280344576 * P = 2 ^ (120 + 954) := by rw [Flt.two_add954, ← hP]; rfl
  exact pow_lt (b := 1075) e1 (by decide)
theorem near_wake {Z S P : Int} (hP : P = 2 ^ 954) (h : Flt.Near Z S) (hz : (Z - 1329227995784915872903807060280344576 * P).natAbs ≤ 4611686018427387904 * P.natAbs) : S = 1329227995784915872903807060280344576 * P := by
  have e120 : (2 : Int) ^ 120 = 1329227995784915872903807060280344576 := by decide
  have := Flt.near_one hP h (by rw [e120, Int.natAbs_mul]; exact hz)
  rwa [e120] at this
set_option maxHeartbeats 1000000 in
theorem wakes_any (hnew : NewSaid) (hmul : MulSaid) : WakesSaid := by
  intro w
  obtain ⟨P, hP⟩ : ∃ P, P = (2 : Int) ^ 954 := ⟨_, rfl⟩
  have p0 : 0 < P := by rw [hP]; exact Flt.two_pos 954
  have n1 := num_p0 hP
  have n2 := num_p60 hP
  have c1 := num_c1 hP
  have c2 := num_c2 hP
  have hr := near_wake hP (Flt.rn_near (1329227995784915872903807060280344576 * P + 1152921504606846976 * P)) (by omega)
  have hT := tame_one hP hr
  have b1 : (1329227995784915872903807060280344576 * P).natAbs ≤ 2 ^ 1474 := by
    have := TameN.bound hT
    exact Nat.le_of_lt (Nat.lt_of_lt_of_le this (Flt.two_le (a := 1230) (b := 1474) (by decide)))
  have b2 : (1152921504606846976 * P).natAbs ≤ 2 ^ 1474 := Nat.le_trans (by omega) b1
  have hN := fun w => hnew _ _ _ _ w n1 n2 b1 b2
  rw [hr, show 1329227995784915872903807060280344576 * P + 1152921504606846976 * P - 1329227995784915872903807060280344576 * P = 1152921504606846976 * P from by omega] at hN
  have hM := fun x y w (nx : Flt.Num x _) (ny : Flt.Num y _) => hmul x y x y _ _ _ _ w nx ny nx ny hT hT
  have sf := run_store_float Try.prog
  go_enter Try.func10, Try.ntmps10
  go_wp2_with fail
  refine (hN _).mono ?_; rintro r w1 ⟨s, e, rfl, ns, ne, hB1⟩
  go_wp2_with fail
  refine (hM _ _ _ ns ne).mono ?_; rintro r w2 ⟨s', e', S, E, rfl, hG, hE, hB2⟩
  have hZ := wake_mul hP (by
    have := hE.2 1075 1075 (by decide) (by
      have h5 := TameN.lt_1075 hP
      exact h5) (TameN.lt_1075 hP)
    rw [show (1075 + 1075 - 97 : Nat) = 145 + (954 + 954) from by decide] at this
    exact this)
  have hS : S = 1329227995784915872903807060280344576 * P := near_wake hP (by have := Flt.rn_near (S + E); rw [hG.neat] at this; exact this) (by omega)
  have hEb : 2301339409586323456 * P < E ∧ E < 2314850208468434944 * P := by omega
  have o1 := run_eql_dd (ord_same ns n1) (ord_same ne n2)
  have oS : FloatKind.f64.format.order s' 4607182418800017408 = some .eq := ord_same hG.s (hS ▸ n1)
  have oE1 : FloatKind.f64.format.order e' 4341452448599113728 = some .gt := by
    have h1 : FloatKind.f64.format.order e' 4341452448599113728 = some (compare E _) := Flt.order_num hG.e c1
    rw [h1, cmp_gt hEb.1]
  have oE2 : FloatKind.f64.format.order e' 4341487632971202560 = some .lt := by
    have h1 : FloatKind.f64.format.order e' 4341487632971202560 = some (compare E _) := Flt.order_num hG.e c2
    rw [h1, cmp_lt hEb.2]
  clear hZ hS hEb hE hT hr b1 b2 c1 c2 n1 n2 p0 hN hM hG hP
  have hT1 := (Two.new w1 s e 25).by hB2
  have hq : w1.heap.size < w2.heap.size := Nat.lt_of_lt_of_le (by simp) hB2.size
  have hB := (hB1.alloc (.cells #[.float .f64 s, .float .f64 e] 25)).trans hB2
  obtain ⟨d0, d1, _, _⟩ := (hT1).al (.cells #[.float .f64 s', .float .f64 e'] 25)
  go_wp2
  go_ret
  exact ⟨rfl, hB.alloc _⟩
end Go.Proofs.Ytfpneojhhkfhpaa

/- A region that draws its order, of any number of operations, by what holds behind each set of them. Over any program. -/
namespace Go.Proofs.Ytfpneojhhkfhpaa
open Go.RowKit

/-- what each operation waits for: a closed check -/
def chkN (pre : Nat → List Nat) (ops : Array Oper) : Bool :=
  (List.range ops.size).all fun i => match ops[i]? with
    | some o => (o.after.all fun e => !Region.binds .any e || decide (e.on < i)) && (pre i).all fun j => o.after.any fun e => Region.binds .any e && e.on == j
    | none => false
/-- the operations that are done -/
def doneN (l : Array Bool) (k : Nat) : Bool := l.getD k false
def undone (l : Array Bool) : Nat := l.toList.countP fun b => !b
theorem done_set {l : Array Bool} {i : Nat} (hi : i < l.size) : doneN (l.setIfInBounds i true) = fun k => doneN l k || k == i := by
  funext k
  unfold doneN
  rw [Array.getD_eq_getD_getElem?, Array.getD_eq_getD_getElem?, Array.getElem?_setIfInBounds]
  by_cases h : i = k
  · subst h
    rw [if_pos rfl, if_pos hi]
    simp
  · rw [if_neg h, show (k == i) = false from by rw [beq_eq_false_iff_ne]; exact fun e => h e.symm, Bool.or_false]
theorem countP_set {l : List Bool} {i : Nat} (h : l[i]? = some false) : (l.set i true).countP (fun b => !b) + 1 = l.countP fun b => !b := by
  induction l generalizing i with
  | nil => simp at h
  | cons b bs ih =>
    cases i with
    | zero =>
      simp at h
      subst h
      simp
    | succ i =>
      simp at h
      have := ih h
      simp only [List.set_cons_succ, List.countP_cons]
      omega
theorem undone_set {l : Array Bool} {i : Nat} (h : l[i]? = some false) : undone (l.setIfInBounds i true) + 1 = undone l := by
  unfold undone
  rw [Array.toList_setIfInBounds]
  exact countP_set (by rw [Array.getElem?_toList]; exact h)
theorem undone_zero {l : Array Bool} (h : undone l = 0) {i : Nat} (hi : i < l.size) : doneN l i = true := by
  unfold undone at h
  rw [List.countP_eq_zero] at h
  unfold doneN
  have h2 := h l[i] (by simp)
  simp at h2
  rw [Array.getD_eq_getD_getElem?, Array.getElem?_eq_getElem hi]
  simpa using h2
theorem ready_mem {ops : Array Oper} {l : Array Bool} {i : Nat} (hs : l.size = ops.size) (h : i ∈ Region.ready .any ops l) : i < ops.size ∧ l[i]? = some false ∧ ∃ o, ops[i]? = some o ∧ ∀ e ∈ o.after.toList, Region.binds .any e = true → doneN l e.on = true := by
  unfold Region.ready at h
  rw [List.mem_filter, List.mem_range, Bool.and_eq_true] at h
  obtain ⟨h1, h2, h3⟩ := h
  refine ⟨h1, ?_, ?_⟩
  · rw [Array.getD_eq_getD_getElem?, Array.getElem?_eq_getElem (by omega)] at h2
    rw [Array.getElem?_eq_getElem (by omega)]
    simpa using h2
  · rw [Array.getElem?_eq_getElem h1] at h3 ⊢
    refine ⟨_, rfl, fun e he hb => ?_⟩
    simp only [Option.map_some, Option.getD_some] at h3
    rw [← Array.all_toList, List.all_eq_true] at h3
    have := h3 e he
    rw [hb] at this
    simpa [doneN] using this
theorem ready_nil {pre : Nat → List Nat} {ops : Array Oper} {l : Array Bool} (hc : chkN pre ops = true) (hs : l.size = ops.size) (h : Region.ready .any ops l = []) : ∀ n i, i < n → i < ops.size → doneN l i = true := by
  intro n
  induction n with
  | zero => intro i h0; omega
  | succ n ih =>
    intro i hi hn
    refine Classical.byContradiction fun hd => ?_
    have hm : i ∈ Region.ready .any ops l := by
      unfold Region.ready
      rw [List.mem_filter, List.mem_range, Bool.and_eq_true]
      refine ⟨hn, ?_, ?_⟩
      · unfold doneN at hd
        rw [Array.getD_eq_getD_getElem?, Array.getElem?_eq_getElem (by omega)] at hd
        rw [Array.getD_eq_getD_getElem?, Array.getElem?_eq_getElem (by omega)]
        simpa using hd
      · unfold chkN at hc
        rw [List.all_eq_true] at hc
        have h2 := hc i (List.mem_range.2 hn)
        rw [Array.getElem?_eq_getElem hn] at h2 ⊢
        simp only [Bool.and_eq_true] at h2
        simp only [Option.map_some, Option.getD_some]
        rw [← Array.all_toList, List.all_eq_true] at h2 ⊢
        intro e he
        have h3 := h2.1 e he
        rw [Bool.or_eq_true] at h3 ⊢
        refine h3.imp id fun h3 => ?_
        rw [decide_eq_true_eq] at h3
        exact ih e.on (by omega) (by omega)
    rw [h] at hm
    exact absurd hm (by simp)
theorem wpAnyN {P : Program} {ops : Array Oper} {Q : Exit → Act → World → Prop} {pre : Nat → List Nat} (hc : chkN pre ops = true) (I : (Nat → Bool) → Act → World → Prop)
    (hstep : ∀ D a w i, i < ops.size → D i = false → (∀ j ∈ pre i, D j = true) → I D a w → wpOp P ops Q i (fun a' w' => I (fun k => D k || k == i) a' w') a w)
    (hend : ∀ D a w, (∀ i, i < ops.size → D i = true) → I D a w → Q .normal a w) : ∀ (fuel : Nat) (l : Array Bool) (a : Act) (w : World), l.size = ops.size → undone l = fuel → I (doneN l) a w → wpAny P .any ops Q fuel l a w := by
  intro fuel
  induction fuel with
  | zero =>
    intro l a w hs hu hI
    refine ⟨?_, hend _ a w (fun i hi => undone_zero hu (by omega)) hI⟩
    cases hr : Region.ready .any ops l with
    | nil => rfl
    | cons i is =>
      exfalso
      obtain ⟨h1, h2, _⟩ := ready_mem (i := i) hs (by rw [hr]; exact List.mem_cons_self ..)
      have h3 := undone_zero hu (i := i) (by omega)
      unfold doneN at h3
      rw [Array.getD_eq_getD_getElem?, h2] at h3
      simp at h3
  | succ fuel ih =>
    intro l a w hs hu hI
    refine ⟨fun hn => hend _ a w (fun i hi => ready_nil hc hs hn (i + 1) i (by omega) hi) hI, fun i hi => ?_⟩
    obtain ⟨h1, h2, o, ho, h3⟩ := ready_mem hs hi
    have hd : doneN l i = false := by
      unfold doneN
      rw [Array.getD_eq_getD_getElem?, h2]; rfl
    refine wpOp_mono (fun a' w' hI' => ih _ a' w' (by simpa using hs) (by have := undone_set h2; omega) (by rw [done_set (by omega)]; exact hI')) (hstep _ a w i h1 hd (fun j hj => ?_) hI)
    unfold chkN at hc
    rw [List.all_eq_true] at hc
    have h4 := hc i (List.mem_range.2 h1)
    rw [ho] at h4
    simp only [Bool.and_eq_true] at h4
    have h5 := List.all_eq_true.1 h4.2 j hj
    rw [← Array.any_toList, List.any_eq_true] at h5
    obtain ⟨e, he, h6⟩ := h5
    rw [Bool.and_eq_true, beq_iff_eq] at h6
    rw [← h6.2]
    exact h3 e he h6.1
theorem wp_region_set {P : Program} {ops : Array Oper} {Q : Exit → Act → World → Prop} {pre : Nat → List Nat} {id : Nat} {a : Act} {w : World} (hm : P.follows .mixedOrders = true) (hc : chkN pre ops = true) (I : (Nat → Bool) → Act → World → Prop)
    (h0 : I (fun _ => false) a { w with drawn := w.drawn + 1 })
    (hstep : ∀ D a w i, i < ops.size → D i = false → (∀ j ∈ pre i, D j = true) → I D a w → wpOp P ops Q i (fun a' w' => I (fun k => D k || k == i) a' w') a w)
    (hend : ∀ D a w, (∀ i, i < ops.size → D i = true) → I D a w → Q .normal a w) : (Code.region id ops true).wp P Q a w := by
  refine wp_region_any hm ?_
  refine wpAnyN hc I hstep hend ops.size _ a _ (by simp) ?_ ?_
  · unfold undone
    simp [List.countP_replicate]
  · have e : doneN (Array.replicate ops.size false) = fun _ => false := by
      funext k
      unfold doneN
      rw [Array.getD_eq_getD_getElem?]
      by_cases h : k < ops.size
      · rw [Array.getElem?_eq_getElem (by simpa using h)]; simp
      · rw [Array.getElem?_eq_none (by simpa using h)]; rfl
    rw [e]
    exact h0
end Go.Proofs.Ytfpneojhhkfhpaa

/- A region of eight operations that draws its order, by what holds behind each set of them. Over any program. -/
namespace Go.Proofs.Ytfpneojhhkfhpaa
open Go.RowKit

def L8 (m : Nat) : Array Bool := #[m.testBit 0, m.testBit 1, m.testBit 2, m.testBit 3, m.testBit 4, m.testBit 5, m.testBit 6, m.testBit 7]
def pop8 (m : Nat) : Nat := (m.testBit 0).toNat + (m.testBit 1).toNat + (m.testBit 2).toNat + (m.testBit 3).toNat + (m.testBit 4).toNat + (m.testBit 5).toNat + (m.testBit 6).toNat + (m.testBit 7).toNat
/-- what may come up behind each set: a closed check -/
def chk8 (pre : Nat → Nat) (md : Region.Mode) (ops : Array Oper) : Bool :=
  (List.range 256).all fun m => ((Region.ready md ops (L8 m)).all fun i => decide (i < 8) && !m.testBit i && ((m &&& pre i) == pre i)) && (!(Region.ready md ops (L8 m)).isEmpty || m == 255)
theorem set8 : ∀ m, m < 256 → ∀ i, i < 8 → m.testBit i = false → ((L8 m).setIfInBounds i true = L8 (m ||| 2 ^ i) ∧ (m ||| 2 ^ i) < 256 ∧ pop8 (m ||| 2 ^ i) = pop8 m + 1) := by decide +kernel
theorem full8 : ∀ m, m < 256 → pop8 m = 8 → m = 255 := by decide +kernel
theorem zero8 : L8 0 = Array.replicate 8 false ∧ pop8 0 = 0 := by decide +kernel
theorem full_ready {md : Region.Mode} {pre : Nat → Nat} {ops : Array Oper} (h : chk8 pre md ops = true) : Region.ready md ops (L8 255) = [] := by
  unfold chk8 at h
  rw [List.all_eq_true] at h
  have := h 255 (by simp)
  rw [Bool.and_eq_true, List.all_eq_true] at this
  cases hr : Region.ready md ops (L8 255) with
  | nil => rfl
  | cons i is =>
    exfalso
    have h1 := this.1 i (by rw [hr]; exact List.mem_cons_self ..)
    simp only [Bool.and_eq_true, decide_eq_true_eq, Bool.not_eq_true'] at h1
    have h2 : ∀ i, i < 8 → Nat.testBit 255 i = true := by decide
    rw [h2 i h1.1.1] at h1
    exact absurd h1.1.2 (by decide)
theorem wpAny8 {P : Program} {md : Region.Mode} {ops : Array Oper} {Q : Exit → Act → World → Prop} {pre : Nat → Nat} (h : chk8 pre md ops = true) (I : Nat → Act → World → Prop)
    (hstep : ∀ m a w i, m < 256 → i < 8 → m.testBit i = false → (m &&& pre i) = pre i → I m a w → wpOp P ops Q i (fun a' w' => I (m ||| 2 ^ i) a' w') a w)
    (hend : ∀ a w, I 255 a w → Q .normal a w) : ∀ (fuel m : Nat) (a : Act) (w : World), m < 256 → pop8 m + fuel = 8 → I m a w → wpAny P md ops Q fuel (L8 m) a w := by
  intro fuel
  induction fuel with
  | zero =>
    intro m a w hm hp hI
    have e := full8 m hm (by omega)
    subst e
    exact ⟨full_ready h, hend a w hI⟩
  | succ fuel ih =>
    intro m a w hm hp hI
    have hc := h
    unfold chk8 at hc
    rw [List.all_eq_true] at hc
    have hcm := hc m (by simpa using hm)
    rw [Bool.and_eq_true, List.all_eq_true, Bool.or_eq_true] at hcm
    refine ⟨fun hn => ?_, fun i hi => ?_⟩
    · have e : m = 255 := by
        rcases hcm.2 with k | k
        · rw [hn] at k; exact absurd k (by decide)
        · exact beq_iff_eq.mp k
      subst e
      exact hend a w hI
    · have h1 := hcm.1 i hi
      simp only [Bool.and_eq_true, decide_eq_true_eq, Bool.not_eq_true', beq_iff_eq] at h1
      obtain ⟨s1, s2, s3⟩ := set8 m hm i h1.1.1 h1.1.2
      rw [s1]
      exact wpOp_mono (fun a' w' hI' => ih _ a' w' s2 (by omega) hI') (hstep m a w i hm h1.1.1 h1.1.2 h1.2 hI)
theorem wp_region8 {P : Program} {ops : Array Oper} {Q : Exit → Act → World → Prop} {pre : Nat → Nat} {id : Nat} {a : Act} {w : World} (hm : P.follows .mixedOrders = true) (hsz : ops.size = 8) (h : chk8 pre .any ops = true) (I : Nat → Act → World → Prop)
    (h0 : I 0 a { w with drawn := w.drawn + 1 })
    (hstep : ∀ m a w i, m < 256 → i < 8 → m.testBit i = false → (m &&& pre i) = pre i → I m a w → wpOp P ops Q i (fun a' w' => I (m ||| 2 ^ i) a' w') a w)
    (hend : ∀ a w, I 255 a w → Q .normal a w) : (Code.region id ops true).wp P Q a w := by
  refine wp_region_any hm ?_
  rw [hsz, ← zero8.1]
  exact wpAny8 h I hstep hend 8 0 a _ (by decide) (by rw [zero8.2]) h0
theorem wpOp_go {P : Program} {ops : Array Oper} {Q : Exit → Act → World → Prop} {i : Nat} {o : Oper} {a : Act} {w : World} {K : Act → World → Prop} (ho : ops[i]? = some o) (hg : o.guard = none) (h : Oper.wp P o a w K Q) : wpOp P ops Q i K a w := by
  unfold wpOp
  simp only [ho]
  have hw : Region.wanted o (yielded ops a.tmps) = true := by simp [Region.wanted, hg]
  rw [if_pos hw]
  exact Or.inl h
end Go.Proofs.Ytfpneojhhkfhpaa

/- One operation of a drawn region at a time: a load, a call, a new block of two floats, a store of two floats. -/
namespace Go.Proofs.Ytfpneojhhkfhpaa
open Go.RowKit

theorem step_load {o : Oper} {d : Option Nat} {a : Act} {w : World} {K : Act → World → Prop} {Q : Exit → Act → World → Prop} {t : TypeId} {s : Operand} {p v : Value} (hd : o.dst = d) (hop : o.op = .load t s) (hs : a.eval s = p)
    (hrun : (Instr.loadAt t p).run Try.prog w = .ok v w) (hK : K (a.put d v) w) : Oper.wp Try.prog o a w K Q := by
  subst hd
  unfold Oper.wp
  simp [execOp, hop, hs, hrun]
  exact hK
theorem step_alloc {o : Oper} {d : Option Nat} {a : Act} {w : World} {K : Act → World → Prop} {Q : Exit → Act → World → Prop} (hd : o.dst = d) (hop : o.op = .alloc 25)
    (hK : K (a.put d (.pointer (some ⟨w.heap.size, 0, none⟩))) (w.alloc (.cells #[.float .f64 0, .float .f64 0] 25))) : Oper.wp Try.prog o a w K Q := by
  subst hd
  unfold Oper.wp
  simp [execOp, hop, go_sem]
  exact hK
theorem step_call {o : Oper} {d : Option Nat} {a : Act} {w : World} {K : Act → World → Prop} {Q : Exit → Act → World → Prop} {f : FuncId} {s : Nat} {t : TypeId} {v : Value} (hd : o.dst = d) (hop : o.op = .call { callee := .value (.func f), args := #[.tmp s], argTypes := #[t] }) (hs : a.eval (.tmp s) = v)
    (hrun : (callFunc f #[v]).run Try.prog w = .ok (.enter f #[v]) w)
    (hC : Calls Try.prog f #[v] w fun r w' => ∃ y, r = .returned y ∧ K (a.put d y) w') : Oper.wp Try.prog o a w K Q := by
  subst hd
  have hs2 : a.tmps[s]?.getD undef = v := by simpa [Act.eval, go_sem] using hs
  unfold Oper.wp
  simp [execOp, hop, hs2, hrun, go_sem]
  try rw [Oper.upon_enter]
  refine hC.mono ?_
  rintro r w' ⟨y, rfl, hK⟩
  exact hK
theorem step_store {o : Oper} {d : Option Nat} {a : Act} {w : World} {K : Act → World → Prop} {Q : Exit → Act → World → Prop} {s x : Operand} {X u v a0 b0 : Nat} (hd : o.dst = d) (hop : o.op = Op.store 25 s x) (hs : a.eval s = .pointer (some ⟨X, 0, none⟩)) (hx : a.eval x = .agg #[.float .f64 u, .float .f64 v])
    (hT : Two w X a0 b0) (hK : K (a.put d undef) ((w.setCell ⟨X, 0, none⟩ (.float .f64 u)).setCell ⟨X, 1, none⟩ (.float .f64 v))) : Oper.wp Try.prog o a w K Q := by
  subst hd
  obtain ⟨m1, m2⟩ := hT.mid u
  have c0 := hT.c0
  have z0 := hT.z0
  have sf := run_store_float Try.prog
  unfold Oper.wp
  have hrun : (Instr.storeAt 25 (.pointer (some ⟨X, 0, none⟩)) (.agg #[.float .f64 u, .float .f64 v])).run Try.prog w = .ok () ((w.setCell ⟨X, 0, none⟩ (.float .f64 u)).setCell ⟨X, 1, none⟩ (.float .f64 v)) := by
    simp [go_sem, sf, c0, z0, m1, m2]
  simp [execOp, hop, hs, hx, hrun]
  exact hK
end Go.Proofs.Ytfpneojhhkfhpaa

/- One operation of a drawn region at a time, and regions that only read: what each operation leaves is just a value. -/
namespace Go.Proofs.Ytfpneojhhkfhpaa
open Go.RowKit

/-- one more temporary -/
def tset (f : Nat → Value) (t : Nat) (v : Value) : Nat → Value := fun s => if s = t then v else f s
theorem tset_self (f : Nat → Value) (t : Nat) (v : Value) : tset f t v t = v := if_pos rfl
theorem tset_ne (f : Nat → Value) {t s : Nat} (v : Value) (h : s ≠ t) : tset f t v s = f s := if_neg h
theorem step_val {P : Program} {o : Oper} {d : Option Nat} {a : Act} {w : World} {K : Act → World → Prop} {Q : Exit → Act → World → Prop} {v : Value} (hd : o.dst = d) (hrun : (execOp a.eval o).run P w = .ok (.value v) w) (hK : K (a.put d v) w) : Oper.wp P o a w K Q := by
  subst hd
  unfold Oper.wp
  rw [hrun]
  exact hK
theorem step_call2 {o : Oper} {d : Option Nat} {a : Act} {w : World} {K : Act → World → Prop} {Q : Exit → Act → World → Prop} {f : FuncId} {s s' : Nat} {t t' : TypeId} {v v' : Value} (hd : o.dst = d) (hop : o.op = .call { callee := .value (.func f), args := #[.tmp s, .tmp s'], argTypes := #[t, t'] }) (hs : a.eval (.tmp s) = v) (hs' : a.eval (.tmp s') = v')
    (hrun : (callFunc f #[v, v']).run Try.prog w = .ok (.enter f #[v, v']) w)
    (hC : Calls Try.prog f #[v, v'] w fun r w' => ∃ y, r = .returned y ∧ K (a.put d y) w') : Oper.wp Try.prog o a w K Q := by
  subst hd
  have hs2 : a.tmps[s]?.getD undef = v := by simpa [Act.eval, go_sem] using hs
  have hs3 : a.tmps[s']?.getD undef = v' := by simpa [Act.eval, go_sem] using hs'
  unfold Oper.wp
  simp [execOp, hop, hs2, hs3, hrun, go_sem]
  try rw [Oper.upon_enter]
  refine hC.mono ?_
  rintro r w' ⟨y, rfl, hK⟩
  exact hK
/-- what operations leave that are just a value -/
def CV (cs : List (Nat × Nat × Value)) (D : Nat → Bool) (f : Nat → Value) : Prop := ∀ c ∈ cs, D c.1 = true → f c.2.1 = c.2.2
theorem dn {D : Nat → Bool} {i k : Nat} (hk : k ≠ i) (h : (D k || k == i) = true) : D k = true := by
  rw [Bool.or_eq_true, beq_iff_eq] at h
  exact h.resolve_right hk
theorem dup {D : Nat → Bool} {i k : Nat} (h : D k = true) : (D k || k == i) = true := by rw [h]; rfl
theorem CV.other {cs : List (Nat × Nat × Value)} {D : Nat → Bool} {f : Nat → Value} (h : CV cs D f) (i t : Nat) (v : Value) (hi : ∀ c ∈ cs, c.1 ≠ i ∧ c.2.1 ≠ t) : CV cs (fun k => D k || k == i) (tset f t v) := fun c hc hd => by
  rw [tset_ne _ _ (hi c hc).2]
  exact h c hc (dn (hi c hc).1 hd)
theorem CV.none {cs : List (Nat × Nat × Value)} {D : Nat → Bool} {f : Nat → Value} (h : CV cs D f) (i : Nat) (hi : ∀ c ∈ cs, c.1 ≠ i) : CV cs (fun k => D k || k == i) f := fun c hc hd => h c hc (dn (hi c hc) hd)
theorem CV.self {cs : List (Nat × Nat × Value)} {D : Nat → Bool} {f : Nat → Value} (h : CV cs D f) (i t : Nat) (v : Value) (hi : ∀ c ∈ cs, (c.1 = i ∧ c.2.1 = t ∧ c.2.2 = v) ∨ (c.1 ≠ i ∧ c.2.1 ≠ t)) : CV cs (fun k => D k || k == i) (tset f t v) := fun c hc hd => by
  rcases hi c hc with ⟨_, h2, h3⟩ | ⟨h1, h2⟩
  · rw [h2, h3, tset_self]
  · rw [tset_ne _ _ h2]
    exact h c hc (dn h1 hd)
theorem step_field {o : Oper} {d : Option Nat} {a : Act} {w : World} {K : Act → World → Prop} {Q : Exit → Act → World → Prop} {t : TypeId} {s : Operand} {j : Nat} {p v : Value} (hd : o.dst = d) (hop : o.op = .fieldAddr t s j) (hs : a.eval s = p)
    (hrun : (Instr.fieldAt t p j).run Try.prog w = .ok v w) (hK : K (a.put d v) w) : Oper.wp Try.prog o a w K Q := by
  subst hd
  unfold Oper.wp
  simp [execOp, hop, hs, hrun]
  exact hK
theorem step_move {P : Program} {o : Oper} {d : Option Nat} {a : Act} {w : World} {K : Act → World → Prop} {Q : Exit → Act → World → Prop} {s : Operand} {v : Value} (hd : o.dst = d) (hop : o.op = .move s ∨ o.op = .assign s) (hs : a.eval s = v) (hK : K (a.put d v) w) : Oper.wp P o a w K Q := by
  subst hd hs
  unfold Oper.wp
  rcases hop with hop | hop <;> simp [execOp, hop] <;> exact hK
theorem step_extract {P : Program} {o : Oper} {d : Option Nat} {a : Act} {w : World} {K : Act → World → Prop} {Q : Exit → Act → World → Prop} {s : Operand} {j : Nat} {vs : Array Value} {v : Value} (hd : o.dst = d) (hop : o.op = .extract s j) (hs : a.eval s = .tuple vs) (hv : vs[j]? = some v) (hK : K (a.put d v) w) : Oper.wp P o a w K Q := by
  subst hd
  unfold Oper.wp
  have hrun : (Instr.extract (.tuple vs) j).run P w = .ok v w := by simp [Instr.extract, hv, go_sem]
  simp [execOp, hop, hs, hrun]
  exact hK
theorem step_call1 {o : Oper} {d : Option Nat} {a : Act} {w : World} {K : Act → World → Prop} {Q : Exit → Act → World → Prop} {f : FuncId} {s : Nat} {t : TypeId} {v : Value} (hd : o.dst = d) (hop : o.op = .call { callee := .value (.func f), args := #[.tmp s], argTypes := #[t] }) (hs : a.eval (.tmp s) = v)
    (hrun : (callFunc f #[v]).run Try.prog w = .ok (.enter f #[v]) w)
    (hC : Calls Try.prog f #[v] w fun r w' => ∃ y, r = .returned y ∧ K (a.put d y) w') : Oper.wp Try.prog o a w K Q := step_call hd hop hs hrun hC
theorem field_hi {w : World} {A : Nat} : (Instr.fieldAt 25 (.pointer (some ⟨A, 0, none⟩)) 0).run Try.prog w = .ok (.pointer (some ⟨A, 0, none⟩)) w := by simp [go_sem]
theorem field_lo {w : World} {A : Nat} : (Instr.fieldAt 25 (.pointer (some ⟨A, 0, none⟩)) 1).run Try.prog w = .ok (.pointer (some ⟨A, 1, none⟩)) w := by simp [go_sem]
theorem load_float {w : World} {A j x : Nat} (h : w.cell? ⟨A, j, none⟩ = some (.float .f64 x)) : (Instr.loadAt 22 (.pointer (some ⟨A, j, none⟩))).run Try.prog w = .ok (.float .f64 x) w := by simp [go_sem, h]
theorem nodup_one {α : Type} {g : α → Nat} : ∀ {l : List α}, (l.map g).Nodup → ∀ c ∈ l, ∀ c' ∈ l, g c = g c' → c = c' := by
  intro l
  induction l with
  | nil => intro _ c hc; cases hc
  | cons x xs ih =>
    intro hn c hc c' hc' he
    rw [List.map_cons, List.nodup_cons] at hn
    rcases List.mem_cons.1 hc with rfl | h1
    · rcases List.mem_cons.1 hc' with rfl | h2
      · rfl
      · exact absurd (he ▸ List.mem_map_of_mem h2) hn.1
    · rcases List.mem_cons.1 hc' with rfl | h2
      · exact absurd (he.symm ▸ List.mem_map_of_mem h1) hn.1
      · exact ih hn.2 c h1 c' h2 he
/-- a region that draws its order and only reads: each operation's value is known -/
theorem wp_region_cv {P : Program} {ops : Array Oper} {Q : Exit → Act → World → Prop} {pre : Nat → List Nat} {id : Nat} {w : World} (act : (Nat → Value) → Act) (f0 : Nat → Value) (hm : P.follows .mixedOrders = true) (hc : chkN pre ops = true) (cs : List (Nat × Nat × Value)) (h1 : (cs.map (·.1)).Nodup) (h2 : (cs.map (·.2.1)).Nodup)
    (hs : ∀ i, i < ops.size → ∃ t v, (i, t, v) ∈ cs ∧ ∀ f, (∀ c ∈ cs, c.1 ∈ pre i → f c.2.1 = c.2.2) → wpOp P ops Q i (fun a' w' => a' = act (tset f t v) ∧ w' = w.drew) (act f) w.drew)
    (hQ : ∀ f, (∀ c ∈ cs, f c.2.1 = c.2.2) → Q .normal (act f) w.drew) (hsz : ∀ c ∈ cs, c.1 < ops.size) : (Code.region id ops true).wp P Q (act f0) w := by
  refine wp_region_set (pre := pre) hm hc (fun D a w' => ∃ f, a = act f ∧ w' = w.drew ∧ CV cs D f) ⟨f0, rfl, rfl, fun _ _ h => absurd h Bool.false_ne_true⟩ ?_ ?_
  · rintro D a w' i hi hD hp ⟨f, rfl, rfl, hI⟩
    obtain ⟨t, v, hmem, hw⟩ := hs i hi
    refine wpOp_mono ?_ (hw f fun c hc hj => hI c hc (hp _ hj))
    rintro a' w' ⟨rfl, rfl⟩
    refine ⟨_, rfl, rfl, hI.self i t v fun c hc => ?_⟩
    by_cases h : c.1 = i
    · have := nodup_one h1 c hc _ hmem h
      subst this
      exact Or.inl ⟨rfl, rfl, rfl⟩
    · refine Or.inr ⟨h, fun ht => h ?_⟩
      have := nodup_one h2 c hc _ hmem ht
      rw [this]
  · rintro D a w' hD ⟨f, rfl, rfl, hI⟩
    exact hQ f fun c hc => hI c hc (hD _ (hsz c hc))
end Go.Proofs.Ytfpneojhhkfhpaa

/- eft.Sum (a playground's). -/
namespace Go.Proofs.Ytfpneojhhkfhpaa
open Go.RowKit

theorem ret_ff {a b c d : Nat} (h : a = b) (k : c = d) : Ending.returned (.tuple #[.float .f64 a, .float .f64 c]) = .returned (.tuple #[.float .f64 b, .float .f64 d]) := by rw [h, k]
theorem sum_run {x y s p q d1 d2 e : Nat} (w : World) (h1 : Ieee.double.add x y = some s) (h2 : Ieee.double.sub s x = some p) (h3 : Ieee.double.sub s p = some q) (h4 : Ieee.double.sub x q = some d1) (h5 : Ieee.double.sub y p = some d2) (h6 : Ieee.double.add d1 d2 = some e) :
    Calls Try.prog 26 #[.float .f64 x, .float .f64 y] w fun r w' => r = .returned (.tuple #[.float .f64 s, .float .f64 e]) ∧ w = w' := by
  have o1 := fun w => run_fadd (P := Try.prog) 22 h1 w
  have o2 := fun w => run_fsub (P := Try.prog) 22 h2 w
  have o3 := fun w => run_fsub (P := Try.prog) 22 h3 w
  have o4 := fun w => run_fsub (P := Try.prog) 22 h4 w
  have o5 := fun w => run_fsub (P := Try.prog) 22 h5 w
  have o6 := fun w => run_fadd (P := Try.prog) 22 h6 w
  clear h1 h2 h3 h4 h5 h6
  go_enter Try.func26, Try.ntmps26
  go_wp2
  go_ret2
  exact ⟨rfl, rfl⟩
set_option maxHeartbeats 1000000 in
theorem sum_any (x y : Nat) (a b : Int) (w : World) (hx : Flt.Num x a) (hy : Flt.Num y b) (ha : UpTo 1 a) (hb : UpTo 1 b) :
    Calls Try.prog 26 #[.float .f64 x, .float .f64 y] w fun r w' => ∃ s e σ ε, r = .returned (.tuple #[.float .f64 s, .float .f64 e]) ∧ Ieee.double.add x y = some s ∧ Flt.Num s σ ∧ Flt.Num e ε ∧ σ + ε = a + b ∧ Flt.Near (a + b) σ ∧ UpTo 4 σ ∧ UpTo 1024 ε ∧ w = w' := by
  obtain ⟨s, σ, h1, n1, r1, u1⟩ := fadd hx hy ha hb (by decide)
  obtain ⟨p, π, h2, n2, r2, u2⟩ := fsub n1 hx u1 ha (by decide)
  obtain ⟨q, κ, h3, n3, r3, u3⟩ := fsub n1 n2 u1 u2 (by decide)
  obtain ⟨d1, δ1, h4, n4, r4, u4⟩ := fsub hx n3 ha u3 (by decide)
  obtain ⟨d2, δ2, h5, n5, r5, u5⟩ := fsub hy n2 hb u2 (by decide)
  obtain ⟨e, ε, h6, n6, r6, u6⟩ := fadd n4 n5 u4 u5 (by decide)
  have hsum := Flt.two_sum hy.fl hx.fl (by rwa [Int.add_comm] at r1) r2 r3 r5 r4 (by rwa [Int.add_comm] at r6)
  exact (sum_run w h1 h2 h3 h4 h5 h6).mono fun r w' h => ⟨s, e, σ, ε, h.1, h1, n1, n6, by omega, r1, u1, Nat.le_trans u6 (Nat.mul_le_mul_right _ (by decide)), h.2⟩
end Go.Proofs.Ytfpneojhhkfhpaa

/- Layer 4: how far a sum of two numbers of two floats is from the exact one. Over whole numbers. No program is named here. -/
namespace Flt

theorem two_add20 (k : Nat) : 2 ^ (k + 20) = 1048576 * 2 ^ k := by rw [Nat.pow_add, Nat.mul_comm]
theorem mul_le_r {x y K : Nat} (h : x ≤ y) : x * K ≤ y * K := Nat.mul_le_mul_right _ h
theorem add_bound {K B l l' e1 f1 t1 v d1 s1 e2 d2 h h' : Nat} (hK : 4 ≤ K) (hh : h ≤ B) (hh' : h' ≤ B) (hl : l * K ≤ h + l) (hl' : l' * K ≤ h' + l') (he1 : e1 * K ≤ h + h') (hf1 : f1 * K ≤ l + l') (ht1 : t1 ≤ l + l' + f1) (hd1 : d1 * K ≤ e1 + t1)
    (hv : v ≤ e1 + t1 + d1) (hs1 : s1 ≤ h + h' + e1) (he2 : e2 * K ≤ s1 + v) (hd2 : d2 * K ≤ e2 + f1) : (d1 + d2) * K * K ≤ 38 * B := by
  have k4 : ∀ x, 4 * x ≤ x * K := fun x => by rw [Nat.mul_comm]; exact Nat.mul_le_mul_left x hK
  have a1 := mul_le_r (K := K) ht1
  have a2 := mul_le_r (K := K) hd1
  have a3 := mul_le_r (K := K) hd2
  rw [Nat.add_mul, Nat.add_mul] at a1
  rw [Nat.add_mul] at a2 a3
  rw [Nat.add_mul, Nat.add_mul]
  have k1 := k4 l
  have k2 := k4 l'
  have k3 := k4 e1
  have k5 := k4 f1
  have k6 := k4 t1
  have k7 := k4 e2
  have k8 := k4 d1
  have k9 := k4 d2
  omega
/-- 2^53, not looked into -/
noncomputable def K53 : Nat := Classical.choose (⟨9007199254740992, rfl⟩ : ∃ v, v = 9007199254740992)
theorem K53_eq : K53 = 9007199254740992 := Classical.choose_spec (⟨9007199254740992, rfl⟩ : ∃ v, v = 9007199254740992)
theorem K53_ge : 4 ≤ K53 := by rw [K53_eq]; decide
theorem Near.relK {n z : Int} (h : Near n z) : (z - n).natAbs * K53 ≤ n.natAbs := by rw [K53_eq]; exact h.rel
theorem near_lo {H L : Int} (h : rn (H + L) = H) : L.natAbs * K53 ≤ H.natAbs + L.natAbs := by
  have h1 := (rn_near (H + L)).relK
  rw [h, show (H - (H + L)).natAbs = L.natAbs from by omega] at h1
  exact Nat.le_trans h1 (by omega)
/-- the error of a sum, where it is at hand -/
theorem near_part {n z e : Int} (h : Near n z) (he : z + e = n) : e.natAbs * K53 ≤ n.natAbs := by
  have h1 := h.relK
  rw [show (z - n).natAbs = e.natAbs from by omega] at h1
  exact h1
/-- the sum by two sums without an error, their errors' sum, and another: the error -/
theorem add_err {H L H' L' s1 e1 t1 f1 v s2 e2 w : Int} {B : Nat} (hh : H.natAbs ≤ B) (hh' : H'.natAbs ≤ B) (hL : rn (H + L) = H) (hL' : rn (H' + L') = H') (n1 : Near (H + H') s1) (x1 : s1 + e1 = H + H') (n2 : Near (L + L') t1) (x2 : t1 + f1 = L + L')
    (n3 : Near (e1 + t1) v) (n4 : Near (s1 + v) s2) (x4 : s2 + e2 = s1 + v) (n5 : Near (e2 + f1) w) : (s2 + w - (H + L + (H' + L'))).natAbs * K53 * K53 ≤ 38 * B := by
  have b := add_bound (B := B) (l := L.natAbs) (l' := L'.natAbs) (e1 := e1.natAbs) (f1 := f1.natAbs) (t1 := t1.natAbs) (v := v.natAbs) (d1 := (v - (e1 + t1)).natAbs) (s1 := s1.natAbs) (e2 := e2.natAbs) (d2 := (w - (e2 + f1)).natAbs) K53_ge hh hh' (near_lo hL) (near_lo hL')
    (Nat.le_trans (near_part n1 x1) (by omega)) (Nat.le_trans (near_part n2 x2) (by omega)) (by omega) (Nat.le_trans n3.relK (by omega)) (by omega) (by omega) (Nat.le_trans (near_part n4 x4) (by omega)) (Nat.le_trans n5.relK (by omega))
  exact Nat.le_trans (Nat.mul_le_mul_right _ (Nat.mul_le_mul_right _ (by omega))) b
/-- from errors over 2^106 -/
theorem err_pow {D C T k : Nat} (h : D * K53 * K53 ≤ C * 2 ^ T) (hC : C < 2 ^ (106 - k)) (hk : k ≤ T) (hk2 : k ≤ 106) : D < 2 ^ (T - k) := by
  have e53 : (9007199254740992 : Nat) = 2 ^ 53 := by decide
  rw [K53_eq, e53, Nat.mul_assoc, ← Nat.pow_add] at h
  have h1 : C * 2 ^ T < 2 ^ (106 - k) * 2 ^ T := Nat.mul_lt_mul_of_pos_right hC (Nat.pow_pos (by decide))
  have h2 : 2 ^ (106 - k) * 2 ^ T = 2 ^ (T - k) * 2 ^ (53 + 53) := by
    rw [← Nat.pow_add, ← Nat.pow_add]
    congr 1
    omega
  rw [h2] at h1
  exact Nat.lt_of_mul_lt_mul_right (Nat.lt_of_le_of_lt h h1)
end Flt

/- Layer 4: a sum of two tame numbers by four sums: sizes, what divides, the error. Over whole numbers. No program is named here. -/
namespace Go.Proofs.Ytfpneojhhkfhpaa
open Go.RowKit

theorem TameN.rn {H L : Int} (h : Flt.TameN H L) : Flt.rn (H + L) = H := by
  rcases h with ⟨h1, h2⟩ | ⟨_, _, h, _⟩
  · rw [h1, h2]; decide
  · exact h
theorem TameN.up {H L : Int} (h : Flt.TameN H L) : H.natAbs ≤ 2 ^ 1220 ∧ L.natAbs ≤ 2 ^ 1220 := by
  have h1 : H.natAbs ≤ 2 ^ 1220 := by
    rcases h with ⟨h0, _⟩ | ⟨_, h, _⟩
    · rw [h0]; exact Nat.zero_le _
    · exact Nat.le_of_lt h
  have h2 := Flt.near_lo (TameN.rn h)
  have h3 : 4 * L.natAbs ≤ L.natAbs * Flt.K53 := by rw [Nat.mul_comm]; exact Nat.mul_le_mul_left _ Flt.K53_ge
  exact ⟨h1, by omega⟩
theorem fl_dvd_of {n : Int} {e k : Nat} (hk : k = 52 + e) (hf : Flt.FL n) (h : n = 0 ∨ 2 ^ k ≤ n.natAbs) : (2 : Int) ^ e ∣ n := by
  subst hk
  rcases h with rfl | h
  · exact Int.dvd_zero _
  · exact Flt.dvd_of_ge hf h
theorem TameN.dvd {x y : Nat} {H L : Int} (hx : Flt.Num x H) (hy : Flt.Num y L) (h : Flt.TameN H L) : (2 : Int) ^ 622 ∣ H ∧ (2 : Int) ^ 622 ∣ L := by
  rcases h with ⟨rfl, rfl⟩ | ⟨h1, _, _, h4⟩
  · exact ⟨Int.dvd_zero _, Int.dvd_zero _⟩
  · exact ⟨Flt.two_dvd_of_le (e := 622) (f := 878) (by decide) (fl_dvd_of (e := 878) (k := 930) (by decide) hx.fl (Or.inr h1)), fl_dvd_of (e := 622) (k := 674) (by decide) hy.fl h4⟩
theorem rn_dvd {e : Nat} {n : Int} (h : (2 : Int) ^ e ∣ n) : (2 : Int) ^ e ∣ Flt.rn n := (Flt.rn_near n).dvd h
theorem ge_of_dvd {e k : Nat} {n : Int} (h : (2 : Int) ^ e ∣ n) (hk : k ≤ e) : n = 0 ∨ 2 ^ k ≤ n.natAbs := by
  by_cases h0 : n = 0
  · exact Or.inl h0
  · obtain ⟨m, hm⟩ := h
    have h2 : n.natAbs = 2 ^ e * m.natAbs := by rw [hm, Int.natAbs_mul, Flt.natAbs_two]
    have hm0 : m ≠ 0 := by intro hc; rw [hc, Int.mul_zero] at hm; exact h0 hm
    refine Or.inr (Nat.le_trans (Flt.two_le hk) ?_)
    rw [h2]
    exact Nat.le_mul_of_pos_right _ (by omega)
/-- what a rounding can make of a number: at most twice it -/
theorem rn_le2 (n : Int) : (Flt.rn n).natAbs ≤ 2 * n.natAbs := by
  have h := (Flt.rn_near n).relK
  have h3 : 4 * (Flt.rn n - n).natAbs ≤ (Flt.rn n - n).natAbs * Flt.K53 := by rw [Nat.mul_comm]; exact Nat.mul_le_mul_left _ Flt.K53_ge
  omega
/-- the pair that the last sum makes -/
theorem pair_of {s e : Nat} {Z : Int} {k : Nat} (hs : Flt.Num s (Flt.rn Z)) (he : Flt.Num e (Z - Flt.rn Z)) (hd : (2 : Int) ^ k ∣ Z) (hk : 104 ≤ k) (hS : Flt.rn Z = 0 ∨ 2 ^ 600 ≤ (Flt.rn Z).natAbs) (hZ : 4 * Z.natAbs < 2 ^ 1500) : GoodPair s e (Flt.rn Z) (Z - Flt.rn Z) := by
  have hr := rn_le2 Z
  refine ⟨hs, he, by rw [show Flt.rn Z + (Z - Flt.rn Z) = Z from by omega], ?_, ?_⟩
  · rcases hS with h | h
    · exact Or.inl h
    · exact Or.inr ⟨h, Nat.lt_of_le_of_lt (by omega) hZ⟩
  · rcases ge_of_dvd (Int.dvd_sub hd (rn_dvd hd)) hk with h | h
    · exact Or.inl h
    · exact Or.inr ⟨h, Nat.lt_of_le_of_lt (by omega) hZ⟩
theorem v_le {k m V n : Nat} (hV : V = 2 ^ k) (h : n ≤ 1048576 * V) (hk : k + 20 ≤ m) : n ≤ 2 ^ m := by
  have e := Flt.two_add20 k
  rw [← hV] at e
  exact Nat.le_trans h (Nat.le_trans (Nat.le_of_eq e.symm) (Flt.two_le hk))
theorem na_add {a b : Int} {A B C : Nat} (ha : a.natAbs ≤ A) (hb : b.natAbs ≤ B) (h : A + B ≤ C) : (a + b).natAbs ≤ C := by omega
theorem na_sub {a b : Int} {A B C : Nat} (ha : a.natAbs ≤ A) (hb : b.natAbs ≤ B) (h : A + B ≤ C) : (a - b).natAbs ≤ C := by omega
theorem na_rn {n : Int} {A C : Nat} (hn : n.natAbs ≤ A) (h : 2 * A ≤ C) : (Flt.rn n).natAbs ≤ C := by
  have := rn_le2 n
  omega
theorem up_add {a b : Int} {c d V : Nat} (ha : a.natAbs ≤ c * V) (hb : b.natAbs ≤ d * V) (h : c + d ≤ 4096) : 4 * (a + b).natAbs ≤ 1048576 * V := by
  have h1 : (a + b).natAbs ≤ (c + d) * V := by rw [Nat.add_mul]; omega
  have h2 := Nat.mul_le_mul_right V h
  omega
end Go.Proofs.Ytfpneojhhkfhpaa

/- Layer 4's landed dd: a float below 2^-400 counts as 0. -/
namespace Go.Proofs.Ytfpneojhhkfhpaa
open Go.RowKit

theorem ex_eq (n : Nat) : ∃ v, v = n := ⟨n, rfl⟩
/-- a number, not looked into -/
noncomputable def veil (n : Nat) : Nat := Classical.choose (ex_eq n)
theorem veil_eq (n : Nat) : veil n = n := Classical.choose_spec (ex_eq n)
/-- 2^-400 in least units -/
noncomputable def q400 : Nat := veil (2 ^ 674)
theorem q400_eq : q400 = 2 ^ 674 := by unfold q400; rw [veil_eq]
/-- what is kept of a number -/
noncomputable def kp (n : Int) : Int := if n.natAbs < q400 then 0 else n
theorem kp_lt {n : Int} (h : n.natAbs < q400) : kp n = 0 := by unfold kp; rw [if_pos h]
theorem kp_ge {n : Int} (h : q400 ≤ n.natAbs) : kp n = n := by unfold kp; rw [if_neg (by omega)]
theorem kp_zero : kp 0 = 0 := by
  by_cases h : (0 : Int).natAbs < q400
  · exact kp_lt h
  · exact kp_ge (by omega)
theorem kp_or (n : Int) : (kp n = 0 ∧ n.natAbs < q400) ∨ (kp n = n ∧ q400 ≤ n.natAbs) := by
  by_cases h : n.natAbs < q400
  · exact Or.inl ⟨kp_lt h, h⟩
  · exact Or.inr ⟨kp_ge (by omega), by omega⟩
theorem kp_id {n : Int} {k : Nat} (hk : 674 ≤ k) (h : n = 0 ∨ 2 ^ k ≤ n.natAbs) : kp n = n := by
  rcases h with rfl | h
  · exact kp_zero
  · exact kp_ge (by rw [q400_eq]; exact Nat.le_trans (Flt.two_le (a := 674) hk) h)
theorem kp_le (n : Int) : (kp n).natAbs ≤ n.natAbs := by
  rcases kp_or n with ⟨h, _⟩ | ⟨h, _⟩ <;> rw [h]
  · exact Nat.zero_le _
  · exact Nat.le_refl _
theorem kp_err (n : Int) : (kp n - n).natAbs ≤ q400 := by
  rcases kp_or n with ⟨h, h2⟩ | ⟨h, _⟩ <;> rw [h] <;> omega
theorem kp_dvd {d n : Int} (h : d ∣ n) : d ∣ kp n := by
  rcases kp_or n with ⟨h1, _⟩ | ⟨h1, _⟩ <;> rw [h1]
  · exact Int.dvd_zero _
  · exact h
theorem kp_up {n : Int} {A : Nat} (h : n.natAbs ≤ A) : (kp n).natAbs ≤ A := Nat.le_trans (kp_le n) h
/-- what is kept of a float is a multiple of 2^-452 -/
theorem kp_fl_dvd {n : Int} (h : Flt.FL n) : (2 : Int) ^ 622 ∣ kp n := by
  rcases kp_or n with ⟨h1, _⟩ | ⟨h1, h2⟩ <;> rw [h1]
  · exact Int.dvd_zero _
  · rw [q400_eq] at h2
    exact fl_dvd_of (e := 622) (k := 674) (by decide) h (Or.inr h2)
theorem v_400' {y : Nat} {k : Nat} (hy : Flt.Num y (k : Int)) (h : y < 2805742567851819008) : k < 2 ^ 674 := by
  have hv := hy.val
  have h4 := v_400
  have pk := pw 674
  obtain ⟨A, hA⟩ : ∃ A, A = (2 : Int) ^ 674 := ⟨_, rfl⟩
  rw [← hA] at h4 pk
  obtain ⟨B, hB⟩ : ∃ B, B = (2 : Nat) ^ 674 := ⟨_, rfl⟩
  rw [← hB] at pk ⊢
  have := Flt.v_lt (x := y) (y := 2805742567851819008) h (by decide)
  omega
theorem num_zero_k : Flt.Num 0 0 := by
  have h := Flt.num_of (x := 0) (by decide) (by decide)
  rwa [Flt.v_small (by decide)] at h
/-- kept -/
theorem kept_any (x : Nat) (n : Int) (w : World) (hx : Flt.Num x n) :
    Calls Try.prog 35 #[.float .f64 x] w fun r w' => ∃ y, r = .returned (.float .f64 y) ∧ Flt.Num y (kp n) ∧ w = w' := by
  have habs := fun w => abs_any x w hx.lt
  have nA := num_abs hx
  obtain ⟨y', hy'⟩ : ∃ y', y' = x % 9223372036854775808 := ⟨_, rfl⟩
  rw [← hy'] at habs nA
  have ho := Flt.ord4 y' 2805742567851819008 (by omega) (by decide)
  have hcut := cut_400 nA (by omega)
  have hcut2 := v_400' nA
  rw [← q400_eq] at hcut hcut2
  have hyf : y' < 9218868437227405312 := by have := hx.fin; omega
  have hx := Lib.hid hx
  clear nA hy'
  rcases ho with ⟨o, ho'⟩ | ⟨o, ho'⟩ | ⟨o, ho', _⟩ | ⟨o, ho'⟩
  · have o2 : FloatKind.f64.format.order y' 2805742567851819008 = _ := o
    have hk := Lib.hid (kp_lt (hcut2 ho'))
    clear o ho' hcut hcut2 hyf
    go_enter Try.func35, Try.ntmps35
    go_wp2_with fail
    refine (habs _).mono ?_; rintro r w3 ⟨rfl, rfl⟩
    go_wp2
    go_ret
    exact ⟨0, rfl, hk.out ▸ num_zero_k, rfl⟩
  · have o2 : FloatKind.f64.format.order y' 2805742567851819008 = _ := o
    have hk := Lib.hid (kp_ge (hcut (by omega)))
    clear o ho' hcut hcut2 hyf
    go_enter Try.func35, Try.ntmps35
    go_wp2_with fail
    refine (habs _).mono ?_; rintro r w3 ⟨rfl, rfl⟩
    go_wp2
    go_ret
    exact ⟨x, rfl, hk.out.symm ▸ hx.out, rfl⟩
  · have o2 : FloatKind.f64.format.order y' 2805742567851819008 = _ := o
    have hk := Lib.hid (kp_ge (hcut (by omega)))
    clear o ho' hcut hcut2 hyf
    go_enter Try.func35, Try.ntmps35
    go_wp2_with fail
    refine (habs _).mono ?_; rintro r w3 ⟨rfl, rfl⟩
    go_wp2
    go_ret
    exact ⟨x, rfl, hk.out.symm ▸ hx.out, rfl⟩
  · exact absurd ho' (Nat.not_lt_of_lt hyf)
end Go.Proofs.Ytfpneojhhkfhpaa

/- New, Neg and Float of a dd whose New is eft.Sum alone. -/
namespace Go.Proofs.Ytfpneojhhkfhpaa
open Go.RowKit

theorem upTo1 {a : Int} (h : a.natAbs ≤ 2 ^ 1474) : UpTo 1 a := by
  unfold UpTo
  rw [Nat.one_mul]
  exact Nat.le_trans h (Flt.two_le (a := 1474) (b := mtop) (by decide))
/-- eft.Sum by rn -/
theorem sum_rn (x y : Nat) (a b : Int) (w : World) (hx : Flt.Num x a) (hy : Flt.Num y b) (ha : a.natAbs ≤ 2 ^ 1474) (hb : b.natAbs ≤ 2 ^ 1474) :
    Calls Try.prog 26 #[.float .f64 x, .float .f64 y] w fun r w' => ∃ s e, r = .returned (.tuple #[.float .f64 s, .float .f64 e]) ∧ Flt.Num s (Flt.rn (a + b)) ∧ Flt.Num e (a + b - Flt.rn (a + b)) ∧ w = w' := by
  obtain ⟨s', k1, k2⟩ := Flt.add_rn hx hy (((upTo1 ha).add (upTo1 hb)).lt (by decide))
  refine (sum_any x y a b w hx hy (upTo1 ha) (upTo1 hb)).mono ?_
  rintro r w' ⟨s, e, σ, ε, h1, h2, h3, h4, h5, _, _, _, h9⟩
  rw [h2] at k1
  have es : s = s' := Option.some.inj k1
  rw [← es] at k2
  have hσ : σ = Flt.rn (a + b) := num_same' h3 k2
  refine ⟨s, e, h1, k2, ?_, h9⟩
  rw [show a + b - Flt.rn (a + b) = ε from by omega]
  exact h4
theorem new_said : NewSaid := by
  intro x y a b w hx hy ha hb
  have sf := run_store_float Try.prog
  have hS := fun w => sum_rn x y a b w hx hy ha hb
  go_enter Try.func9, Try.ntmps9
  go_wp2_with fail
  refine (hS _).mono ?_; rintro r w1 ⟨s, e, rfl, ns, ne, rfl⟩
  go_wp2
  refine bodyPost_ret (by simp [results, go_sem]; try rfl) rfl ?_
  exact ⟨s, e, rfl, ns, ne, (Bel.refl _).alloc _⟩
theorem neg_said : NegSaid := by
  intro x y w
  have sf := run_store_float Try.prog
  have m1 := fun w => run_neg (P := Try.prog) x w
  have m2 := fun w => run_neg (P := Try.prog) y w
  go_enter Try.func12, Try.ntmps12
  go_wp2
  refine bodyPost_ret (by simp [results, go_sem]; try rfl) rfl ?_
  exact ⟨rfl, ((Bel.refl _).alloc _).alloc _⟩
theorem float_said : FloatSaid := by
  intro x y H L w hx hy hT
  go_enter Try.func24, Try.ntmps24
  go_wp2
  go_ret
  exact ⟨x, rfl, hx, (Bel.refl _).alloc _⟩
/-- New of what is kept -/
theorem sumk_any (x y : Nat) (a b : Int) (w : World) (hx : Flt.Num x a) (hy : Flt.Num y b) (ha : a.natAbs ≤ 2 ^ 1474) (hb : b.natAbs ≤ 2 ^ 1474) :
    Calls Try.prog 31 #[.float .f64 x, .float .f64 y] w fun r w' => ∃ s e, r = .returned (.agg #[.float .f64 s, .float .f64 e]) ∧ Flt.Num s (Flt.rn (kp a + kp b)) ∧ Flt.Num e (kp a + kp b - Flt.rn (kp a + kp b)) ∧ Bel w w' := by
  have sf := run_store_float Try.prog
  have k1 := fun w => kept_any x a w hx
  have k2 := fun w => kept_any y b w hy
  have kN := fun (p q : Nat) w hp hq => new_said p q (kp a) (kp b) w hp hq (kp_up ha) (kp_up hb)
  clear hx hy ha hb
  go_enter Try.func31, Try.ntmps31
  go_wp2_with fail
  refine (k1 _).mono ?_; rintro r w1 ⟨p, rfl, np, rfl⟩
  go_wp2_with fail
  refine (k2 _).mono ?_; rintro r w1 ⟨q, rfl, nq, rfl⟩
  go_wp2_with fail
  refine (kN _ _ _ np nq).mono ?_; rintro r w1 ⟨s, e, rfl, ns, ne, hB⟩
  have hT3 := (Two.new w 0 0 25).by hB
  have hBw := ((Bel.refl w).alloc (.cells #[.float .f64 0, .float .f64 0] 25)).trans hB
  obtain ⟨R, hR⟩ : ∃ R, R = w.heap.size := ⟨_, rfl⟩
  have hRw : w.heap.size ≤ R := by omega
  rw [← hR] at hT3 ⊢
  obtain ⟨m1, m2⟩ := hT3.mid s
  obtain ⟨d0, d1, _, _⟩ := hT3.set s e
  obtain ⟨c0, c1, f0, f1⟩ := hT3
  have nH := Lib.hid (And.intro ns ne)
  clear np nq kN k1 k2 ns ne hR hB
  go_wp2
  refine bodyPost_ret (by simp [results, go_sem, d0, d1]; try rfl) rfl ?_
  exact ⟨s, e, rfl, nH.out.1, nH.out.2, (hBw.setCell hRw _).setCell hRw _⟩
end Go.Proofs.Ytfpneojhhkfhpaa

/- Layer 4: how far a product of two numbers of two floats is from the exact one. Over whole numbers. No program is named here. -/
namespace Flt

theorem mul_bound {K B q1 q2 q3 e d1 d2 m1 m2 dc c df : Nat} (hK : 4 ≤ K) (he : e * K ≤ B) (h1 : q1 * K ≤ 2 * B) (h2 : q2 * K ≤ 2 * B) (h3 : q3 * K * K ≤ 4 * B) (hd1 : d1 * K ≤ q1) (hd2 : d2 * K ≤ q2) (hm1 : m1 ≤ q1 + d1) (hm2 : m2 ≤ q2 + d2)
    (hdc : dc * K ≤ m1 + m2) (hc : c ≤ m1 + m2 + dc) (hdf : df * K ≤ e + c) : (df + dc + d1 + d2 + q3) * K * K ≤ 64 * B := by
  have k4 : ∀ x, 4 * x ≤ x * K := fun x => by rw [Nat.mul_comm]; exact Nat.mul_le_mul_left x hK
  have a1 := mul_le_r (K := K) hd1
  have a2 := mul_le_r (K := K) hd2
  have a3 := mul_le_r (K := K) hdc
  have a4 := mul_le_r (K := K) hdf
  have a5 := mul_le_r (K := K) hm1
  have a6 := mul_le_r (K := K) hm2
  have a7 := mul_le_r (K := K) hc
  rw [Nat.add_mul] at a3 a4 a5 a6
  rw [Nat.add_mul, Nat.add_mul] at a7
  rw [Nat.add_mul, Nat.add_mul, Nat.add_mul, Nat.add_mul, Nat.add_mul, Nat.add_mul, Nat.add_mul, Nat.add_mul]
  have k1 := k4 (d1 * K)
  have k2 := k4 (d2 * K)
  have k3 := k4 (dc * K)
  have k5 := k4 (df * K)
  have k6 := k4 (d1)
  have k7 := k4 (d2)
  have k8 := k4 dc
  omega
theorem natAbs_uE (n : Int) : (n * 2 ^ uE).natAbs = n.natAbs * 2 ^ uE := by rw [Int.natAbs_mul, natAbs_two]
/-- a partial product with a second part -/
theorem part_lo {H P Q a b : Int} (hP : H * a = P * 2 ^ uE) (hQ : H * b = Q * 2 ^ uE) (h : b.natAbs * K53 ≤ 2 * a.natAbs) : Q.natAbs * K53 ≤ 2 * P.natAbs := by
  have e1 := natAbs_uE P
  have e2 := natAbs_uE Q
  rw [← hP, Int.natAbs_mul] at e1
  rw [← hQ, Int.natAbs_mul] at e2
  have hU0 := two_posN uE
  obtain ⟨U, hU⟩ : ∃ U, U = 2 ^ uE := ⟨_, rfl⟩
  rw [← hU] at e1 e2 hU0
  refine Nat.le_of_mul_le_mul_right ?_ hU0
  clear hP hQ hU
  calc Q.natAbs * K53 * U = Q.natAbs * U * K53 := by ac_rfl
    _ = H.natAbs * (b.natAbs * K53) := by rw [← e2]; ac_rfl
    _ ≤ H.natAbs * (2 * a.natAbs) := Nat.mul_le_mul_left _ h
    _ = 2 * (H.natAbs * a.natAbs) := by ac_rfl
    _ = 2 * P.natAbs * U := by rw [e1]; ac_rfl
theorem lo_le {H L : Int} (h : rn (H + L) = H) : L.natAbs * K53 ≤ 2 * H.natAbs := by
  have h1 := near_lo h
  have h2 : 4 * L.natAbs ≤ L.natAbs * K53 := by rw [Nat.mul_comm]; exact Nat.mul_le_mul_left _ K53_ge
  omega
/-- the product by one without an error, the two middle products, their sum, and another: the error -/
theorem mul_err {H L H' L' P Q1 Q2 Q3 p e m1 m2 c f : Int} (hL : rn (H + L) = H) (hL' : rn (H' + L') = H') (hP : H * H' = P * 2 ^ uE) (h1 : H * L' = Q1 * 2 ^ uE) (h2 : L * H' = Q2 * 2 ^ uE) (h3 : L * L' = Q3 * 2 ^ uE)
    (n1 : Near P p) (x1 : p + e = P) (n2 : Near Q1 m1) (n3 : Near Q2 m2) (n4 : Near (m1 + m2) c) (n5 : Near (e + c) f) : (p + f - (P + Q1 + Q2 + Q3)).natAbs * K53 * K53 ≤ 64 * P.natAbs := by
  have a1 := part_lo hP h1 (lo_le hL')
  have a2 := part_lo (H := H') (P := P) (Q := Q2) (a := H) (b := L) (by rw [Int.mul_comm]; exact hP) (by rw [Int.mul_comm]; exact h2) (lo_le hL)
  have a3 := part_lo (H := L) (P := Q2) (Q := Q3) (a := H') (b := L') h2 h3 (lo_le hL')
  have a4 : Q3.natAbs * K53 * K53 ≤ 4 * P.natAbs := by
    have := mul_le_r (K := K53) a3
    rw [Nat.mul_assoc 2] at this
    omega
  have b := mul_bound (B := P.natAbs) (q1 := Q1.natAbs) (q2 := Q2.natAbs) (q3 := Q3.natAbs) (e := e.natAbs) (d1 := (m1 - Q1).natAbs) (d2 := (m2 - Q2).natAbs) (m1 := m1.natAbs) (m2 := m2.natAbs) (dc := (c - (m1 + m2)).natAbs) (c := c.natAbs) (df := (f - (e + c)).natAbs) K53_ge
    (near_part n1 x1) a1 a2 a4 n2.relK n3.relK (by omega) (by omega) (Nat.le_trans n4.relK (by omega)) (by omega) (Nat.le_trans n5.relK (by omega))
  exact Nat.le_trans (Nat.mul_le_mul_right _ (Nat.mul_le_mul_right _ (by omega))) b
end Flt

/- Products of mild floats and what they lack, in words. No program is named here. -/
namespace Flt
open Ieee

/-- a number and its two halves, in words: over the last place e, or all 0 -/
structure HalfW (x h l : Nat) (n : Int) : Prop where
  x : Num x n
  ex : (n = 0 ∧ Num h 0 ∧ Num l 0) ∨ ∃ (e : Nat) (A H L : Int), 600 ≤ e ∧ e ≤ 1500 ∧ n = A * 2 ^ e ∧ Num h (H * 2 ^ e) ∧ Num l (L * 2 ^ e) ∧ HalvesU A H L

/-- the operations of a product -/
structure ProdW (x y h l g m p e : Nat) (π ε : Int) : Prop where
  hp : double.mul x y = some p
  np : Num p π
  ne : Num e ε
  ops : ∃ hg t1 hm t2 lg t3 lm, double.mul h g = some hg ∧ double.sub hg p = some t1 ∧ double.mul h m = some hm ∧ double.add t1 hm = some t2 ∧ double.mul l g = some lg ∧ double.add t2 lg = some t3 ∧ double.mul l m = some lm ∧ double.add t3 lm = some e

theorem le_of_units {X : Int} {k : Nat} (h : X.natAbs ≤ 2 ^ 107) : (X * 2 ^ k).natAbs ≤ 2 ^ (107 + k) := by
  rw [shift_abs, Nat.pow_add]; exact Nat.mul_le_mul_right _ h
theorem prod_words {x h l y g m : Nat} {a b : Int} (hx : HalfW x h l a) (hy : HalfW y g m b) : ∃ p e π ε, ProdW x y h l g m p e π ε ∧ a * b = (π + ε) * 2 ^ uE ∧ ∃ P, a * b = P * 2 ^ uE ∧ Near P π := by
  have zsub : ∀ {x y : Nat}, Num x 0 → Num y 0 → ∃ r, double.sub x y = some r ∧ Num r 0 := by
    intro x y h h'
    obtain ⟨r, z, h1, h2, h3, _⟩ := subx (k := 0) h h' (by decide) (by decide) (by decide)
    have hz : z = 0 := near_zero (by simpa using h3)
    exact ⟨r, h1, hz ▸ h2⟩
  have zadd : ∀ {x y : Nat}, Num x 0 → Num y 0 → ∃ r, double.add x y = some r ∧ Num r 0 := by
    intro x y h h'
    obtain ⟨r, z, h1, h2, h3, _⟩ := addx (k := 0) h h' (by decide) (by decide) (by decide)
    have hz : z = 0 := near_zero (by simpa using h3)
    exact ⟨r, h1, hz ▸ h2⟩
  -- where a factor is 0
  have zero : ∀ {hg' : Nat}, (∀ {u v : Nat}, (u = h ∨ u = l) → (v = g ∨ v = m) → ∃ r, double.mul u v = some r ∧ Num r 0) → (a = 0 ∨ b = 0) → hg' = 0 → ∃ p e π ε, ProdW x y h l g m p e π ε ∧ a * b = (π + ε) * 2 ^ uE ∧ ∃ P, a * b = P * 2 ^ uE ∧ Near P π := by
    intro _ hmul hab _
    obtain ⟨p, p1, p2⟩ := mul0 hx.x hy.x hab
    obtain ⟨hg, q1, q2⟩ := hmul (Or.inl rfl) (Or.inl rfl)
    obtain ⟨hm, q3, q4⟩ := hmul (Or.inl rfl) (Or.inr rfl)
    obtain ⟨lg, q5, q6⟩ := hmul (Or.inr rfl) (Or.inl rfl)
    obtain ⟨lm, q7, q8⟩ := hmul (Or.inr rfl) (Or.inr rfl)
    obtain ⟨t1, r1, r2⟩ := zsub q2 p2
    obtain ⟨t2, r3, r4⟩ := zadd r2 q4
    obtain ⟨t3, r5, r6⟩ := zadd r4 q6
    obtain ⟨e, r7, r8⟩ := zadd r6 q8
    have hz : a * b = 0 := Int.mul_eq_zero.2 hab
    refine ⟨p, e, 0, 0, ⟨p1, p2, r8, hg, t1, hm, t2, lg, t3, lm, q1, r1, q3, r3, q5, r5, q7, r7⟩, ?_, 0, ?_, fl_zero, fun y _ => by omega⟩
    · rw [hz, Int.add_zero, Int.zero_mul]
    · rw [hz, Int.zero_mul]
  rcases hx.ex with ⟨rfl, nh, nl⟩ | ⟨e, A, H, L, e1, e2, hA, nh, nl, HX⟩
  · refine zero (hg' := 0) ?_ (Or.inl rfl) rfl
    intro u v hu hv
    have nu : Num u 0 := by rcases hu with rfl | rfl; exact nh; exact nl
    have nv : ∃ c, Num v c := by
      rcases hy.ex with ⟨_, ng, nm⟩ | ⟨f, B, G, M, _, _, _, ng, nm, _⟩ <;> rcases hv with rfl | rfl
      · exact ⟨_, ng⟩
      · exact ⟨_, nm⟩
      · exact ⟨_, ng⟩
      · exact ⟨_, nm⟩
    obtain ⟨c, nv⟩ := nv
    exact mul0 nu nv (Or.inl rfl)
  · rcases hy.ex with ⟨rfl, ng, nm⟩ | ⟨f, B, G, M, f1, f2, hB, ng, nm, HY⟩
    · refine zero (hg' := 0) ?_ (Or.inr rfl) rfl
      intro u v hu hv
      have nv : Num v 0 := by rcases hv with rfl | rfl; exact ng; exact nm
      rcases hu with rfl | rfl
      · exact mul0 nh nv (Or.inr rfl)
      · exact mul0 nl nv (Or.inr rfl)
    · have hu : uE = 1074 := rfl
      obtain ⟨k, hk⟩ : ∃ k, e + f = k + uE := ⟨e + f - uE, by omega⟩
      have hk2 : k ≤ 1926 := by omega
      have nx := hx.x
      have ny := hy.x
      rw [hA] at nx
      rw [hB] at ny
      have A53 : A.natAbs ≤ 2 ^ 53 := Nat.le_of_lt HX.lt
      have B53 : B.natAbs ≤ 2 ^ 53 := Nat.le_of_lt HY.lt
      have L53 : L.natAbs ≤ 2 ^ 53 := Nat.le_trans HX.lo_le (by decide)
      have M53 : M.natAbs ≤ 2 ^ 53 := Nat.le_trans HY.lo_le (by decide)
      obtain ⟨p, π, p1, p2, p3, p4⟩ := mulx nx ny A53 B53 e1 f1 hk (by omega)
      have D := dekker HX HY p3
      obtain ⟨hg, z1, q1, q2, q3, q4⟩ := mulx nh ng HX.le HY.le e1 f1 hk (by omega)
      obtain ⟨hm, z2, q5, q6, q7, q8⟩ := mulx nh nm HX.le M53 e1 f1 hk (by omega)
      obtain ⟨lg, z3, q9, q10, q11, q12⟩ := mulx nl ng L53 HY.le e1 f1 hk (by omega)
      obtain ⟨lm, z4, q13, q14, q15, q16⟩ := mulx nl nm L53 M53 e1 f1 hk (by omega)
      have E1 := q3.self D.hg
      have E2 := q7.self D.hm
      have E3 := q11.self D.lg
      have E4 := q15.self D.lm
      obtain ⟨t1, y1, r1, r2, r3, r4⟩ := subx q2 p2 q4 p4 (by omega)
      have F1 := r3.self (by rw [E1]; exact D.t1)
      obtain ⟨t2, y2, r5, r6, r7, r8⟩ := addx r2 q6 r4 (Nat.le_trans q8 (two_le (by omega))) (by omega)
      have F2 := r7.self (by rw [F1, E1, E2]; exact D.t2)
      obtain ⟨t3, y3, r9, r10, r11, r12⟩ := addx r6 q10 r8 (Nat.le_trans q12 (two_le (by omega))) (by omega)
      have F3 := r11.self (by rw [F2, F1, E1, E2, E3]; exact D.t3)
      obtain ⟨t4, y4, r13, r14, r15, r16⟩ := addx r10 q14 r12 (Nat.le_trans q16 (two_le (by omega))) (by omega)
      have hs := D.sum
      have F4 := r15.self (by
        have : y3 + z4 = A * B * 2 ^ k - π := by omega
        rw [this]; exact D.err)
      have hab : a * b = A * B * 2 ^ k * 2 ^ uE := by
        rw [hA, hB, Int.mul_assoc (A * B), ← Int.pow_add, ← hk, Int.pow_add]; ac_rfl
      refine ⟨p, t4, π, y4, ⟨p1, p2, r14, hg, t1, hm, t2, lg, t3, lm, q1, r1, q5, r5, q9, r9, q13, r13⟩, ?_, _, hab, p3⟩
      have : π + y4 = A * B * 2 ^ k := by omega
      rw [this]; exact hab
end Flt

/- Words of products of floats that are neither too small nor too great: a product to the nearest, and what divides it. No program is named here. -/
namespace Flt
open Ieee

theorem two_ge {k j n : Nat} (hk : k = j) (h : 2 ^ k ≤ n) : 2 ^ j ≤ n := by subst hk; exact h
/-- 0, or from 2^(52 + e0) on, below 2^1300 -/
def FromN (e0 : Nat) (a : Int) : Prop := a = 0 ∨ (2 ^ (52 + e0) ≤ a.natAbs ∧ a.natAbs < 2 ^ 1400)
theorem FromN.of {k e0 : Nat} {n : Int} (hk : k = 52 + e0) (h : 2 ^ k ≤ n.natAbs) (h2 : n.natAbs < 2 ^ 1400) : FromN e0 n := Or.inr ⟨two_ge hk h, h2⟩
theorem FromN.place {e0 : Nat} {a : Int} (ha : FromN e0 a) (h0 : a ≠ 0) (hf : FL a) : ∃ (e : Nat) (X : Int), a = X * 2 ^ e ∧ X.natAbs ≤ 2 ^ 53 ∧ e0 ≤ e ∧ e ≤ 1348 := by
  rcases ha with h | ⟨h1, h2⟩
  · exact absurd h h0
  · obtain ⟨e, hd, hlt, hc⟩ := canon hf
    have e1 := two_lt (Nat.lt_of_le_of_lt h1 hlt)
    obtain ⟨X, hX⟩ := hd
    rw [Int.mul_comm] at hX
    have b1 : X.natAbs ≤ 2 ^ 53 := by
      rw [hX, shift_abs, Nat.pow_add] at hlt
      exact Nat.le_of_lt (Nat.lt_of_mul_lt_mul_right hlt)
    refine ⟨e, X, hX, b1, by omega, ?_⟩
    rcases hc with h | h
    · omega
    · have := two_lt (Nat.lt_of_le_of_lt h h2)
      omega
theorem mul_from {x y : Nat} {a b : Int} {e0 f0 : Nat} (hx : Num x a) (hy : Num y b) (ha : FromN e0 a) (hb : FromN f0 b) (he : 600 ≤ e0) (hf : 600 ≤ f0) :
    ∃ (T : Int) (r : Nat) (z : Int), a * b = T * 2 ^ uE ∧ double.mul x y = some r ∧ Num r z ∧ Near T z ∧ (2 : Int) ^ (e0 + f0 - uE) ∣ T := by
  by_cases h0 : a = 0 ∨ b = 0
  · obtain ⟨r, k1, k2⟩ := mul0 hx hy h0
    refine ⟨0, r, 0, ?_, k1, k2, ?_, Int.dvd_zero _⟩
    · rcases h0 with h | h
      · rw [h]; simp
      · rw [h]; simp
    · have := rn_near 0
      rwa [rn_zero] at this
  · obtain ⟨e, X, hX, b1, e1, e2⟩ := ha.place (fun h => h0 (Or.inl h)) hx.fl
    obtain ⟨f, Y, hY, b2, f1, f2⟩ := hb.place (fun h => h0 (Or.inr h)) hy.fl
    have hu : uE = 1074 := rfl
    obtain ⟨k, hk⟩ : ∃ k, e + f = k + uE := ⟨e + f - uE, by omega⟩
    obtain ⟨r, z, k1, k2, k3, _⟩ := mulx (hX ▸ hx) (hY ▸ hy) b1 b2 (by omega) (by omega) hk (by omega)
    refine ⟨X * Y * 2 ^ k, r, z, ?_, k1, k2, k3, ?_⟩
    · rw [hX, hY, Int.mul_assoc (X * Y), ← Int.pow_add, ← hk, Int.pow_add]; ac_rfl
    · exact two_dvd_of_le (by omega) (Int.dvd_mul_left _ _)
theorem ge_uE {a b c p h k : Nat} (hc : c + uE = a + b) (ha : 2 ^ a ≤ h) (hb : 2 ^ b ≤ k) (hp : p * 2 ^ uE = h * k) : 2 ^ c ≤ p := by
  have h1 := Nat.mul_le_mul ha hb
  rw [← Nat.pow_add, ← hc, Nat.pow_add, ← hp] at h1
  exact Nat.le_of_mul_le_mul_right h1 (two_posN uE)
theorem le_uE {a b c p h k : Nat} (hc : c + uE = a + b) (ha : h ≤ 2 ^ a) (hb : k ≤ 2 ^ b) (hp : p * 2 ^ uE = h * k) : p ≤ 2 ^ c := by
  have h1 := Nat.mul_le_mul ha hb
  rw [← Nat.pow_add, ← hc, Nat.pow_add, ← hp] at h1
  exact Nat.le_of_mul_le_mul_right h1 (two_posN uE)
end Flt

/- Layer 4: a product of two tame numbers: sizes, what divides, the error. Over whole numbers. No program is named here. -/
namespace Go.Proofs.Ytfpneojhhkfhpaa
open Go.RowKit

theorem K53_k : 64 ≤ Flt.K53 := by rw [Flt.K53_eq]; decide
theorem TameN.from {H L : Int} (h : Flt.TameN H L) : Flt.FromN 878 H ∧ Flt.FromN 622 L := by
  have h0 := TameN.up h
  rcases h with ⟨h1, h2⟩ | ⟨h1, h2, h3, h4⟩
  · exact ⟨Or.inl h1, Or.inl h2⟩
  · refine ⟨Flt.FromN.of (k := 930) (e0 := 878) (by decide) h1 (Nat.lt_of_le_of_lt h0.1 (Flt.two_lt' (a := 1220) (b := 1400) (by decide))), ?_⟩
    rcases h4 with h4 | h4
    · exact Or.inl h4
    · exact Flt.FromN.of (k := 674) (e0 := 622) (by decide) h4 (Nat.lt_of_le_of_lt h0.2 (Flt.two_lt' (a := 1220) (b := 1400) (by decide)))
/-- the product, by its parts -/
structure MulR (H L H' L' P Q1 Q2 Q3 p e m1 m2 c f : Int) : Prop where
  rL : Flt.rn (H + L) = H
  rL' : Flt.rn (H' + L') = H'
  hP : H * H' = P * 2 ^ Flt.uE
  h1 : H * L' = Q1 * 2 ^ Flt.uE
  h2 : L * H' = Q2 * 2 ^ Flt.uE
  h3 : L * L' = Q3 * 2 ^ Flt.uE
  n1 : Flt.Near P p
  x1 : p + e = P
  n2 : Flt.Near Q1 m1
  n3 : Flt.Near Q2 m2
  rc : c = Flt.rn (m1 + m2)
  rf : f = Flt.rn (e + c)
theorem MulR.bound {H L H' L' P Q1 Q2 Q3 p e m1 m2 c f : Int} (h : MulR H L H' L' P Q1 Q2 Q3 p e m1 m2 c f) : (p + f - (P + Q1 + Q2 + Q3)).natAbs * Flt.K53 * Flt.K53 ≤ 64 * P.natAbs :=
  Flt.mul_err h.rL h.rL' h.hP h.h1 h.h2 h.h3 h.n1 h.x1 h.n2 h.n3 (h.rc ▸ Flt.rn_near _) (h.rf ▸ Flt.rn_near _)
theorem small_of {q K P : Nat} (hK : 64 ≤ K) (h : q * K ≤ 2 * P) : q * 32 ≤ P := by
  have := Nat.mul_le_mul_left q hK
  omega
theorem small_of2 {q K P : Nat} (hK : 64 ≤ K) (h : q * K * K ≤ 64 * P) : q * 32 ≤ P := by
  have h1 := Nat.mul_le_mul_left (q * K) hK
  have h2 := Nat.mul_le_mul_left q hK
  omega
theorem MulR.lo {H L H' L' P Q1 Q2 Q3 p e m1 m2 c f : Int} (h : MulR H L H' L' P Q1 Q2 Q3 p e m1 m2 c f) : Q1.natAbs * 32 ≤ P.natAbs ∧ Q2.natAbs * 32 ≤ P.natAbs ∧ Q3.natAbs * 32 ≤ P.natAbs ∧ (p + f - (P + Q1 + Q2 + Q3)).natAbs * 32 ≤ P.natAbs := by
  have a1 := small_of K53_k (Flt.part_lo h.hP h.h1 (Flt.lo_le h.rL'))
  have a2 := small_of K53_k (Flt.part_lo (H := H') (P := P) (Q := Q2) (a := H) (b := L) (by rw [Int.mul_comm]; exact h.hP) (by rw [Int.mul_comm]; exact h.h2) (Flt.lo_le h.rL))
  have a3 := small_of K53_k (Flt.part_lo (H := L) (P := Q2) (Q := Q3) (a := H') (b := L') h.h2 h.h3 (Flt.lo_le h.rL'))
  exact ⟨a1, a2, by omega, small_of2 K53_k h.bound⟩
theorem MulR.near {H L H' L' P Q1 Q2 Q3 p e m1 m2 c f : Int} (h : MulR H L H' L' P Q1 Q2 Q3 p e m1 m2 c f) : (p + f - P).natAbs * 8 ≤ P.natAbs := by
  obtain ⟨a1, a2, a3, a4⟩ := h.lo
  have k1 : (Q1 + Q2).natAbs * 32 ≤ 2 * P.natAbs := by omega
  have k2 : (Q1 + Q2 + Q3).natAbs * 32 ≤ 3 * P.natAbs := by omega
  clear a1 a2 a3 k1
  have k3 : (p + f - P).natAbs * 32 ≤ 4 * P.natAbs := by omega
  omega
theorem MulR.err {H L H' L' P Q1 Q2 Q3 p e m1 m2 c f : Int} (h : MulR H L H' L' P Q1 Q2 Q3 p e m1 m2 c f) : MulErr H L H' L' (p + f) := by
  have hb := h.bound
  have hX : (H + L) * (H' + L') = (P + Q1 + Q2 + Q3) * 2 ^ Flt.uE := by
    rw [Int.add_mul, Int.mul_add, Int.mul_add, h.hP, h.h1, h.h2, h.h3, Int.add_mul, Int.add_mul, Int.add_mul]
    omega
  obtain ⟨D, hD⟩ : ∃ D, D = p + f - (P + Q1 + Q2 + Q3) := ⟨_, rfl⟩
  have hDu : (p + f) * 2 ^ Flt.uE - (H + L) * (H' + L') = D * 2 ^ Flt.uE := by rw [hX, hD, Int.sub_mul]
  rw [← hD] at hb
  have hPa : P.natAbs * 2 ^ Flt.uE = H.natAbs * H'.natAbs := by rw [← Flt.natAbs_uE, ← h.hP, Int.natAbs_mul]
  refine ⟨fun h0 => ?_, fun T U hTU a b => ?_⟩
  · have hz := h.near
    have hP0 : P.natAbs = 0 := by
      have : P.natAbs * 2 ^ Flt.uE = 0 := by
        rw [hPa]
        rcases h0 with h0 | h0
        · rw [h0]; simp
        · rw [h0]; simp
      rcases Nat.mul_eq_zero.1 this with k | k
      · exact k
      · exact absurd k (Nat.pos_iff_ne_zero.1 (Flt.two_posN _))
    omega
  · rw [hDu, Flt.natAbs_uE]
    have k1 : H.natAbs * H'.natAbs < 2 ^ T * 2 ^ U := Nat.mul_lt_mul'' a b
    rw [← Nat.pow_add, ← hPa] at k1
    refine Flt.err_pow (C := 64) ?_ (by decide) hTU (by decide)
    have k2 := Nat.mul_le_mul_right (2 ^ Flt.uE) hb
    obtain ⟨M, hM⟩ : ∃ M, M = 2 ^ Flt.uE := ⟨_, rfl⟩
    obtain ⟨W, hW⟩ : ∃ W, W = 2 ^ (T + U) := ⟨_, rfl⟩
    rw [← hM] at k1 k2 ⊢
    rw [← hW] at k1 ⊢
    calc D.natAbs * M * Flt.K53 * Flt.K53 = D.natAbs * Flt.K53 * Flt.K53 * M := by ac_rfl
      _ ≤ 64 * P.natAbs * M := k2
      _ = 64 * (P.natAbs * M) := by rw [Nat.mul_assoc]
      _ ≤ 64 * W := Nat.mul_le_mul_left _ (Nat.le_of_lt k1)
theorem MulR.dvd {H L H' L' P Q1 Q2 Q3 p e m1 m2 c f : Int} {k : Nat} (h : MulR H L H' L' P Q1 Q2 Q3 p e m1 m2 c f) (dP : (2 : Int) ^ k ∣ P) (d1 : (2 : Int) ^ k ∣ Q1) (d2 : (2 : Int) ^ k ∣ Q2) : (2 : Int) ^ k ∣ p + f := by
  have a1 := h.n1.dvd dP
  have a2 : (2 : Int) ^ k ∣ e := by
    have := Int.dvd_sub dP a1
    rwa [show P - p = e from by have := h.x1; omega] at this
  have a3 : (2 : Int) ^ k ∣ c := h.rc ▸ rn_dvd (Int.dvd_add (h.n2.dvd d1) (h.n3.dvd d2))
  have a4 : (2 : Int) ^ k ∣ f := h.rf ▸ rn_dvd (Int.dvd_add a2 a3)
  exact Int.dvd_add a1 a4
/-- what a rounding leaves of a number: at least half -/
theorem rn_ge2 (n : Int) : n.natAbs ≤ 2 * (Flt.rn n).natAbs := by
  have h := (Flt.rn_near n).relK
  have h3 : 4 * (Flt.rn n - n).natAbs ≤ (Flt.rn n - n).natAbs * Flt.K53 := by rw [Nat.mul_comm]; exact Nat.mul_le_mul_left _ Flt.K53_ge
  omega
theorem MulR.ge {H L H' L' P Q1 Q2 Q3 p e m1 m2 c f : Int} (h : MulR H L H' L' P Q1 Q2 Q3 p e m1 m2 c f) : P.natAbs ≤ 4 * (Flt.rn (p + f)).natAbs := by
  have h1 := h.near
  have h2 := rn_ge2 (p + f)
  omega
/-- sizes -/
theorem MulR.le {H L H' L' P Q1 Q2 Q3 p e m1 m2 c f : Int} (h : MulR H L H' L' P Q1 Q2 Q3 p e m1 m2 c f) : p.natAbs ≤ 2 * P.natAbs ∧ e.natAbs ≤ 4 * P.natAbs ∧ m1.natAbs ≤ 2 * P.natAbs ∧ m2.natAbs ≤ 2 * P.natAbs ∧ c.natAbs ≤ 8 * P.natAbs ∧ f.natAbs ≤ 32 * P.natAbs := by
  obtain ⟨a1, a2, _, _⟩ := h.lo
  have n2 : ∀ {n z : Int}, Flt.Near n z → z.natAbs ≤ 2 * n.natAbs := fun {n z} hz => by
    have h := hz.relK
    have h3 : 4 * (z - n).natAbs ≤ (z - n).natAbs * Flt.K53 := by rw [Nat.mul_comm]; exact Nat.mul_le_mul_left _ Flt.K53_ge
    omega
  have b1 := n2 h.n1
  have b2 := n2 h.n2
  have b3 := n2 h.n3
  have b4 : e.natAbs ≤ 4 * P.natAbs := by have := h.x1; omega
  have b5 : m1.natAbs ≤ 2 * P.natAbs := by omega
  have b6 : m2.natAbs ≤ 2 * P.natAbs := by omega
  have b7 : c.natAbs ≤ 8 * P.natAbs := h.rc ▸ na_rn (na_add b5 b6 (Nat.le_refl _)) (by omega)
  have b8 : f.natAbs ≤ 32 * P.natAbs := h.rf ▸ na_rn (na_add b4 b7 (Nat.le_refl _)) (by omega)
  exact ⟨b1, b4, b5, b6, b7, b8⟩
/-- how great the product of the first parts is -/
theorem prod_size {H L H' L' P : Int} (hT : Flt.TameN H L) (hT' : Flt.TameN H' L') (hP : H * H' = P * 2 ^ Flt.uE) : (P = 0 ∨ 2 ^ 786 ≤ P.natAbs) ∧ P.natAbs ≤ 2 ^ 1366 := by
  have hPa : P.natAbs * 2 ^ Flt.uE = H.natAbs * H'.natAbs := by rw [← Flt.natAbs_uE, ← hP, Int.natAbs_mul]
  have hu := TameN.up hT
  have hu' := TameN.up hT'
  constructor
  · rcases hT with ⟨h, _⟩ | ⟨h1, _, _, _⟩
    · left
      rw [h, Int.zero_mul] at hP
      rcases Int.mul_eq_zero.1 hP.symm with k | k
      · exact k
      · exact absurd k (Int.ne_of_gt (Flt.two_pos _))
    · rcases hT' with ⟨h, _⟩ | ⟨h1', _, _, _⟩
      · left
        rw [h, Int.mul_zero] at hP
        rcases Int.mul_eq_zero.1 hP.symm with k | k
        · exact k
        · exact absurd k (Int.ne_of_gt (Flt.two_pos _))
      · right
        exact Flt.ge_uE (a := 930) (b := 930) (c := 786) (by decide) h1 h1' hPa
  · exact Flt.le_uE (a := 1220) (b := 1220) (c := 1366) (by decide) hu.1 hu'.1 hPa
end Go.Proofs.Ytfpneojhhkfhpaa
