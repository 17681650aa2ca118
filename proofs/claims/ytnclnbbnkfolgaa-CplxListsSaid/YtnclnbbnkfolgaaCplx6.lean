/- The landed cplx: sums, differences, conjugates, products. -/
import Derived.Test.YtnclnbbnkfolgaaRot6
import Derived.Deep.DeepCutAuto
namespace Go.Proofs.Ytnclnbbnkfolgaa
open Go.RowKit

theorem fwor_cell (op : BinOp) (x y : Nat) (w : World) (p : Addr) : (fwor op x y w).cell? p = w.cell? p := by
  unfold fwor; split <;> rfl
theorem fwor_frozen (op : BinOp) (x y : Nat) (w : World) (p : Addr) : (fwor op x y w).frozen? p = w.frozen? p := by
  unfold fwor; split <;> rfl
theorem fwor_size (op : BinOp) (x y : Nat) (w : World) : (fwor op x y w).heap.size = w.heap.size := by
  unfold fwor; split <;> rfl
theorem Two.fwor {op : BinOp} {x y : Nat} {w : World} {R a b : Nat} (h : Two w R a b) : Two (fwor op x y w) R a b :=
  ⟨(fwor_cell ..).trans h.c0, (fwor_cell ..).trans h.c1, (fwor_frozen ..).trans h.z0, (fwor_frozen ..).trans h.z1⟩
theorem add_said6 : AddSaid6 := by
  intro x y u v w
  have sf := run_store_float Try.prog
  go_enter Try.func12, Try.ntmps12
  go_upto_region 1 with fail
  obtain ⟨w1, hw1⟩ : ∃ w1, w1 = ((w.alloc (Obj.cells #[.float .f64 x, .float .f64 y] 25)).alloc (Obj.cells #[.float .f64 u, .float .f64 v] 25)).alloc (Obj.cells #[.float .f64 0, .float .f64 0] 25) := ⟨_, rfl⟩
  have tA : Two w1 w.heap.size x y := by rw [hw1]; exact ((Two.newN _ _ _ _ _ rfl).al _).al _
  have tB : Two w1 (w.heap.size + 1) u v := by rw [hw1]; exact (Two.newN _ _ _ _ _ (by simp)).al _
  have tC : Two w1 (w.heap.size + 2) 0 0 := by rw [hw1]; exact Two.newN _ _ _ _ _ (by simp)
  have b1 : Bel w w1 := by rw [hw1]; exact (((Bel.refl _).alloc _).alloc _).alloc _
  have lc : w.heap.size ≤ w.heap.size + 2 := by omega
  rw [← hw1]
  obtain ⟨A, hA⟩ : ∃ A, A = w.heap.size := ⟨_, rfl⟩
  obtain ⟨B, hB⟩ : ∃ B, B = w.heap.size + 1 := ⟨_, rfl⟩
  obtain ⟨C, hC⟩ : ∃ C, C = w.heap.size + 2 := ⟨_, rfl⟩
  have hC' : w.heap.size + 1 + 1 = C := by omega
  rw [← hC] at tC lc
  rw [← hB] at tB
  rw [← hA] at tA
  rw [hC', ← hB, ← hA]
  obtain ⟨r, hr⟩ : ∃ r, r = fval .add x u w1 := ⟨_, rfl⟩
  obtain ⟨w2, hw2⟩ : ∃ w2, w2 = fwor .add x u w1 := ⟨_, rfl⟩
  obtain ⟨s, hs⟩ : ∃ s, s = fval .add y v w2 := ⟨_, rfl⟩
  obtain ⟨w3, hw3⟩ : ∃ w3, w3 = fwor .add y v w2 := ⟨_, rfl⟩
  have r1 := run_fany (P := Try.prog) arA 23 x u w1
  have r2 := run_fany (P := Try.prog) arA 23 y v w2
  have F1 : FR .add x u r := by rw [hr]; exact fval_fr _ _ _
  have F2 : FR .add y v s := by rw [hs]; exact fval_fr _ _ _
  have b3 : Bel w w3 := by rw [hw3, hw2]; exact (b1.trans (fwor_bel _ _ _ _)).trans (fwor_bel _ _ _ _)
  have a0 := tA.c0
  have d0 := tB.c0
  have a1 : w2.cell? ⟨A, 1, none⟩ = some (.float .f64 y) := by rw [hw2]; exact tA.fwor.c1
  have d1 : w2.cell? ⟨B, 1, none⟩ = some (.float .f64 v) := by rw [hw2]; exact tB.fwor.c1
  have tC3 : Two w3 C 0 0 := by rw [hw3, hw2]; exact tC.fwor.fwor
  rw [← hr, ← hw2] at r1
  rw [← hs, ← hw3] at r2
  have c0 := tC3.c0
  have z0 := tC3.z0
  obtain ⟨m1, m2⟩ := tC3.mid r
  have tR := tC3.set r s
  have e0 := tR.c0
  have e1 := tR.c1
  have BB := (b3.setCell (p := ⟨C, 0, none⟩) lc (.float .f64 r)).setCell (p := ⟨C, 1, none⟩) lc (.float .f64 s)
  clear hr hw2 hs hw3 tA tB tC tC3 tR b1 b3 lc hA hB hC hC' hw1
  go_wp2
  refine bodyPost_ret (by simp [results, go_sem, e0, e1]; try rfl) rfl ?_
  exact ⟨_, rfl, ⟨r, s, rfl, F1, F2⟩, BB⟩
theorem sub_said6 : SubSaid6 := by
  intro x y u v w
  have sf := run_store_float Try.prog
  go_enter Try.func13, Try.ntmps13
  go_upto_region 1 with fail
  obtain ⟨w1, hw1⟩ : ∃ w1, w1 = ((w.alloc (Obj.cells #[.float .f64 x, .float .f64 y] 25)).alloc (Obj.cells #[.float .f64 u, .float .f64 v] 25)).alloc (Obj.cells #[.float .f64 0, .float .f64 0] 25) := ⟨_, rfl⟩
  have tA : Two w1 w.heap.size x y := by rw [hw1]; exact ((Two.newN _ _ _ _ _ rfl).al _).al _
  have tB : Two w1 (w.heap.size + 1) u v := by rw [hw1]; exact (Two.newN _ _ _ _ _ (by simp)).al _
  have tC : Two w1 (w.heap.size + 2) 0 0 := by rw [hw1]; exact Two.newN _ _ _ _ _ (by simp)
  have b1 : Bel w w1 := by rw [hw1]; exact (((Bel.refl _).alloc _).alloc _).alloc _
  have lc : w.heap.size ≤ w.heap.size + 2 := by omega
  rw [← hw1]
  obtain ⟨A, hA⟩ : ∃ A, A = w.heap.size := ⟨_, rfl⟩
  obtain ⟨B, hB⟩ : ∃ B, B = w.heap.size + 1 := ⟨_, rfl⟩
  obtain ⟨C, hC⟩ : ∃ C, C = w.heap.size + 2 := ⟨_, rfl⟩
  have hC' : w.heap.size + 1 + 1 = C := by omega
  rw [← hC] at tC lc
  rw [← hB] at tB
  rw [← hA] at tA
  rw [hC', ← hB, ← hA]
  obtain ⟨r, hr⟩ : ∃ r, r = fval .sub x u w1 := ⟨_, rfl⟩
  obtain ⟨w2, hw2⟩ : ∃ w2, w2 = fwor .sub x u w1 := ⟨_, rfl⟩
  obtain ⟨s, hs⟩ : ∃ s, s = fval .sub y v w2 := ⟨_, rfl⟩
  obtain ⟨w3, hw3⟩ : ∃ w3, w3 = fwor .sub y v w2 := ⟨_, rfl⟩
  have r1 := run_fany (P := Try.prog) arS 23 x u w1
  have r2 := run_fany (P := Try.prog) arS 23 y v w2
  have F1 : FR .sub x u r := by rw [hr]; exact fval_fr _ _ _
  have F2 : FR .sub y v s := by rw [hs]; exact fval_fr _ _ _
  have b3 : Bel w w3 := by rw [hw3, hw2]; exact (b1.trans (fwor_bel _ _ _ _)).trans (fwor_bel _ _ _ _)
  have a0 := tA.c0
  have d0 := tB.c0
  have a1 : w2.cell? ⟨A, 1, none⟩ = some (.float .f64 y) := by rw [hw2]; exact tA.fwor.c1
  have d1 : w2.cell? ⟨B, 1, none⟩ = some (.float .f64 v) := by rw [hw2]; exact tB.fwor.c1
  have tC3 : Two w3 C 0 0 := by rw [hw3, hw2]; exact tC.fwor.fwor
  rw [← hr, ← hw2] at r1
  rw [← hs, ← hw3] at r2
  have c0 := tC3.c0
  have z0 := tC3.z0
  obtain ⟨m1, m2⟩ := tC3.mid r
  have tR := tC3.set r s
  have e0 := tR.c0
  have e1 := tR.c1
  have BB := (b3.setCell (p := ⟨C, 0, none⟩) lc (.float .f64 r)).setCell (p := ⟨C, 1, none⟩) lc (.float .f64 s)
  clear hr hw2 hs hw3 tA tB tC tC3 tR b1 b3 lc hA hB hC hC' hw1
  go_wp2
  refine bodyPost_ret (by simp [results, go_sem, e0, e1]; try rfl) rfl ?_
  exact ⟨_, rfl, ⟨r, s, rfl, F1, F2⟩, BB⟩
theorem conj_said6 : ConjSaid6 := by
  intro x y w
  have rn := run_neg (P := Try.prog) y
  have sf := run_store_float Try.prog
  go_enter Try.func14, Try.ntmps14
  go_upto_region 1 with fail
  obtain ⟨w1, hw1⟩ : ∃ w1, w1 = (w.alloc (Obj.cells #[.float .f64 x, .float .f64 y] 25)).alloc (Obj.cells #[.float .f64 0, .float .f64 0] 25) := ⟨_, rfl⟩
  have tA : Two w1 w.heap.size x y := by rw [hw1]; exact (Two.newN _ _ _ _ _ rfl).al _
  have tC : Two w1 (w.heap.size + 1) 0 0 := by rw [hw1]; exact Two.newN _ _ _ _ _ (by simp)
  have b1 : Bel w w1 := by rw [hw1]; exact ((Bel.refl _).alloc _).alloc _
  have lc : w.heap.size ≤ w.heap.size + 1 := by omega
  rw [← hw1]
  obtain ⟨A, hA⟩ : ∃ A, A = w.heap.size := ⟨_, rfl⟩
  obtain ⟨C, hC⟩ : ∃ C, C = w.heap.size + 1 := ⟨_, rfl⟩
  rw [← hC] at tC lc ⊢
  rw [← hA] at tA ⊢
  have a0 := tA.c0
  have a1 := tA.c1
  have c0 := tC.c0
  have z0 := tC.z0
  obtain ⟨m1, m2⟩ := tC.mid x
  have tR := tC.set x (Op.negFloat .f64 y)
  have e0 := tR.c0
  have e1 := tR.c1
  have BB := (b1.setCell (p := ⟨C, 0, none⟩) lc (.float .f64 x)).setCell (p := ⟨C, 1, none⟩) lc (.float .f64 (Op.negFloat .f64 y))
  clear tA tC tR b1 lc hA hC hw1
  go_wp2
  refine bodyPost_ret (by simp [results, go_sem, e0, e1]; try rfl) rfl ?_
  exact ⟨rfl, BB⟩
theorem mul_said6 : MulSaid6 := by
  intro x y u v w
  have sf := run_store_float Try.prog
  go_enter Try.func16, Try.ntmps16
  go_upto_region 1 with fail
  obtain ⟨w1, hw1⟩ : ∃ w1, w1 = ((w.alloc (Obj.cells #[.float .f64 x, .float .f64 y] 25)).alloc (Obj.cells #[.float .f64 u, .float .f64 v] 25)).alloc (Obj.cells #[.float .f64 0, .float .f64 0] 25) := ⟨_, rfl⟩
  have tA : Two w1 w.heap.size x y := by rw [hw1]; exact ((Two.newN _ _ _ _ _ rfl).al _).al _
  have tB : Two w1 (w.heap.size + 1) u v := by rw [hw1]; exact (Two.newN _ _ _ _ _ (by simp)).al _
  have tC : Two w1 (w.heap.size + 2) 0 0 := by rw [hw1]; exact Two.newN _ _ _ _ _ (by simp)
  have b1 : Bel w w1 := by rw [hw1]; exact (((Bel.refl _).alloc _).alloc _).alloc _
  have lc : w.heap.size ≤ w.heap.size + 2 := by omega
  rw [← hw1]
  obtain ⟨A, hA⟩ : ∃ A, A = w.heap.size := ⟨_, rfl⟩
  obtain ⟨B, hB⟩ : ∃ B, B = w.heap.size + 1 := ⟨_, rfl⟩
  obtain ⟨C, hC⟩ : ∃ C, C = w.heap.size + 2 := ⟨_, rfl⟩
  have hC' : w.heap.size + 1 + 1 = C := by omega
  rw [← hC] at tC lc
  rw [← hB] at tB
  rw [← hA] at tA
  rw [hC', ← hB, ← hA]
  obtain ⟨p, hp⟩ : ∃ r, r = fval .mul x u w1 := ⟨_, rfl⟩
  obtain ⟨w2, hw2⟩ : ∃ r, r = fwor .mul x u w1 := ⟨_, rfl⟩
  have rp := run_fany (P := Try.prog) arM 23 x u w1
  have Fp : FR .mul x u p := by rw [hp]; exact fval_fr _ _ _
  have b2w : Bel w1 w2 := by rw [hw2]; exact fwor_bel _ _ _ _
  rw [← hp, ← hw2] at rp
  obtain ⟨q, hq⟩ : ∃ r, r = fval .mul y v w2 := ⟨_, rfl⟩
  obtain ⟨w3, hw3⟩ : ∃ r, r = fwor .mul y v w2 := ⟨_, rfl⟩
  have rq := run_fany (P := Try.prog) arM 23 y v w2
  have Fq : FR .mul y v q := by rw [hq]; exact fval_fr _ _ _
  have b3w : Bel w2 w3 := by rw [hw3]; exact fwor_bel _ _ _ _
  rw [← hq, ← hw3] at rq
  obtain ⟨r, hr⟩ : ∃ r, r = fval .sub p q w3 := ⟨_, rfl⟩
  obtain ⟨w4, hw4⟩ : ∃ r, r = fwor .sub p q w3 := ⟨_, rfl⟩
  have rr := run_fany (P := Try.prog) arS 23 p q w3
  have Fr : FR .sub p q r := by rw [hr]; exact fval_fr _ _ _
  have b4w : Bel w3 w4 := by rw [hw4]; exact fwor_bel _ _ _ _
  rw [← hr, ← hw4] at rr
  obtain ⟨e, he⟩ : ∃ r, r = fval .mul x v w4 := ⟨_, rfl⟩
  obtain ⟨w5, hw5⟩ : ∃ r, r = fwor .mul x v w4 := ⟨_, rfl⟩
  have re := run_fany (P := Try.prog) arM 23 x v w4
  have Fe : FR .mul x v e := by rw [he]; exact fval_fr _ _ _
  have b5w : Bel w4 w5 := by rw [hw5]; exact fwor_bel _ _ _ _
  rw [← he, ← hw5] at re
  obtain ⟨f, hf⟩ : ∃ r, r = fval .mul y u w5 := ⟨_, rfl⟩
  obtain ⟨w6, hw6⟩ : ∃ r, r = fwor .mul y u w5 := ⟨_, rfl⟩
  have rf := run_fany (P := Try.prog) arM 23 y u w5
  have Ff : FR .mul y u f := by rw [hf]; exact fval_fr _ _ _
  have b6w : Bel w5 w6 := by rw [hw6]; exact fwor_bel _ _ _ _
  rw [← hf, ← hw6] at rf
  obtain ⟨s, hs⟩ : ∃ r, r = fval .add e f w6 := ⟨_, rfl⟩
  obtain ⟨w7, hw7⟩ : ∃ r, r = fwor .add e f w6 := ⟨_, rfl⟩
  have rs := run_fany (P := Try.prog) arA 23 e f w6
  have Fs : FR .add e f s := by rw [hs]; exact fval_fr _ _ _
  have b7w : Bel w6 w7 := by rw [hw7]; exact fwor_bel _ _ _ _
  rw [← hs, ← hw7] at rs
  have tA2 := tA.by b2w
  have tB2 := tB.by b2w
  have tA4 := (tA2.by b3w).by b4w
  have tB4 := (tB2.by b3w).by b4w
  have tA5 := tA4.by b5w
  have tB5 := tB4.by b5w
  have tC7 := ((((((tC.by b2w).by b3w).by b4w).by b5w).by b6w).by b7w)
  have b7 := b1.trans (((((b2w.trans b3w).trans b4w).trans b5w).trans b6w).trans b7w)
  have x0 := tA.c0
  have u0 := tB.c0
  have y0 := tA2.c1
  have v0 := tB2.c1
  have x1 := tA4.c0
  have v1 := tB4.c1
  have y1 := tA5.c1
  have u1 := tB5.c0
  have c0 := tC7.c0
  have z0 := tC7.z0
  obtain ⟨m1, m2⟩ := tC7.mid r
  have tR := tC7.set r s
  have e0 := tR.c0
  have e1 := tR.c1
  have BB := (b7.setCell (p := ⟨C, 0, none⟩) lc (.float .f64 r)).setCell (p := ⟨C, 1, none⟩) lc (.float .f64 s)
  clear hp hq hr he hf hs hw2 hw3 hw4 hw5 hw6 hw7 tA tB tC tA2 tB2 tA4 tB4 tA5 tB5 tC7 tR b1 b2w b3w b4w b5w b6w b7w b7 lc hA hB hC hC' hw1
  go_wp2
  refine bodyPost_ret (by simp [results, go_sem, e0, e1]; try rfl) rfl ?_
  exact ⟨_, rfl, ⟨r, s, rfl, p, q, e, f, Fp, Fq, Fr, Fe, Ff, Fs⟩, BB⟩
end Go.Proofs.Ytnclnbbnkfolgaa
