/- CplxMuls' walk. -/
import Derived.Test.YtnclnbbnkfolgaaSaid6
import Derived.Deep.DeepCutAuto
namespace Go.Proofs.Ytnclnbbnkfolgaa
open Go.RowKit

theorem muls6 (hwk : WakesSaid6) (hM : MulSaid6) (a b c d : Int) (w : World) :
    Calls Try.prog 4 #[.agg #[.int .i64 a, .int .i64 b], .agg #[.int .i64 c, .int .i64 d]] w fun e w' => e = .returned (.bool true) ∧ Bel w w' := by
  have f1 := number_any a b
  have f2 := number_any c d
  have h1 := hM (wd a) (wd b) (wd c) (wd d)
  clear hM
  go_enter Try.func4, Try.ntmps4
  go_upto_region 1 with fail
  obtain ⟨w1, hw1⟩ : ∃ w1, w1 = (w.alloc (Obj.cells #[.int .i64 a, .int .i64 b] 22)).alloc (Obj.cells #[.int .i64 c, .int .i64 d] 22) := ⟨_, rfl⟩
  have hb : Bel w w1 := by rw [hw1]; exact ((Bel.refl _).alloc _).alloc _
  have c0 : w1.cell? ⟨w.heap.size, 0, none⟩ = some (.int .i64 a) := by rw [hw1]; exact (World.cell?_alloc_past _ _ _ (by simp)).trans (by rw [World.cell?_alloc_new]; rfl)
  have c1 : w1.cell? ⟨w.heap.size, 1, none⟩ = some (.int .i64 b) := by rw [hw1]; exact (World.cell?_alloc_past _ _ _ (by simp)).trans (by rw [World.cell?_alloc_new]; rfl)
  have d0 : w1.cell? ⟨w.heap.size + 1, 0, none⟩ = some (.int .i64 c) := by rw [hw1]; exact World.cell?_alloc_at _ _ _ _ (by simp)
  have d1 : w1.cell? ⟨w.heap.size + 1, 1, none⟩ = some (.int .i64 d) := by rw [hw1]; exact World.cell?_alloc_at _ _ _ _ (by simp)
  have hs : w.heap.size + 2 = w1.heap.size := by rw [hw1]; simp
  rw [← hw1]
  clear hw1
  refine pair6m_reg _ w.heap.size (w.heap.size + 1) a b c d ⟨_, rfl, rfl, rfl, rfl⟩ ⟨_, rfl, rfl, rfl, rfl⟩ ⟨_, rfl, rfl, rfl, rfl⟩ ⟨_, rfl, rfl, rfl, rfl⟩ ⟨_, rfl, rfl, rfl, rfl⟩ ⟨_, rfl, rfl, rfl, rfl⟩ ⟨_, rfl, rfl, rfl, rfl⟩ ⟨_, rfl, rfl, rfl, rfl⟩ rfl (by decide +kernel) rfl rfl rfl (fun w' h => (h.cell (p := ⟨w.heap.size, 0, none⟩) (by show w.heap.size < _; omega)).trans c0) (fun w' h => (h.cell (p := ⟨w.heap.size, 1, none⟩) (by show w.heap.size < _; omega)).trans c1) (fun w' h => (h.cell (p := ⟨w.heap.size + 1, 0, none⟩) (by show w.heap.size + 1 < _; omega)).trans d0) (fun w' h => (h.cell (p := ⟨w.heap.size + 1, 1, none⟩) (by show w.heap.size + 1 < _; omega)).trans d1) f1 f2 ?_
  intro f w2 X x y Y u v g1 gX _ tX gx gY _ tY gy _
  obtain ⟨rfl, rfl⟩ : x = wd a ∧ y = wd b := by simpa [dv] using gx
  obtain ⟨rfl, rfl⟩ : u = wd c ∧ v = wd d := by simpa [dv] using gy
  have b2 : Bel w w2 := hb.trans g1
  unfold actOf
  simp only [List.mapIdx_toArray, List.mapIdx_cons, List.mapIdx_nil, List.mem_cons, List.mem_nil_iff, Nat.reduceEqDiff, Nat.reduceAdd, or_false, or_true, if_true, if_false, gX, gY]
  clear g1 gX gx gY gy c0 c1 d0 d1 hs hb f1 f2
  have x0 := tX.c0
  have x1 := tX.c1
  have y0 := tY.c0
  have y1 := tY.c1
  have b2' := Lib.hid b2
  clear b2
  go_wp2_with fail
  refine (ref6mul _ _ _ _ _).mono ?_; rintro r w3 ⟨p, q, rfl, m, g3⟩
  have b3 : Bel w w3 := b2'.out.trans g3
  have tX := tX.by g3
  have tY := tY.by g3
  have i1 : ∀ w, ∀ z0 : Value, (∃ r s, z0 = dv r s ∧ MulR6 (wd a) (wd b) (wd c) (wd d) r s) → Calls Try.prog 11 #[z0, .float .f64 p, .float .f64 q] w fun r w' => r = .returned (.bool true) ∧ Bel w w' := by
    rintro w z0 ⟨r, s, rfl, k0⟩
    obtain ⟨h, k⟩ := k0.sm m
    exact is_any r s p q w h k
  clear g3 m x0 x1 y0 y1
  have x0 := tX.c0
  have x1 := tX.c1
  have y0 := tY.c0
  have y1 := tY.c1
  have B3 := Lib.hid b3
  clear b3
  go_wp2_with fail
  refine (hwk _).mono ?_; rintro r w4 ⟨rfl, g4⟩
  have x0 := (tX.by g4).c0
  have x1 := (tX.by g4).c1
  have y0 := (tY.by g4).c0
  have y1 := (tY.by g4).c1
  go_wp2_with fail
  refine (h1 _).mono ?_; rintro r w5 ⟨z, rfl, k0, g5⟩
  have I1 := fun w => i1 w z k0
  clear k0
  go_wp2_with fail
  refine (I1 _).mono ?_; rintro r w6 ⟨rfl, g6⟩
  have b6 := B3.out.trans ((g4.trans g5).trans g6)
  clear g4 g5 g6 tX tY hwk h1 i1 I1
  go_wp2
  go_ret
  exact ⟨rfl, b6⟩
end Go.Proofs.Ytnclnbbnkfolgaa
