/- CplxSums' walk. -/
import Derived.Test.YtnclnbbnkfolgaaSaid6
import Derived.Deep.DeepCutAuto
namespace Go.Proofs.Ytnclnbbnkfolgaa
open Go.RowKit

theorem sums6 (hwk : WakesSaid6) (hA : AddSaid6) (hS : SubSaid6) (hC : ConjSaid6) (a b c d : Int) (w : World) :
    Calls Try.prog 3 #[.agg #[.int .i64 a, .int .i64 b], .agg #[.int .i64 c, .int .i64 d]] w fun e w' => e = .returned (.bool true) ∧ Bel w w' := by
  have f1 := number_any a b
  have f2 := number_any c d
  have h1 := hA (wd a) (wd b) (wd c) (wd d)
  have h2 := hS (wd a) (wd b) (wd c) (wd d)
  have h3 := hC (wd a) (wd b)
  have i1 := fun w => is_rel (ψ := fun r => FR .add (wd a) (wd c) r) (χ := fun r => FR .add (wd b) (wd d) r) (Φ := fun r s => FR .add (wd a) (wd c) r ∧ FR .add (wd b) (wd d) s) (fun r s p q k0 k1 k2 => ⟨k0.1.sm arA k1 (Sm.refl _) (Sm.refl _), k0.2.sm arA k2 (Sm.refl _) (Sm.refl _)⟩) w
  have i2 := fun w => is_rel (ψ := fun r => FR .sub (wd a) (wd c) r) (χ := fun r => FR .sub (wd b) (wd d) r) (Φ := fun r s => FR .sub (wd a) (wd c) r ∧ FR .sub (wd b) (wd d) s) (fun r s p q k0 k1 k2 => ⟨k0.1.sm arS k1 (Sm.refl _) (Sm.refl _), k0.2.sm arS k2 (Sm.refl _) (Sm.refl _)⟩) w
  have i3 := fun w => is_any (wd a) (Op.negFloat .f64 (wd b)) (wd a) (Op.negFloat .f64 (wd b)) w (Sm.refl _) (Sm.refl _)
  clear hA hS hC
  go_enter Try.func3, Try.ntmps3
  go_upto_region 1 with fail
  obtain ⟨w1, hw1⟩ : ∃ w1, w1 = (w.alloc (Obj.cells #[.int .i64 a, .int .i64 b] 22)).alloc (Obj.cells #[.int .i64 c, .int .i64 d] 22) := ⟨_, rfl⟩
  have hb : Bel w w1 := by rw [hw1]; exact ((Bel.refl _).alloc _).alloc _
  have c0 : w1.cell? ⟨w.heap.size, 0, none⟩ = some (.int .i64 a) := by rw [hw1]; exact (World.cell?_alloc_past _ _ _ (by simp)).trans (by rw [World.cell?_alloc_new]; rfl)
  have c1 : w1.cell? ⟨w.heap.size, 1, none⟩ = some (.int .i64 b) := by rw [hw1]; exact (World.cell?_alloc_past _ _ _ (by simp)).trans (by rw [World.cell?_alloc_new]; rfl)
  have d0 : w1.cell? ⟨w.heap.size + 1, 0, none⟩ = some (.int .i64 c) := by rw [hw1]; exact World.cell?_alloc_at _ _ _ _ (by simp)
  have d1 : w1.cell? ⟨w.heap.size + 1, 1, none⟩ = some (.int .i64 d) := by rw [hw1]; exact World.cell?_alloc_at _ _ _ _ (by simp)
  have hs : w.heap.size + 2 = w1.heap.size := by rw [hw1]; simp
  rw [← hw1]
  clear hw1
  refine pair6_reg _ w.heap.size (w.heap.size + 1) a b c d ⟨_, rfl, rfl, rfl, rfl⟩ ⟨_, rfl, rfl, rfl, rfl⟩ ⟨_, rfl, rfl, rfl, rfl⟩ ⟨_, rfl, rfl, rfl, rfl⟩ ⟨_, rfl, rfl, rfl, rfl⟩ ⟨_, rfl, rfl, rfl, rfl⟩ ⟨_, rfl, rfl, rfl, rfl⟩ ⟨_, rfl, rfl, rfl, rfl⟩ rfl (by decide +kernel) rfl rfl rfl (fun w' h => (h.cell (p := ⟨w.heap.size, 0, none⟩) (by show w.heap.size < _; omega)).trans c0) (fun w' h => (h.cell (p := ⟨w.heap.size, 1, none⟩) (by show w.heap.size < _; omega)).trans c1) (fun w' h => (h.cell (p := ⟨w.heap.size + 1, 0, none⟩) (by show w.heap.size + 1 < _; omega)).trans d0) (fun w' h => (h.cell (p := ⟨w.heap.size + 1, 1, none⟩) (by show w.heap.size + 1 < _; omega)).trans d1) f1 f2 ?_
  intro f w2 X x y Y u v g1 gX _ tX gx gY _ tY gy _
  obtain ⟨rfl, rfl⟩ : x = wd a ∧ y = wd b := by simpa [dv] using gx
  obtain ⟨rfl, rfl⟩ : u = wd c ∧ v = wd d := by simpa [dv] using gy
  have b2 : Bel w w2 := hb.trans g1
  unfold actOf
  simp only [List.mapIdx_toArray, List.mapIdx_cons, List.mapIdx_nil, List.mem_cons, List.mem_nil_iff, Nat.reduceEqDiff, Nat.reduceAdd, or_false, or_true, if_true, if_false, gX, gY]
  clear g1 gX gx gY gy c0 c1 d0 d1 hs hb f1 f2
  go_upto_region 2 with fail
  refine sums_reg _ X Y (wd a) (wd b) (wd c) (wd d) ⟨_, rfl, rfl, rfl, rfl⟩ ⟨_, rfl, rfl, rfl, rfl⟩ ⟨_, rfl, rfl, rfl, rfl⟩ ⟨_, rfl, rfl, rfl, rfl⟩ ⟨_, rfl, rfl, rfl, rfl⟩ ⟨_, rfl, rfl, rfl, rfl⟩ ⟨_, rfl, rfl, rfl, rfl⟩ ⟨_, rfl, rfl, rfl, rfl⟩ ⟨_, rfl, rfl, rfl, rfl⟩ ⟨_, rfl, rfl, rfl, rfl⟩ ⟨_, rfl, rfl, rfl, rfl⟩ ⟨_, rfl, rfl, rfl, rfl⟩ ⟨_, rfl, rfl, rfl, rfl⟩ ⟨_, rfl, rfl, rfl, rfl⟩ ⟨_, rfl, rfl, rfl, rfl⟩ ⟨_, rfl, rfl, rfl, rfl⟩ ⟨_, rfl, rfl, rfl, rfl⟩ ⟨_, rfl, rfl, rfl, rfl⟩ ⟨_, rfl, rfl, rfl, rfl⟩ ⟨_, rfl, rfl, rfl, rfl⟩ ⟨_, rfl, rfl, rfl, rfl⟩ ⟨_, rfl, rfl, rfl, rfl⟩ ⟨_, rfl, rfl, rfl, rfl⟩ ⟨_, rfl, rfl, rfl, rfl⟩ ⟨_, rfl, rfl, rfl, rfl⟩ ⟨_, rfl, rfl, rfl, rfl⟩ ⟨_, rfl, rfl, rfl, rfl⟩ ⟨_, rfl, rfl, rfl, rfl⟩ ⟨_, rfl, rfl, rfl, rfl⟩ ⟨_, rfl, rfl, rfl, rfl⟩ ⟨_, rfl, rfl, rfl, rfl⟩ ⟨_, rfl, rfl, rfl, rfl⟩ ⟨_, rfl, rfl, rfl, rfl⟩ ⟨_, rfl, rfl, rfl, rfl⟩ ⟨_, rfl, rfl, rfl, rfl⟩ ⟨_, rfl, rfl, rfl, rfl⟩ ⟨_, rfl, rfl, rfl, rfl⟩ ⟨_, rfl, rfl, rfl, rfl⟩ ⟨_, rfl, rfl, rfl, rfl⟩ ⟨_, rfl, rfl, rfl, rfl⟩ ⟨_, rfl, rfl, rfl, rfl⟩ ⟨_, rfl, rfl, rfl, rfl⟩ ⟨_, rfl, rfl, rfl, rfl⟩ ⟨_, rfl, rfl, rfl, rfl⟩ rfl (by decide +kernel) rfl rfl rfl tX tY hwk h1 i1 h2 i2 h3 i3 ?_
  intro f' w3 g3 g4
  have b3 : Bel w w3 := b2.trans g3
  unfold actOf
  simp only [List.mapIdx_toArray, List.mapIdx_cons, List.mapIdx_nil, List.mem_cons, List.mem_nil_iff, Nat.reduceEqDiff, Nat.reduceAdd, or_false, or_true, if_true, if_false, g4]
  clear g3 g4 tX tY h1 i1 h2 i2 h3 i3 hwk b2
  go_wp2
  go_ret
  exact ⟨rfl, b3⟩
end Go.Proofs.Ytnclnbbnkfolgaa
