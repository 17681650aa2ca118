/- Law 6's number: two integers' bits as a complex number. -/
import Derived.Test.YtnclnbbnkfolgaaRegs6
import Derived.Test.YtnclnbbnkfolgaaTwoG
import Derived.Deep.DeepCutAuto
namespace Go.Proofs.Ytnclnbbnkfolgaa
open Go.RowKit

theorem number_any (a b : Int) (w : World) : Calls Try.prog 9 #[.agg #[.int .i64 a, .int .i64 b]] w fun r w' => r = .returned (dv (wd a) (wd b)) ∧ Bel w w' := by
  have f1 : ∀ w, Calls Try.prog 21 #[.int .i64 a] w fun r w' => r = .returned (.float .f64 (wd a)) ∧ Bel w w' := fun w => (float_any a w).mono fun _ _ ⟨h, k⟩ => ⟨h, k ▸ Bel.refl _⟩
  have f2 : ∀ w, Calls Try.prog 21 #[.int .i64 b] w fun r w' => r = .returned (.float .f64 (wd b)) ∧ Bel w w' := fun w => (float_any b w).mono fun _ _ ⟨h, k⟩ => ⟨h, k ▸ Bel.refl _⟩
  go_enter Try.func9, Try.ntmps9
  go_upto_region 1 with fail
  have hA := (Two.newN ((w.alloc (Obj.cells #[.int .i64 a, .int .i64 b] 22))) 0 0 25 (w.heap.size + 1) (by simp))
  obtain ⟨w1, hw1⟩ : ∃ w1, w1 = (w.alloc (Obj.cells #[.int .i64 a, .int .i64 b] 22)).alloc (Obj.cells #[.float .f64 0, .float .f64 0] 25) := ⟨_, rfl⟩
  have hb : Bel w w1 := by rw [hw1]; exact ((Bel.refl _).alloc _).alloc _
  have c0 : w1.cell? ⟨w.heap.size, 0, none⟩ = some (.int .i64 a) := by rw [hw1]; exact (World.cell?_alloc_past _ _ _ (by simp)).trans (by rw [World.cell?_alloc_new]; rfl)
  have c1 : w1.cell? ⟨w.heap.size, 1, none⟩ = some (.int .i64 b) := by rw [hw1]; exact (World.cell?_alloc_past _ _ _ (by simp)).trans (by rw [World.cell?_alloc_new]; rfl)
  have hs : w.heap.size + 2 = w1.heap.size := by rw [hw1]; simp
  rw [← hw1] at hA ⊢
  clear hw1
  refine number_reg _ w.heap.size (w.heap.size + 1) a b ⟨_, rfl, rfl, rfl, rfl⟩ ⟨_, rfl, rfl, rfl, rfl⟩ ⟨_, rfl, rfl, rfl, rfl⟩ ⟨_, rfl, rfl, rfl, rfl⟩ ⟨_, rfl, rfl, rfl, rfl⟩ ⟨_, rfl, rfl, rfl, rfl⟩ ⟨_, rfl, rfl, rfl, rfl⟩ ⟨_, rfl, rfl, rfl, rfl⟩ rfl (by decide +kernel) rfl rfl rfl hA (fun w' h => (h.cell (p := ⟨w.heap.size, 0, none⟩) (by show w.heap.size < _; omega)).trans c0) (fun w' h => (h.cell (p := ⟨w.heap.size, 1, none⟩) (by show w.heap.size < _; omega)).trans c1) f1 f2 ?_
  intro f w2 u v g1 g2 g3
  obtain ⟨rfl, rfl⟩ : u = wd a ∧ v = wd b := by simpa [dv] using g3
  have hB := hA.by g1
  have b0 : Bel w w2 := hb.trans g1
  obtain ⟨C, hC⟩ : ∃ C, C = w.heap.size + 1 := ⟨_, rfl⟩
  have hc : w.heap.size ≤ C := by omega
  obtain ⟨w3, hw3⟩ : ∃ w3, w3 = (w2.setCell ⟨C, 0, none⟩ (.float .f64 (wd a))).setCell ⟨C, 1, none⟩ (.float .f64 (wd b)) := ⟨_, rfl⟩
  rw [← hC] at hB ⊢
  have b3 : Bel w w3 := by rw [hw3]; exact (b0.setCell hc _).setCell hc _
  have t3 : Two w3 C (wd a) (wd b) := by rw [hw3]; exact hB.set _ _
  rw [← hw3]
  clear hw3
  unfold actOf
  simp only [List.mapIdx_toArray, List.mapIdx_cons, List.mapIdx_nil, List.mem_cons, List.mem_nil_iff, Nat.reduceEqDiff, Nat.reduceAdd, or_false, or_true, if_true, if_false]
  have k0 := t3.c0
  have k1 := t3.c1
  clear t3 g1 g2 g3 hB hA c0 c1 f1 f2
  go_wp2
  refine bodyPost_ret (by simp [results, go_sem, k0, k1]; try rfl) rfl ?_
  exact ⟨rfl, b3⟩
end Go.Proofs.Ytnclnbbnkfolgaa
