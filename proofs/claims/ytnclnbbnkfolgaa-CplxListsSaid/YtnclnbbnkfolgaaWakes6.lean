/- Law 6's wakes. -/
import Derived.Test.YtnclnbbnkfolgaaRow6
import Derived.Test.YtnclnbbnkfolgaaWakeR6
import Derived.Deep.DeepCutAuto
namespace Go.Proofs.Ytnclnbbnkfolgaa
open Go.RowKit

theorem FR.det {op : BinOp} {x y r k : Nat} (h : FR op x y r) (e : floatBits op .f64 x y = some k) : r = k := by
  rcases h with h | ⟨h, _⟩
  · rw [e] at h; exact (Option.some.inj h).symm
  · rw [e] at h; cases h
theorem mul_five {r s : Nat} (h : MulR6 4607182418800017408 4611686018427387904 4613937818241073152 4616189618054758400 r s) : r = 13840687554816376832 ∧ s = 4621819117588971520 := by
  obtain ⟨p, q, e, f, h1, h2, h3, h4, h5, h6⟩ := h
  obtain rfl := h1.det (k := 4613937818241073152) (by decide +kernel)
  obtain rfl := h2.det (k := 4620693217682128896) (by decide +kernel)
  obtain rfl := h4.det (k := 4616189618054758400) (by decide +kernel)
  obtain rfl := h5.det (k := 4618441417868443648) (by decide +kernel)
  exact ⟨h3.det (by decide +kernel), h6.det (by decide +kernel)⟩
theorem wakes6 (hM : MulSaid6) (hT : TurnSaid6) (hP : PairsSaid6) (hG : GuardSaid6) (w : World) : Calls Try.prog 10 #[] w fun e w' => e = .returned (.bool true) ∧ Bel w w' := by
  have sf := run_store_float Try.prog
  have H1 : ∀ w, Calls Try.prog 16 #[dv 4607182418800017408 4611686018427387904, dv 4613937818241073152 4616189618054758400] w fun r w' => r = .returned (dv 13840687554816376832 4621819117588971520) ∧ Bel w w' := by
    intro w
    refine (hM _ _ _ _ w).mono ?_
    rintro _ w' ⟨z, rfl, ⟨r, s, rfl, h⟩, g⟩
    obtain ⟨rfl, rfl⟩ := mul_five h
    exact ⟨rfl, g⟩
  have H2 : ∀ w, Calls Try.prog 18 #[dv 4607182418800017408 4611686018427387904, .int .i64 1] w fun r w' => r = .returned (dv 13835058055282163712 4607182418800017408) ∧ Bel w w' := by
    intro w
    have e : rot6 4607182418800017408 4611686018427387904 (quart6 1) = (13835058055282163712, 4607182418800017408) := by decide +kernel
    have h := hT 4607182418800017408 4611686018427387904 1 w (by unfold W64; decide) (by unfold W64; decide) (by decide)
    rw [e] at h
    exact h
  clear hM hT
  go_enter Try.func10, Try.ntmps10
  go_wp2_with fail
  obtain ⟨w1, hw1⟩ : ∃ w1, w1 = (((w.alloc (Obj.cells #[.float .f64 4607182418800017408, .float .f64 4611686018427387904] 25)).alloc (Obj.cells #[.float .f64 4607182418800017408] 23)).alloc (Obj.cells #[.float .f64 4611686018427387904] 23)) := ⟨_, rfl⟩
  have tA : Two w1 w.heap.size 4607182418800017408 4611686018427387904 := by rw [hw1]; exact ((Two.newN _ _ _ _ _ rfl).al _).al _
  have b1 : Bel w w1 := by rw [hw1]; exact (((Bel.refl _).alloc _).alloc _).alloc _
  have s1 : w1.heap.size = w.heap.size + 3 := by rw [hw1]; simp
  have r1 : FRow6 w1 (.slice (some ⟨w.heap.size + 1, 0, none⟩) 1 1) [4607182418800017408] w.heap.size := by
    rw [hw1]; exact (FRow6.newOne _ _ _ _ _ (by simp) (by omega)).bel ((Bel.refl _).alloc _)
  have r2 : FRow6 w1 (.slice (some ⟨w.heap.size + 1 + 1, 0, none⟩) 1 1) [4611686018427387904] w.heap.size := by
    rw [hw1]; exact FRow6.newOne _ _ _ _ _ (by simp) (by omega)
  rw [← hw1]
  refine (hP _ _ _ _ _ _ r1 r2 rfl (by decide)).mono ?_; rintro r w2 ⟨z, rfl, hz, g2⟩
  obtain ⟨g, cap, rfl, hg, hc, tL⟩ := CRow6.one hz
  go_wp2_with fail
  have k1 : CRow6 _ _ _ w2.heap.size := CRow6.newOne w2 8664925683060834304 0 25 w2.heap.size w2.heap.size rfl (Nat.le_refl _)
  obtain ⟨w3, hw3⟩ : ∃ w3, w3 = w2.alloc (Obj.cells #[.float .f64 8664925683060834304, .float .f64 0] 25) := ⟨_, rfl⟩
  rw [← hw3] at k1 ⊢
  have G := hG _ _ _ w3 k1 (by intro c hc; obtain rfl := List.mem_singleton.1 hc; unfold W64; decide)
  have e1 : gAt6 [(8664925683060834304, 0)] = 0 := by decide
  have e2 : gErr6 [(8664925683060834304, 0)] = 5 := by decide
  rw [e1, e2] at G
  have g3 : Bel w2 w3 := by rw [hw3]; exact (Bel.refl _).alloc _
  refine G.mono ?_; rintro r w4 ⟨rfl, g4⟩
  replace tA := ((tA.by g2).by g3).by g4
  replace tL := (tL.by g3).by g4
  have b4 : Bel w w4 := ((b1.trans g2).trans g3).trans g4
  obtain ⟨A, hA⟩ : ∃ A, A = w.heap.size := ⟨_, rfl⟩
  rw [← hA] at tA ⊢
  clear g2 g3 g4 b1 s1 r1 r2 hz hw1 hw3 k1 G e1 e2 hP hG hA hg
  go_upto_region 4 with fail
  refine wake_reg _ A g cap ⟨_, rfl, rfl, rfl, rfl⟩ ⟨_, rfl, rfl, rfl, rfl⟩ ⟨_, rfl, rfl, rfl, rfl⟩ ⟨_, rfl, rfl, rfl, rfl⟩ ⟨_, rfl, rfl, rfl, rfl⟩ ⟨_, rfl, rfl, rfl, rfl⟩ ⟨_, rfl, rfl, rfl, rfl⟩ ⟨_, rfl, rfl, rfl, rfl⟩ ⟨_, rfl, rfl, rfl, rfl⟩ ⟨_, rfl, rfl, rfl, rfl⟩ ⟨_, rfl, rfl, rfl, rfl⟩ ⟨_, rfl, rfl, rfl, rfl⟩ ⟨_, rfl, rfl, rfl, rfl⟩ ⟨_, rfl, rfl, rfl, rfl⟩ ⟨_, rfl, rfl, rfl, rfl⟩ ⟨_, rfl, rfl, rfl, rfl⟩ ⟨_, rfl, rfl, rfl, rfl⟩ ⟨_, rfl, rfl, rfl, rfl⟩ ⟨_, rfl, rfl, rfl, rfl⟩ ⟨_, rfl, rfl, rfl, rfl⟩ ⟨_, rfl, rfl, rfl, rfl⟩ ⟨_, rfl, rfl, rfl, rfl⟩ ⟨_, rfl, rfl, rfl, rfl⟩ ⟨_, rfl, rfl, rfl, rfl⟩ ⟨_, rfl, rfl, rfl, rfl⟩ ⟨_, rfl, rfl, rfl, rfl⟩ ⟨_, rfl, rfl, rfl, rfl⟩ ⟨_, rfl, rfl, rfl, rfl⟩ ⟨_, rfl, rfl, rfl, rfl⟩ ⟨_, rfl, rfl, rfl, rfl⟩ ⟨_, rfl, rfl, rfl, rfl⟩ ⟨_, rfl, rfl, rfl, rfl⟩ rfl (by decide +kernel) rfl rfl rfl rfl rfl tA tL H1 H2 ?_
  intro f w5 g5 g6
  have b5 : Bel w w5 := b4.trans g5
  unfold actOf
  simp only [List.mapIdx_toArray, List.mapIdx_cons, List.mapIdx_nil, List.mem_cons, List.mem_nil_iff, Nat.reduceEqDiff, Nat.reduceAdd, or_false, or_true, if_true, if_false, g6]
  clear g5 g6 tA tL H1 H2 b4
  go_wp2
  go_ret
  exact ⟨rfl, b5⟩
end Go.Proofs.Ytnclnbbnkfolgaa
