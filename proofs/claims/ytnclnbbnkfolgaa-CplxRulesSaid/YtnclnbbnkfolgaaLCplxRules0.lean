/- CplxRules' walk. -/
import Derived.Test.YtnclnbbnkfolgaaRules6
import Derived.Deep.DeepCutAuto
namespace Go.Proofs.Ytnclnbbnkfolgaa
open Go.RowKit

theorem rules6 (hwk : WakesSaid6) (hA : AddSaid6) (hC : ConjSaid6) (hM : MulSaid6) (a b c d : Int) (w : World) :
    Calls Try.prog 8 #[.agg #[.int .i64 a, .int .i64 b], .agg #[.int .i64 c, .int .i64 d]] w fun e w' => e = .returned (.bool true) ∧ Bel w w' := by
  have f1 := number_any a b
  have f2 := number_any c d
  have wb : W64 (wd b) := wd_lt b
  have wv : W64 (wd d) := wd_lt d
  go_enter Try.func8, Try.ntmps8
  go_upto_region 1 with fail
  obtain ⟨w1, hw1⟩ : ∃ w1, w1 = (w.alloc (Obj.cells #[.int .i64 a, .int .i64 b] 22)).alloc (Obj.cells #[.int .i64 c, .int .i64 d] 22) := ⟨_, rfl⟩
  have hb : Bel w w1 := by rw [hw1]; exact ((Bel.refl _).alloc _).alloc _
  have c0 : w1.cell? ⟨w.heap.size, 0, none⟩ = some (.int .i64 a) := by rw [hw1]; exact (World.cell?_alloc_past _ _ _ (by simp)).trans (by rw [World.cell?_alloc_new]; rfl)
  have c1 : w1.cell? ⟨w.heap.size, 1, none⟩ = some (.int .i64 b) := by rw [hw1]; exact (World.cell?_alloc_past _ _ _ (by simp)).trans (by rw [World.cell?_alloc_new]; rfl)
  have d0 : w1.cell? ⟨w.heap.size + 1, 0, none⟩ = some (.int .i64 c) := by rw [hw1]; exact World.cell?_alloc_at _ _ _ _ (by simp)
  have d1 : w1.cell? ⟨w.heap.size + 1, 1, none⟩ = some (.int .i64 d) := by rw [hw1]; exact World.cell?_alloc_at _ _ _ _ (by simp)
  have hs : w.heap.size + 2 = w1.heap.size := by rw [hw1]; simp
  rw [← hw1]
  clear hw1
  refine pair6r_reg _ w.heap.size (w.heap.size + 1) a b c d ⟨_, rfl, rfl, rfl, rfl⟩ ⟨_, rfl, rfl, rfl, rfl⟩ ⟨_, rfl, rfl, rfl, rfl⟩ ⟨_, rfl, rfl, rfl, rfl⟩ ⟨_, rfl, rfl, rfl, rfl⟩ ⟨_, rfl, rfl, rfl, rfl⟩ ⟨_, rfl, rfl, rfl, rfl⟩ ⟨_, rfl, rfl, rfl, rfl⟩ rfl (by decide +kernel) rfl rfl rfl (fun w' h => (h.cell (p := ⟨w.heap.size, 0, none⟩) (by show w.heap.size < _; omega)).trans c0) (fun w' h => (h.cell (p := ⟨w.heap.size, 1, none⟩) (by show w.heap.size < _; omega)).trans c1) (fun w' h => (h.cell (p := ⟨w.heap.size + 1, 0, none⟩) (by show w.heap.size + 1 < _; omega)).trans d0) (fun w' h => (h.cell (p := ⟨w.heap.size + 1, 1, none⟩) (by show w.heap.size + 1 < _; omega)).trans d1) f1 f2 ?_
  intro f w2 X x y Y u v g1 gX _ tX gx gY _ tY gy _
  obtain ⟨rfl, rfl⟩ : x = wd a ∧ y = wd b := by simpa [dv] using gx
  obtain ⟨rfl, rfl⟩ : u = wd c ∧ v = wd d := by simpa [dv] using gy
  have b2 : Bel w w2 := hb.trans g1
  unfold actOf
  simp only [List.mapIdx_toArray, List.mapIdx_cons, List.mapIdx_nil, List.mem_cons, List.mem_nil_iff, Nat.reduceEqDiff, Nat.reduceAdd, or_false, or_true, if_true, if_false, gX, gY]
  clear g1 gX gx gY gy c0 c1 d0 d1 hs hb f1 f2
  have B2 := Lib.hid b2
  clear b2
  generalize wd a = x at *
  generalize wd b = y at *
  generalize wd c = u at *
  generalize wd d = v at *
  go_upto_region 2 with fail
  refine mulmul_reg _ X Y x y u v ⟨_, rfl, rfl, rfl, rfl⟩ ⟨_, rfl, rfl, rfl, rfl⟩ ⟨_, rfl, rfl, rfl, rfl⟩ ⟨_, rfl, rfl, rfl, rfl⟩ ⟨_, rfl, rfl, rfl, rfl⟩ ⟨_, rfl, rfl, rfl, rfl⟩ ⟨_, rfl, rfl, rfl, rfl⟩ ⟨_, rfl, rfl, rfl, rfl⟩ ⟨_, rfl, rfl, rfl, rfl⟩ ⟨_, rfl, rfl, rfl, rfl⟩ rfl (by decide +kernel) rfl rfl rfl tX tY (hM x y u v) (hM u v x y) ?_
  intro f3 w3 P p1 p2 R q1 q2 g3 gP _ tP mP gR _ tR mR _
  obtain ⟨_, _, e, mP⟩ := mP
  obtain ⟨rfl, rfl⟩ : _ = _ ∧ _ = _ := by simpa [dv] using e
  obtain ⟨_, _, e, mR⟩ := mR
  obtain ⟨rfl, rfl⟩ : _ = _ ∧ _ = _ := by simpa [dv] using e
  replace tX := tX.by g3
  replace tY := tY.by g3
  have B3 := Lib.hid (B2.out.trans g3)
  unfold actOf
  simp only [List.mapIdx_toArray, List.mapIdx_cons, List.mapIdx_nil, List.mem_cons, List.mem_nil_iff, Nat.reduceEqDiff, Nat.reduceAdd, or_false, or_true, if_true, if_false, gP, gR]
  clear g3 gP gR B2 e
  go_upto_region 3 with fail
  refine addadd_reg _ X Y x y u v ⟨_, rfl, rfl, rfl, rfl⟩ ⟨_, rfl, rfl, rfl, rfl⟩ ⟨_, rfl, rfl, rfl, rfl⟩ ⟨_, rfl, rfl, rfl, rfl⟩ ⟨_, rfl, rfl, rfl, rfl⟩ ⟨_, rfl, rfl, rfl, rfl⟩ ⟨_, rfl, rfl, rfl, rfl⟩ ⟨_, rfl, rfl, rfl, rfl⟩ ⟨_, rfl, rfl, rfl, rfl⟩ ⟨_, rfl, rfl, rfl, rfl⟩ rfl (by decide +kernel) rfl rfl rfl tX tY (hA x y u v) (hA u v x y) ?_
  intro f4 w4 S s1 s2 T t1 t2 g4 gS _ tS mS gT _ tT mT _
  obtain ⟨_, _, e, mS1, mS2⟩ := mS
  obtain ⟨rfl, rfl⟩ : _ = _ ∧ _ = _ := by simpa [dv] using e
  obtain ⟨_, _, e, mT1, mT2⟩ := mT
  obtain ⟨rfl, rfl⟩ : _ = _ ∧ _ = _ := by simpa [dv] using e
  replace tX := tX.by g4
  replace tY := tY.by g4
  replace tP := tP.by g4
  replace tR := tR.by g4
  have B4 := Lib.hid (B3.out.trans g4)
  have i1 := fun w => is_any s1 s2 t1 t2 w (mS1.sm arA mT1.comm_add (Sm.refl _) (Sm.refl _)) (mS2.sm arA mT2.comm_add (Sm.refl _) (Sm.refl _))
  unfold actOf
  simp only [List.mapIdx_toArray, List.mapIdx_cons, List.mapIdx_nil, List.mem_cons, List.mem_nil_iff, Nat.reduceEqDiff, Nat.reduceAdd, or_false, or_true, if_true, if_false, gS, gT]
  clear g4 gS gT B3 e mS1 mS2 mT1 mT2
  go_upto_region 4 with fail
  refine conmul_reg _ X Y x y u v ⟨_, rfl, rfl, rfl, rfl⟩ ⟨_, rfl, rfl, rfl, rfl⟩ ⟨_, rfl, rfl, rfl, rfl⟩ ⟨_, rfl, rfl, rfl, rfl⟩ ⟨_, rfl, rfl, rfl, rfl⟩ ⟨_, rfl, rfl, rfl, rfl⟩ ⟨_, rfl, rfl, rfl, rfl⟩ rfl (by decide +kernel) rfl rfl rfl tX tY (hC x y) (hC u v) (hM _ _ _ _) ?_
  intro f5 w5 U u1 u2 g5 gU _ tU mU
  obtain ⟨_, _, e, mU⟩ := mU
  obtain ⟨rfl, rfl⟩ : _ = _ ∧ _ = _ := by simpa [dv] using e
  replace tP := tP.by g5
  replace tR := tR.by g5
  replace tS := tS.by g5
  replace tT := tT.by g5
  have B5 := Lib.hid (B4.out.trans g5)
  have j1 := fun w => eq_any p1 q1 w (mP.re.swap mR.re).eq6
  have j2 := fun w => eq_any p2 q2 w (mP.im.swap mR.im).eq6
  have j3 := fun w => eq_any u1 p1 w (mP.re.conj wb wv mU.re).eq6
  have j4 := fun w => eq_any u2 (Op.negFloat .f64 p2) w (mP.im.conj wb wv mU.im)
  have rn := fun w => run_neg (P := Try.prog) p2 w
  unfold actOf
  simp only [List.mapIdx_toArray, List.mapIdx_cons, List.mapIdx_nil, List.mem_cons, List.mem_nil_iff, Nat.reduceEqDiff, Nat.reduceAdd, or_false, or_true, if_true, if_false, gU]
  clear g5 gU B4 e mP mR mU tX tY wb wv hA hC hM
  have h0 := tS.c0
  have h1 := tS.c1
  have k0 := tT.c0
  have k1 := tT.c1
  go_wp2_with fail
  refine (hwk _).mono ?_; rintro r w6 ⟨rfl, g6⟩
  replace tP := tP.by g6
  replace tR := tR.by g6
  replace tS := tS.by g6
  replace tT := tT.by g6
  replace tU := tU.by g6
  have B6 := Lib.hid (B5.out.trans g6)
  clear g6 B5 h0 h1 k0 k1
  have h0 := tS.c0
  have h1 := tS.c1
  have k0 := tT.c0
  have k1 := tT.c1
  go_wp2_with fail
  refine (i1 _).mono ?_; rintro r w7 ⟨rfl, g7⟩
  replace tP := tP.by g7
  replace tR := tR.by g7
  replace tU := tU.by g7
  have b7 := B6.out.trans g7
  clear g7 B6 h0 h1 k0 k1 tS tT i1
  have h0 := tP.c0
  have h1 := tP.c1
  have k0 := tR.c0
  have k1 := tR.c1
  have l0 := tU.c0
  have l1 := tU.c1
  clear tP tR tU
  go_wp2_with fail
  refine (j1 _).mono ?_; rintro r w8 ⟨rfl, rfl⟩
  go_wp2_with fail
  refine (j2 _).mono ?_; rintro r w9 ⟨rfl, rfl⟩
  go_wp2_with fail
  refine (j3 _).mono ?_; rintro r w10 ⟨rfl, rfl⟩
  go_wp2_with fail
  refine (j4 _).mono ?_; rintro r w11 ⟨rfl, rfl⟩
  go_wp2
  go_ret
  exact ⟨rfl, b7⟩
end Go.Proofs.Ytnclnbbnkfolgaa
