/- Merged texts: Turn5, Turn, Fine5, Said5, ExactS, TurnS, Wakes5, LTrigOctants0, Keep, EqDD, LTrigExact0, LTrigTurns0. -/
import Derived.Test.YtpifkjmdcbieoaaM4
import Derived.Test.YtpifkjmdcbieoaaM5
import Derived.Test.YtpifkjmdcbieoaaM2
import Derived.Test.YtpifkjmdcbieoaaM1
import Derived.Test.YtpifkjmdcbieoaaM9
import Derived.Carry
import Derived.ChangeSlices
import Derived.ProofKit
import Derived.Test.YtpifkjmdcbieoaaM3
import Derived.Laws.StructEq
import Derived.Test.YtpifkjmdcbieoaaM6
/- The reference's Turn (layer 5). -/
namespace Go.Proofs.Ytpifkjmdcbieoaa
open Go.RowKit

set_option maxHeartbeats 8000000 in
theorem turn_any (k n : Int) (w : World) (hn : 1 ≤ n ∧ n ≤ 536870912) :
    Calls Try.prog 15 #[.int .i64 k, .int .i64 n] w fun q w' => q = .returned (.tuple #[V5 (fixD (turnC (octO k n) (turnX k n))), .int .i64 (turnA (octO k n)), V5 (fixD (turnS (octO k n) (turnX k n))), .int .i64 (turnB (octO k n))]) ∧ Bel w w' := by
  have O := fun w => roct_any k n w (by omega)
  obtain ⟨r0, r1⟩ := octR_range (k := k) (n := n) (by omega)
  have hr : octR k n = ((octR k n).toNat : Int) := by omega
  have hn' : n = (n.toNat : Int) := by omega
  have N := fun w => near_any (octR k n).toNat n.toNat w (by omega) (by omega) (by omega)
  rw [← hr, ← hn'] at N
  rw [show eighthN * (octR k n).toNat / n.toNat = turnX k n from rfl] at N
  obtain ⟨o, ho⟩ : ∃ o, o = octO k n := ⟨_, rfl⟩
  obtain ⟨X, hX⟩ : ∃ X, X = turnX k n := ⟨_, rfl⟩
  obtain ⟨ρ, hρ⟩ : ∃ ρ, ρ = octR k n := ⟨_, rfl⟩
  obtain ⟨o0, o1⟩ := octO_range (k := k) (n := n) (by omega)
  rw [← ho] at o0 o1 O ⊢
  rw [← hX] at N ⊢
  rw [← hρ] at N O
  have hcases : o = 0 ∨ o = 1 ∨ o = 2 ∨ o = 3 ∨ o = 4 ∨ o = 5 ∨ o = 6 ∨ o = 7 := by omega
  have hcH := Lib.hid hcases
  unfold V5 at N
  obtain ⟨A, hA⟩ : ∃ A, A = w.heap.size := ⟨_, rfl⟩
  obtain ⟨w0, hw0⟩ : ∃ w0, w0 = (w.alloc (.cells #[.int .i64 0, .int .i64 0, .int .i64 0, .int .i64 0, .int .i64 0] 37)).alloc (.cells #[.int .i64 0, .int .i64 0, .int .i64 0, .int .i64 0, .int .i64 0] 37) := ⟨_, rfl⟩
  have ta : CellsAt 5 w0 A (fun _ => 0) := by rw [hw0]; exact (five_zero w _ A hA).bel ((Bel.refl _).alloc _) (by simp [hA])
  have tb : CellsAt 5 w0 (A + 1) (fun _ => 0) := by rw [hw0]; exact five_zero _ _ (A + 1) (by simp [hA])
  have hB0 : Bel w w0 := by rw [hw0]; exact ((Bel.refl w).alloc _).alloc _
  have hAw := Lib.hid (show w.heap.size ≤ A ∧ w.heap.size ≤ A + 1 by omega)
  have la := ta.lt (by decide)
  have lb := tb.lt (by decide)
  clear ho hX hρ hr hn' r0 r1 hn o0 o1 hcases
  go_enter Try.func15, Try.ntmps15
  go_wp2_with fail
  refine (O _).mono ?_; rintro q w1 ⟨rfl, rfl⟩
  go_wp2_with fail
  rw [← hw0]
  refine (N _).mono ?_; rintro q w2 ⟨rfl, hB2⟩
  obtain ⟨C, hC⟩ : ∃ C, C = w2.heap.size := ⟨_, rfl⟩
  have tC := (five_new w2 (fixD (cosN X)) 37 C hC).bel ((Bel.refl _).alloc (.cells #[.int .i64 (fixD (sinN X) 0), .int .i64 (fixD (sinN X) 1), .int .i64 (fixD (sinN X) 2), .int .i64 (fixD (sinN X) 3), .int .i64 (fixD (sinN X) 4)] 37)) (by simp [hC])
  have tG := five_new (w2.alloc (.cells #[.int .i64 (fixD (cosN X) 0), .int .i64 (fixD (cosN X) 1), .int .i64 (fixD (cosN X) 2), .int .i64 (fixD (cosN X) 3), .int .i64 (fixD (cosN X) 4)] 37)) (fixD (sinN X)) 37 (C + 1) (by simp [hC])
  have hB4 := (hB2.alloc (.cells #[.int .i64 (fixD (cosN X) 0), .int .i64 (fixD (cosN X) 1), .int .i64 (fixD (cosN X) 2), .int .i64 (fixD (cosN X) 3), .int .i64 (fixD (cosN X) 4)] 37)).alloc (.cells #[.int .i64 (fixD (sinN X) 0), .int .i64 (fixD (sinN X) 1), .int .i64 (fixD (sinN X) 2), .int .i64 (fixD (sinN X) 3), .int .i64 (fixD (sinN X) 4)] 37)
  have hAC : A + 1 < C := by have := hB2.size; omega
  have hsz : w0.heap.size ≤ C := by have := hB2.size; omega
  go_upto_region 3 with fail
  rw [← hC, ← hA]
  generalize (w2.alloc (.cells #[.int .i64 (fixD (cosN X) 0), .int .i64 (fixD (cosN X) 1), .int .i64 (fixD (cosN X) 2), .int .i64 (fixD (cosN X) 3), .int .i64 (fixD (cosN X) 4)] 37)).alloc (.cells #[.int .i64 (fixD (sinN X) 0), .int .i64 (fixD (sinN X) 1), .int .i64 (fixD (sinN X) 2), .int .i64 (fixD (sinN X) 3), .int .i64 (fixD (sinN X) 4)] 37) = w4 at tC tG hB4 ⊢
  have ta4 := ta.bel hB4 la
  have tb4 := tb.bel hB4 lb
  have hB := hB0.trans hB4
  have hCw : w.heap.size ≤ C := Nat.le_trans hB0.size hsz
  clear hA hC hB2 hw0 O N ta tb la lb hB0 hB4
  rcases hcH.out with rfl | rfl | rfl | rfl | rfl | rfl | rfl | rfl
  · -- octant 0
    go_upto_region 11 with fail
    refine quad_out (w := w4) _ A (A + 1) C (C + 1) (fixD (cosN X)) (fixD (sinN X)) (.int .i64 (1)) (.int .i64 (1)) (by omega) ta4 tb4 tC tG ⟨_, _, _, _, _, _, _, _, _, _, _, _, _, _, _, _, _, _, _, _, _, _, _, _, rfl⟩ (by decide +kernel) rfl rfl rfl rfl rfl rfl rfl ?_
    intro f f5 f7
    have tA' := CellsAt.so5 (ta4.dr.set (fixD (cosN X))) (X := A + 1) (by omega) (fixD (sinN X))
    have tB' := (CellsAt.so5 tb4.dr (X := A) (by omega) (fixD (cosN X))).set (fixD (sinN X))
    have hBz := (hB.drew.set5 hAw.out.1 (fixD (cosN X))).set5 hAw.out.2 (fixD (sinN X))
    obtain ⟨a0, _⟩ := tA' 0 (by decide)
    obtain ⟨a1, _⟩ := tA' 1 (by decide)
    obtain ⟨a2, _⟩ := tA' 2 (by decide)
    obtain ⟨a3, _⟩ := tA' 3 (by decide)
    obtain ⟨a4, _⟩ := tA' 4 (by decide)
    obtain ⟨b0, _⟩ := tB' 0 (by decide)
    obtain ⟨b1, _⟩ := tB' 1 (by decide)
    obtain ⟨b2, _⟩ := tB' 2 (by decide)
    obtain ⟨b3, _⟩ := tB' 3 (by decide)
    obtain ⟨b4, _⟩ := tB' 4 (by decide)
    generalize set5 (set5 (World.drew w4) A (fixD (cosN X))) (A + 1) (fixD (sinN X)) = wz at a0 a1 a2 a3 a4 b0 b1 b2 b3 b4 hBz ⊢
    clear tA' tB'
    unfold actOf quadDs
    simp only [List.mapIdx_toArray, List.mapIdx_cons, List.mapIdx_nil, List.mem_cons, List.mem_nil_iff, Nat.reduceEqDiff, Nat.reduceAdd, or_false, or_true, if_true, if_false, f5, f7]
    go_wp2
    refine bodyPost_ret (by simp [results, go_sem, a0, a1, a2, a3, a4, b0, b1, b2, b3, b4]; try rfl) rfl ?_
    exact ⟨rfl, hBz⟩
  · -- octant 1
    obtain ⟨c0, _⟩ := tC 0 (by decide)
    obtain ⟨c1, _⟩ := tC 1 (by decide)
    obtain ⟨c2, _⟩ := tC 2 (by decide)
    obtain ⟨c3, _⟩ := tC 3 (by decide)
    obtain ⟨c4, _⟩ := tC 4 (by decide)
    obtain ⟨d0, _⟩ := tG 0 (by decide)
    obtain ⟨d1, _⟩ := tG 1 (by decide)
    obtain ⟨d2, _⟩ := tG 2 (by decide)
    obtain ⟨d3, _⟩ := tG 3 (by decide)
    obtain ⟨d4, _⟩ := tG 4 (by decide)
    obtain ⟨⟨x0, y0⟩, z0, ⟨x1, y1⟩, z1, ⟨x2, y2⟩, z2, ⟨x3, y3⟩, z3, ⟨x4, y4⟩, z4⟩ := tC.mid (fixD (sinN X))
    have tG1 := tG.so5 (X := C) (by omega) (fixD (sinN X))
    obtain ⟨⟨x5, y5⟩, z5, ⟨x6, y6⟩, z6, ⟨x7, y7⟩, z7, ⟨x8, y8⟩, z8, ⟨x9, y9⟩, z9⟩ := tG1.mid (fixD (cosN X))
    have tC5 := (tC.set (fixD (sinN X))).so5 (X := C + 1) (by omega) (fixD (cosN X))
    have tG5 := tG1.set (fixD (cosN X))
    have ta5 := (ta4.so5 (X := C) (by omega) (fixD (sinN X))).so5 (X := C + 1) (by omega) (fixD (cosN X))
    have tb5 := (tb4.so5 (X := C) (by omega) (fixD (sinN X))).so5 (X := C + 1) (by omega) (fixD (cosN X))
    have hB5 := (hB.set5 hCw (fixD (sinN X))).set5 (Nat.le_succ_of_le hCw) (fixD (cosN X))
    unfold set5 at y5 z5 y6 z6 y7 z7 y8 z8 y9 z9
    go_upto_region 11 with fail
    clear c0 c1 c2 c3 c4 d0 d1 d2 d3 d4 y0 z0 y1 z1 y2 z2 y3 z3 y4 z4 y5 z5 y6 z6 y7 z7 y8 z8 y9 z9
    refine quad_out (w := (set5 (set5 w4 C (fixD (sinN X))) (C + 1) (fixD (cosN X)))) _ A (A + 1) C (C + 1) (fixD (sinN X)) (fixD (cosN X)) (.int .i64 (1)) (.int .i64 (1)) (by omega) ta5 tb5 tC5 tG5 ⟨_, _, _, _, _, _, _, _, _, _, _, _, _, _, _, _, _, _, _, _, _, _, _, _, rfl⟩ (by decide +kernel) rfl rfl rfl rfl rfl rfl rfl ?_
    intro f f5 f7
    have tA' := CellsAt.so5 (ta5.dr.set (fixD (sinN X))) (X := A + 1) (by omega) (fixD (cosN X))
    have tB' := (CellsAt.so5 tb5.dr (X := A) (by omega) (fixD (sinN X))).set (fixD (cosN X))
    have hBz := (hB5.drew.set5 hAw.out.1 (fixD (sinN X))).set5 hAw.out.2 (fixD (cosN X))
    obtain ⟨a0, _⟩ := tA' 0 (by decide)
    obtain ⟨a1, _⟩ := tA' 1 (by decide)
    obtain ⟨a2, _⟩ := tA' 2 (by decide)
    obtain ⟨a3, _⟩ := tA' 3 (by decide)
    obtain ⟨a4, _⟩ := tA' 4 (by decide)
    obtain ⟨b0, _⟩ := tB' 0 (by decide)
    obtain ⟨b1, _⟩ := tB' 1 (by decide)
    obtain ⟨b2, _⟩ := tB' 2 (by decide)
    obtain ⟨b3, _⟩ := tB' 3 (by decide)
    obtain ⟨b4, _⟩ := tB' 4 (by decide)
    generalize set5 (set5 (World.drew (set5 (set5 w4 C (fixD (sinN X))) (C + 1) (fixD (cosN X)))) A (fixD (sinN X))) (A + 1) (fixD (cosN X)) = wz at a0 a1 a2 a3 a4 b0 b1 b2 b3 b4 hBz ⊢
    clear tA' tB'
    unfold actOf quadDs
    simp only [List.mapIdx_toArray, List.mapIdx_cons, List.mapIdx_nil, List.mem_cons, List.mem_nil_iff, Nat.reduceEqDiff, Nat.reduceAdd, or_false, or_true, if_true, if_false, f5, f7]
    go_wp2
    refine bodyPost_ret (by simp [results, go_sem, a0, a1, a2, a3, a4, b0, b1, b2, b3, b4]; try rfl) rfl ?_
    exact ⟨rfl, hBz⟩
  · -- octant 2
    obtain ⟨c0, _⟩ := tC 0 (by decide)
    obtain ⟨c1, _⟩ := tC 1 (by decide)
    obtain ⟨c2, _⟩ := tC 2 (by decide)
    obtain ⟨c3, _⟩ := tC 3 (by decide)
    obtain ⟨c4, _⟩ := tC 4 (by decide)
    obtain ⟨d0, _⟩ := tG 0 (by decide)
    obtain ⟨d1, _⟩ := tG 1 (by decide)
    obtain ⟨d2, _⟩ := tG 2 (by decide)
    obtain ⟨d3, _⟩ := tG 3 (by decide)
    obtain ⟨d4, _⟩ := tG 4 (by decide)
    obtain ⟨⟨x0, y0⟩, z0, ⟨x1, y1⟩, z1, ⟨x2, y2⟩, z2, ⟨x3, y3⟩, z3, ⟨x4, y4⟩, z4⟩ := tC.mid (fixD (sinN X))
    have tG1 := tG.so5 (X := C) (by omega) (fixD (sinN X))
    obtain ⟨⟨x5, y5⟩, z5, ⟨x6, y6⟩, z6, ⟨x7, y7⟩, z7, ⟨x8, y8⟩, z8, ⟨x9, y9⟩, z9⟩ := tG1.mid (fixD (cosN X))
    have tC5 := (tC.set (fixD (sinN X))).so5 (X := C + 1) (by omega) (fixD (cosN X))
    have tG5 := tG1.set (fixD (cosN X))
    have ta5 := (ta4.so5 (X := C) (by omega) (fixD (sinN X))).so5 (X := C + 1) (by omega) (fixD (cosN X))
    have tb5 := (tb4.so5 (X := C) (by omega) (fixD (sinN X))).so5 (X := C + 1) (by omega) (fixD (cosN X))
    have hB5 := (hB.set5 hCw (fixD (sinN X))).set5 (Nat.le_succ_of_le hCw) (fixD (cosN X))
    unfold set5 at y5 z5 y6 z6 y7 z7 y8 z8 y9 z9
    go_upto_region 11 with fail
    clear c0 c1 c2 c3 c4 d0 d1 d2 d3 d4 y0 z0 y1 z1 y2 z2 y3 z3 y4 z4 y5 z5 y6 z6 y7 z7 y8 z8 y9 z9
    refine quad_out (w := (set5 (set5 w4 C (fixD (sinN X))) (C + 1) (fixD (cosN X)))) _ A (A + 1) C (C + 1) (fixD (sinN X)) (fixD (cosN X)) (.int .i64 (-1)) (.int .i64 (1)) (by omega) ta5 tb5 tC5 tG5 ⟨_, _, _, _, _, _, _, _, _, _, _, _, _, _, _, _, _, _, _, _, _, _, _, _, rfl⟩ (by decide +kernel) rfl rfl rfl rfl rfl rfl rfl ?_
    intro f f5 f7
    have tA' := CellsAt.so5 (ta5.dr.set (fixD (sinN X))) (X := A + 1) (by omega) (fixD (cosN X))
    have tB' := (CellsAt.so5 tb5.dr (X := A) (by omega) (fixD (sinN X))).set (fixD (cosN X))
    have hBz := (hB5.drew.set5 hAw.out.1 (fixD (sinN X))).set5 hAw.out.2 (fixD (cosN X))
    obtain ⟨a0, _⟩ := tA' 0 (by decide)
    obtain ⟨a1, _⟩ := tA' 1 (by decide)
    obtain ⟨a2, _⟩ := tA' 2 (by decide)
    obtain ⟨a3, _⟩ := tA' 3 (by decide)
    obtain ⟨a4, _⟩ := tA' 4 (by decide)
    obtain ⟨b0, _⟩ := tB' 0 (by decide)
    obtain ⟨b1, _⟩ := tB' 1 (by decide)
    obtain ⟨b2, _⟩ := tB' 2 (by decide)
    obtain ⟨b3, _⟩ := tB' 3 (by decide)
    obtain ⟨b4, _⟩ := tB' 4 (by decide)
    generalize set5 (set5 (World.drew (set5 (set5 w4 C (fixD (sinN X))) (C + 1) (fixD (cosN X)))) A (fixD (sinN X))) (A + 1) (fixD (cosN X)) = wz at a0 a1 a2 a3 a4 b0 b1 b2 b3 b4 hBz ⊢
    clear tA' tB'
    unfold actOf quadDs
    simp only [List.mapIdx_toArray, List.mapIdx_cons, List.mapIdx_nil, List.mem_cons, List.mem_nil_iff, Nat.reduceEqDiff, Nat.reduceAdd, or_false, or_true, if_true, if_false, f5, f7]
    go_wp2
    refine bodyPost_ret (by simp [results, go_sem, a0, a1, a2, a3, a4, b0, b1, b2, b3, b4]; try rfl) rfl ?_
    exact ⟨rfl, hBz⟩
  · -- octant 3
    go_upto_region 11 with fail
    refine quad_out (w := w4) _ A (A + 1) C (C + 1) (fixD (cosN X)) (fixD (sinN X)) (.int .i64 (-1)) (.int .i64 (1)) (by omega) ta4 tb4 tC tG ⟨_, _, _, _, _, _, _, _, _, _, _, _, _, _, _, _, _, _, _, _, _, _, _, _, rfl⟩ (by decide +kernel) rfl rfl rfl rfl rfl rfl rfl ?_
    intro f f5 f7
    have tA' := CellsAt.so5 (ta4.dr.set (fixD (cosN X))) (X := A + 1) (by omega) (fixD (sinN X))
    have tB' := (CellsAt.so5 tb4.dr (X := A) (by omega) (fixD (cosN X))).set (fixD (sinN X))
    have hBz := (hB.drew.set5 hAw.out.1 (fixD (cosN X))).set5 hAw.out.2 (fixD (sinN X))
    obtain ⟨a0, _⟩ := tA' 0 (by decide)
    obtain ⟨a1, _⟩ := tA' 1 (by decide)
    obtain ⟨a2, _⟩ := tA' 2 (by decide)
    obtain ⟨a3, _⟩ := tA' 3 (by decide)
    obtain ⟨a4, _⟩ := tA' 4 (by decide)
    obtain ⟨b0, _⟩ := tB' 0 (by decide)
    obtain ⟨b1, _⟩ := tB' 1 (by decide)
    obtain ⟨b2, _⟩ := tB' 2 (by decide)
    obtain ⟨b3, _⟩ := tB' 3 (by decide)
    obtain ⟨b4, _⟩ := tB' 4 (by decide)
    generalize set5 (set5 (World.drew w4) A (fixD (cosN X))) (A + 1) (fixD (sinN X)) = wz at a0 a1 a2 a3 a4 b0 b1 b2 b3 b4 hBz ⊢
    clear tA' tB'
    unfold actOf quadDs
    simp only [List.mapIdx_toArray, List.mapIdx_cons, List.mapIdx_nil, List.mem_cons, List.mem_nil_iff, Nat.reduceEqDiff, Nat.reduceAdd, or_false, or_true, if_true, if_false, f5, f7]
    go_wp2
    refine bodyPost_ret (by simp [results, go_sem, a0, a1, a2, a3, a4, b0, b1, b2, b3, b4]; try rfl) rfl ?_
    exact ⟨rfl, hBz⟩
  · -- octant 4
    go_upto_region 11 with fail
    refine quad_out (w := w4) _ A (A + 1) C (C + 1) (fixD (cosN X)) (fixD (sinN X)) (.int .i64 (-1)) (.int .i64 (-1)) (by omega) ta4 tb4 tC tG ⟨_, _, _, _, _, _, _, _, _, _, _, _, _, _, _, _, _, _, _, _, _, _, _, _, rfl⟩ (by decide +kernel) rfl rfl rfl rfl rfl rfl rfl ?_
    intro f f5 f7
    have tA' := CellsAt.so5 (ta4.dr.set (fixD (cosN X))) (X := A + 1) (by omega) (fixD (sinN X))
    have tB' := (CellsAt.so5 tb4.dr (X := A) (by omega) (fixD (cosN X))).set (fixD (sinN X))
    have hBz := (hB.drew.set5 hAw.out.1 (fixD (cosN X))).set5 hAw.out.2 (fixD (sinN X))
    obtain ⟨a0, _⟩ := tA' 0 (by decide)
    obtain ⟨a1, _⟩ := tA' 1 (by decide)
    obtain ⟨a2, _⟩ := tA' 2 (by decide)
    obtain ⟨a3, _⟩ := tA' 3 (by decide)
    obtain ⟨a4, _⟩ := tA' 4 (by decide)
    obtain ⟨b0, _⟩ := tB' 0 (by decide)
    obtain ⟨b1, _⟩ := tB' 1 (by decide)
    obtain ⟨b2, _⟩ := tB' 2 (by decide)
    obtain ⟨b3, _⟩ := tB' 3 (by decide)
    obtain ⟨b4, _⟩ := tB' 4 (by decide)
    generalize set5 (set5 (World.drew w4) A (fixD (cosN X))) (A + 1) (fixD (sinN X)) = wz at a0 a1 a2 a3 a4 b0 b1 b2 b3 b4 hBz ⊢
    clear tA' tB'
    unfold actOf quadDs
    simp only [List.mapIdx_toArray, List.mapIdx_cons, List.mapIdx_nil, List.mem_cons, List.mem_nil_iff, Nat.reduceEqDiff, Nat.reduceAdd, or_false, or_true, if_true, if_false, f5, f7]
    go_wp2
    refine bodyPost_ret (by simp [results, go_sem, a0, a1, a2, a3, a4, b0, b1, b2, b3, b4]; try rfl) rfl ?_
    exact ⟨rfl, hBz⟩
  · -- octant 5
    obtain ⟨c0, _⟩ := tC 0 (by decide)
    obtain ⟨c1, _⟩ := tC 1 (by decide)
    obtain ⟨c2, _⟩ := tC 2 (by decide)
    obtain ⟨c3, _⟩ := tC 3 (by decide)
    obtain ⟨c4, _⟩ := tC 4 (by decide)
    obtain ⟨d0, _⟩ := tG 0 (by decide)
    obtain ⟨d1, _⟩ := tG 1 (by decide)
    obtain ⟨d2, _⟩ := tG 2 (by decide)
    obtain ⟨d3, _⟩ := tG 3 (by decide)
    obtain ⟨d4, _⟩ := tG 4 (by decide)
    obtain ⟨⟨x0, y0⟩, z0, ⟨x1, y1⟩, z1, ⟨x2, y2⟩, z2, ⟨x3, y3⟩, z3, ⟨x4, y4⟩, z4⟩ := tC.mid (fixD (sinN X))
    have tG1 := tG.so5 (X := C) (by omega) (fixD (sinN X))
    obtain ⟨⟨x5, y5⟩, z5, ⟨x6, y6⟩, z6, ⟨x7, y7⟩, z7, ⟨x8, y8⟩, z8, ⟨x9, y9⟩, z9⟩ := tG1.mid (fixD (cosN X))
    have tC5 := (tC.set (fixD (sinN X))).so5 (X := C + 1) (by omega) (fixD (cosN X))
    have tG5 := tG1.set (fixD (cosN X))
    have ta5 := (ta4.so5 (X := C) (by omega) (fixD (sinN X))).so5 (X := C + 1) (by omega) (fixD (cosN X))
    have tb5 := (tb4.so5 (X := C) (by omega) (fixD (sinN X))).so5 (X := C + 1) (by omega) (fixD (cosN X))
    have hB5 := (hB.set5 hCw (fixD (sinN X))).set5 (Nat.le_succ_of_le hCw) (fixD (cosN X))
    unfold set5 at y5 z5 y6 z6 y7 z7 y8 z8 y9 z9
    go_upto_region 11 with fail
    clear c0 c1 c2 c3 c4 d0 d1 d2 d3 d4 y0 z0 y1 z1 y2 z2 y3 z3 y4 z4 y5 z5 y6 z6 y7 z7 y8 z8 y9 z9
    refine quad_out (w := (set5 (set5 w4 C (fixD (sinN X))) (C + 1) (fixD (cosN X)))) _ A (A + 1) C (C + 1) (fixD (sinN X)) (fixD (cosN X)) (.int .i64 (-1)) (.int .i64 (-1)) (by omega) ta5 tb5 tC5 tG5 ⟨_, _, _, _, _, _, _, _, _, _, _, _, _, _, _, _, _, _, _, _, _, _, _, _, rfl⟩ (by decide +kernel) rfl rfl rfl rfl rfl rfl rfl ?_
    intro f f5 f7
    have tA' := CellsAt.so5 (ta5.dr.set (fixD (sinN X))) (X := A + 1) (by omega) (fixD (cosN X))
    have tB' := (CellsAt.so5 tb5.dr (X := A) (by omega) (fixD (sinN X))).set (fixD (cosN X))
    have hBz := (hB5.drew.set5 hAw.out.1 (fixD (sinN X))).set5 hAw.out.2 (fixD (cosN X))
    obtain ⟨a0, _⟩ := tA' 0 (by decide)
    obtain ⟨a1, _⟩ := tA' 1 (by decide)
    obtain ⟨a2, _⟩ := tA' 2 (by decide)
    obtain ⟨a3, _⟩ := tA' 3 (by decide)
    obtain ⟨a4, _⟩ := tA' 4 (by decide)
    obtain ⟨b0, _⟩ := tB' 0 (by decide)
    obtain ⟨b1, _⟩ := tB' 1 (by decide)
    obtain ⟨b2, _⟩ := tB' 2 (by decide)
    obtain ⟨b3, _⟩ := tB' 3 (by decide)
    obtain ⟨b4, _⟩ := tB' 4 (by decide)
    generalize set5 (set5 (World.drew (set5 (set5 w4 C (fixD (sinN X))) (C + 1) (fixD (cosN X)))) A (fixD (sinN X))) (A + 1) (fixD (cosN X)) = wz at a0 a1 a2 a3 a4 b0 b1 b2 b3 b4 hBz ⊢
    clear tA' tB'
    unfold actOf quadDs
    simp only [List.mapIdx_toArray, List.mapIdx_cons, List.mapIdx_nil, List.mem_cons, List.mem_nil_iff, Nat.reduceEqDiff, Nat.reduceAdd, or_false, or_true, if_true, if_false, f5, f7]
    go_wp2
    refine bodyPost_ret (by simp [results, go_sem, a0, a1, a2, a3, a4, b0, b1, b2, b3, b4]; try rfl) rfl ?_
    exact ⟨rfl, hBz⟩
  · -- octant 6
    obtain ⟨c0, _⟩ := tC 0 (by decide)
    obtain ⟨c1, _⟩ := tC 1 (by decide)
    obtain ⟨c2, _⟩ := tC 2 (by decide)
    obtain ⟨c3, _⟩ := tC 3 (by decide)
    obtain ⟨c4, _⟩ := tC 4 (by decide)
    obtain ⟨d0, _⟩ := tG 0 (by decide)
    obtain ⟨d1, _⟩ := tG 1 (by decide)
    obtain ⟨d2, _⟩ := tG 2 (by decide)
    obtain ⟨d3, _⟩ := tG 3 (by decide)
    obtain ⟨d4, _⟩ := tG 4 (by decide)
    obtain ⟨⟨x0, y0⟩, z0, ⟨x1, y1⟩, z1, ⟨x2, y2⟩, z2, ⟨x3, y3⟩, z3, ⟨x4, y4⟩, z4⟩ := tC.mid (fixD (sinN X))
    have tG1 := tG.so5 (X := C) (by omega) (fixD (sinN X))
    obtain ⟨⟨x5, y5⟩, z5, ⟨x6, y6⟩, z6, ⟨x7, y7⟩, z7, ⟨x8, y8⟩, z8, ⟨x9, y9⟩, z9⟩ := tG1.mid (fixD (cosN X))
    have tC5 := (tC.set (fixD (sinN X))).so5 (X := C + 1) (by omega) (fixD (cosN X))
    have tG5 := tG1.set (fixD (cosN X))
    have ta5 := (ta4.so5 (X := C) (by omega) (fixD (sinN X))).so5 (X := C + 1) (by omega) (fixD (cosN X))
    have tb5 := (tb4.so5 (X := C) (by omega) (fixD (sinN X))).so5 (X := C + 1) (by omega) (fixD (cosN X))
    have hB5 := (hB.set5 hCw (fixD (sinN X))).set5 (Nat.le_succ_of_le hCw) (fixD (cosN X))
    unfold set5 at y5 z5 y6 z6 y7 z7 y8 z8 y9 z9
    go_upto_region 11 with fail
    clear c0 c1 c2 c3 c4 d0 d1 d2 d3 d4 y0 z0 y1 z1 y2 z2 y3 z3 y4 z4 y5 z5 y6 z6 y7 z7 y8 z8 y9 z9
    refine quad_out (w := (set5 (set5 w4 C (fixD (sinN X))) (C + 1) (fixD (cosN X)))) _ A (A + 1) C (C + 1) (fixD (sinN X)) (fixD (cosN X)) (.int .i64 (1)) (.int .i64 (-1)) (by omega) ta5 tb5 tC5 tG5 ⟨_, _, _, _, _, _, _, _, _, _, _, _, _, _, _, _, _, _, _, _, _, _, _, _, rfl⟩ (by decide +kernel) rfl rfl rfl rfl rfl rfl rfl ?_
    intro f f5 f7
    have tA' := CellsAt.so5 (ta5.dr.set (fixD (sinN X))) (X := A + 1) (by omega) (fixD (cosN X))
    have tB' := (CellsAt.so5 tb5.dr (X := A) (by omega) (fixD (sinN X))).set (fixD (cosN X))
    have hBz := (hB5.drew.set5 hAw.out.1 (fixD (sinN X))).set5 hAw.out.2 (fixD (cosN X))
    obtain ⟨a0, _⟩ := tA' 0 (by decide)
    obtain ⟨a1, _⟩ := tA' 1 (by decide)
    obtain ⟨a2, _⟩ := tA' 2 (by decide)
    obtain ⟨a3, _⟩ := tA' 3 (by decide)
    obtain ⟨a4, _⟩ := tA' 4 (by decide)
    obtain ⟨b0, _⟩ := tB' 0 (by decide)
    obtain ⟨b1, _⟩ := tB' 1 (by decide)
    obtain ⟨b2, _⟩ := tB' 2 (by decide)
    obtain ⟨b3, _⟩ := tB' 3 (by decide)
    obtain ⟨b4, _⟩ := tB' 4 (by decide)
    generalize set5 (set5 (World.drew (set5 (set5 w4 C (fixD (sinN X))) (C + 1) (fixD (cosN X)))) A (fixD (sinN X))) (A + 1) (fixD (cosN X)) = wz at a0 a1 a2 a3 a4 b0 b1 b2 b3 b4 hBz ⊢
    clear tA' tB'
    unfold actOf quadDs
    simp only [List.mapIdx_toArray, List.mapIdx_cons, List.mapIdx_nil, List.mem_cons, List.mem_nil_iff, Nat.reduceEqDiff, Nat.reduceAdd, or_false, or_true, if_true, if_false, f5, f7]
    go_wp2
    refine bodyPost_ret (by simp [results, go_sem, a0, a1, a2, a3, a4, b0, b1, b2, b3, b4]; try rfl) rfl ?_
    exact ⟨rfl, hBz⟩
  · -- octant 7
    go_upto_region 11 with fail
    refine quad_out (w := w4) _ A (A + 1) C (C + 1) (fixD (cosN X)) (fixD (sinN X)) (.int .i64 (1)) (.int .i64 (-1)) (by omega) ta4 tb4 tC tG ⟨_, _, _, _, _, _, _, _, _, _, _, _, _, _, _, _, _, _, _, _, _, _, _, _, rfl⟩ (by decide +kernel) rfl rfl rfl rfl rfl rfl rfl ?_
    intro f f5 f7
    have tA' := CellsAt.so5 (ta4.dr.set (fixD (cosN X))) (X := A + 1) (by omega) (fixD (sinN X))
    have tB' := (CellsAt.so5 tb4.dr (X := A) (by omega) (fixD (cosN X))).set (fixD (sinN X))
    have hBz := (hB.drew.set5 hAw.out.1 (fixD (cosN X))).set5 hAw.out.2 (fixD (sinN X))
    obtain ⟨a0, _⟩ := tA' 0 (by decide)
    obtain ⟨a1, _⟩ := tA' 1 (by decide)
    obtain ⟨a2, _⟩ := tA' 2 (by decide)
    obtain ⟨a3, _⟩ := tA' 3 (by decide)
    obtain ⟨a4, _⟩ := tA' 4 (by decide)
    obtain ⟨b0, _⟩ := tB' 0 (by decide)
    obtain ⟨b1, _⟩ := tB' 1 (by decide)
    obtain ⟨b2, _⟩ := tB' 2 (by decide)
    obtain ⟨b3, _⟩ := tB' 3 (by decide)
    obtain ⟨b4, _⟩ := tB' 4 (by decide)
    generalize set5 (set5 (World.drew w4) A (fixD (cosN X))) (A + 1) (fixD (sinN X)) = wz at a0 a1 a2 a3 a4 b0 b1 b2 b3 b4 hBz ⊢
    clear tA' tB'
    unfold actOf quadDs
    simp only [List.mapIdx_toArray, List.mapIdx_cons, List.mapIdx_nil, List.mem_cons, List.mem_nil_iff, Nat.reduceEqDiff, Nat.reduceAdd, or_false, or_true, if_true, if_false, f5, f7]
    go_wp2
    refine bodyPost_ret (by simp [results, go_sem, a0, a1, a2, a3, a4, b0, b1, b2, b3, b4]; try rfl) rfl ?_
    exact ⟨rfl, hBz⟩
end Go.Proofs.Ytpifkjmdcbieoaa

/- Sums and products the other way round, and with signs turned. No program is named here. -/
namespace Flt
open Ieee

theorem nearest_word (mag : Nat) (place : Int) : ∃ R, ∀ s, double.nearest s mag place = double.word s R := by
  unfold Format.nearest
  by_cases h : mag = 0
  · subst h
    exact ⟨0, fun s => by rw [if_pos rfl]⟩
  · obtain ⟨last, hl⟩ : ∃ last, last = max (place + mag.log2 - double.fractionBits) double.leastPlace := ⟨_, rfl⟩
    refine ⟨min ((last - double.leastPlace).toNat * double.binade + Toward.even.cut false (mag <<< (place - last).toNat) (last - place).toNat) double.infRung, fun s => ?_⟩
    rw [if_neg h, hl]
    rfl
theorem val_word {R : Nat} {z z' : Int} {s : Bool} (h : Num (double.word s R) z) (h' : Num (double.word (!s) R) z') : z' = -z := by
  have key : ∀ {z z' : Int}, Num (double.word false R) z → Num (double.word true R) z' → z' = -z := by
    intro z z' h h'
    have e1 : double.word false R = R := rfl
    have e2 : double.word true R = R + 9223372036854775808 := by
      show double.signWeight + R = _
      rw [weight_eq, Nat.add_comm]
    rw [e1] at h
    rw [e2] at h'
    have hl : R < 9223372036854775808 := by
      have := h'.lt
      have e : (2 : Nat) ^ 64 = 18446744073709551616 := rfl
      omega
    have hf := h.fin
    rw [Nat.mod_eq_of_lt hl] at hf
    rw [← h.val, ← h'.val, v_neg rfl hf]
  cases s
  · exact key h h'
  · have := key h' h
    omega
theorem nearest_neg {mag : Nat} {place : Int} {s : Bool} {z z' : Int} (h : Num (double.nearest s mag place) z) (h' : Num (double.nearest (!s) mag place) z') : z' = -z := by
  obtain ⟨R, hR⟩ := nearest_word mag place
  rw [hR] at h h'
  exact val_word h h'
theorem nearest_zero {place : Int} {s : Bool} {z : Int} (h : Num (double.nearest s 0 place) z) : z = 0 := by
  have e : double.nearest s 0 place = double.word s 0 := by unfold Format.nearest; rw [if_pos rfl]
  rw [e] at h
  have h0 := (read_word s 0 0 (by decide) (Or.inl rfl) (by decide)).1
  have := h.unique h0
  rw [this]
  cases s <;> rfl
theorem add_comm' {x y : Nat} {a b : Int} (hx : Num x a) (hy : Num y b) : double.add x y = double.add y x := by
  obtain ⟨s, m, i, hr, _⟩ := hx.ex
  obtain ⟨t, n, j, hr', _⟩ := hy.ex
  unfold Format.add
  rw [hr, hr']
  show some (double.nearest (if signed s m (i - min i j).toNat + signed t n (j - min i j).toNat = 0 then s && t else decide (signed s m (i - min i j).toNat + signed t n (j - min i j).toNat < 0)) (signed s m (i - min i j).toNat + signed t n (j - min i j).toNat).natAbs (min i j)) =
    some (double.nearest (if signed t n (j - min j i).toNat + signed s m (i - min j i).toNat = 0 then t && s else decide (signed t n (j - min j i).toNat + signed s m (i - min j i).toNat < 0)) (signed t n (j - min j i).toNat + signed s m (i - min j i).toNat).natAbs (min j i))
  rw [Int.min_comm j i, Int.add_comm (signed t n _), Bool.and_comm t s]
theorem mul_comm' {x y : Nat} {a b : Int} (hx : Num x a) (hy : Num y b) : double.mul x y = double.mul y x := by
  obtain ⟨s, m, i, hr, _⟩ := hx.ex
  obtain ⟨t, n, j, hr', _⟩ := hy.ex
  unfold Format.mul
  rw [hr, hr']
  show some (double.nearest (s ^^ t) (m * n) (i + j)) = some (double.nearest (t ^^ s) (n * m) (j + i))
  rw [Bool.xor_comm, Nat.mul_comm, Int.add_comm]
end Flt
namespace Go.Proofs.Ytpifkjmdcbieoaa
open Go.RowKit

theorem read_neg {x : Nat} {s : Bool} {m : Nat} {i : Int} (hx : x < 18446744073709551616) (h : Ieee.double.read x = .number s m i) : Ieee.double.read (Op.negFloat .f64 x) = .number (!s) m i := by
  have hfin : x % 9223372036854775808 < 9218868437227405312 := by
    refine Classical.byContradiction fun hc => ?_
    rcases Flt.read_notfin hc with ⟨t, ht⟩ | ⟨t, p, ht⟩ <;> rw [ht] at h <;> cases h
  obtain ⟨y, hy⟩ : ∃ y, y = Op.negFloat .f64 x := ⟨_, rfl⟩
  rw [← hy]
  rw [neg_eq x hx] at hy
  have y2 : y % 9223372036854775808 = x % 9223372036854775808 := by split at hy <;> omega
  have y3 : (y / 9223372036854775808 % 2 == 1) = !(x / 9223372036854775808 % 2 == 1) := by
    by_cases c : x < 9223372036854775808
    · rw [if_pos c] at hy
      have a1 : y / 9223372036854775808 = 1 := by omega
      have a2 : x / 9223372036854775808 = 0 := by omega
      rw [a1, a2]; rfl
    · rw [if_neg c] at hy
      have a1 : y / 9223372036854775808 = 0 := by omega
      have a2 : x / 9223372036854775808 = 1 := by omega
      rw [a1, a2]; rfl
  by_cases c : x % 9223372036854775808 < 4503599627370496
  · rw [Flt.read_small c] at h
    have hr := Flt.read_small (x := y) (by omega)
    rw [y2, y3] at hr
    cases h
    exact hr
  · rw [Flt.read_mid c hfin] at h
    have hr := Flt.read_mid (x := y) (by omega) (by omega)
    rw [y2, y3] at hr
    cases h
    exact hr
/-- the sum of two numbers whose signs are turned -/
theorem add_neg {x y r r' : Nat} {a b z z' : Int} (hx : Flt.Num x a) (hy : Flt.Num y b) (h : Ieee.double.add x y = some r) (h' : Ieee.double.add (Op.negFloat .f64 x) (Op.negFloat .f64 y) = some r') (hz : Flt.Num r z) (hz' : Flt.Num r' z') : z' = -z := by
  obtain ⟨s, m, i, hr, _⟩ := hx.ex
  obtain ⟨t, n, j, hr', _⟩ := hy.ex
  have k1 := read_neg hx.lt hr
  have k2 := read_neg hy.lt hr'
  unfold Ieee.Format.add at h h'
  rw [hr, hr'] at h
  rw [k1, k2] at h'
  obtain ⟨A, hA⟩ : ∃ A, A = Ieee.signed s m (i - min i j).toNat := ⟨_, rfl⟩
  obtain ⟨B, hB⟩ : ∃ B, B = Ieee.signed t n (j - min i j).toNat := ⟨_, rfl⟩
  have hA' : Ieee.signed (!s) m (i - min i j).toNat = -A := by rw [hA, Flt.signed_eq, Flt.signed_eq]; cases s <;> simp
  have hB' : Ieee.signed (!t) n (j - min i j).toNat = -B := by rw [hB, Flt.signed_eq, Flt.signed_eq]; cases t <;> simp
  have g1 : some (Ieee.double.nearest (if A + B = 0 then s && t else decide (A + B < 0)) (A + B).natAbs (min i j)) = some r := by rw [hA, hB]; exact h
  have g2 : some (Ieee.double.nearest (if -A + -B = 0 then !s && !t else decide (-A + -B < 0)) (-A + -B).natAbs (min i j)) = some r' := by rw [← hA', ← hB']; exact h'
  cases g1
  cases g2
  have eN : (-A + -B).natAbs = (A + B).natAbs := by omega
  rw [eN] at hz'
  by_cases c : A + B = 0
  · have c2 : (A + B).natAbs = 0 := by omega
    rw [c2] at hz hz'
    rw [Flt.nearest_zero hz, Flt.nearest_zero hz']; rfl
  · rw [if_neg c] at hz
    rw [if_neg (by omega : ¬ -A + -B = 0)] at hz'
    have e : decide (-A + -B < 0) = !decide (A + B < 0) := by
      by_cases d : A + B < 0
      · rw [decide_eq_true d, decide_eq_false (by omega)]; rfl
      · rw [decide_eq_false d, decide_eq_true (by omega)]; rfl
    rw [e] at hz'
    exact Flt.nearest_neg hz hz'
/-- the product of two numbers, the first one's sign turned -/
theorem mul_neg {x y r r' : Nat} {a b z z' : Int} (hx : Flt.Num x a) (hy : Flt.Num y b) (h : Ieee.double.mul x y = some r) (h' : Ieee.double.mul (Op.negFloat .f64 x) y = some r') (hz : Flt.Num r z) (hz' : Flt.Num r' z') : z' = -z := by
  obtain ⟨s, m, i, hr, _⟩ := hx.ex
  obtain ⟨t, n, j, hr', _⟩ := hy.ex
  have k1 := read_neg hx.lt hr
  unfold Ieee.Format.mul at h h'
  rw [hr, hr'] at h
  rw [k1, hr'] at h'
  have g1 : some (Ieee.double.nearest (s ^^ t) (m * n) (i + j)) = some r := h
  have g2 : some (Ieee.double.nearest (!s ^^ t) (m * n) (i + j)) = some r' := h'
  cases g1
  cases g2
  have e : (!s ^^ t) = !(s ^^ t) := by cases s <;> cases t <;> rfl
  rw [e] at hz'
  exact Flt.nearest_neg hz hz'
/-- two words of one number are equal floats -/
theorem ord_same {x y : Nat} {a : Int} (hx : Flt.Num x a) (hy : Flt.Num y a) : FloatKind.f64.format.order x y = some Ordering.eq := (Flt.order_num hx hy).trans (by simp [compare, compareOfLessAndEq])
end Go.Proofs.Ytpifkjmdcbieoaa

/- Layer 5's statements: fine; the reference's Neat. -/
namespace Go.Proofs.Ytpifkjmdcbieoaa
open Go.RowKit

theorem neat_any (x y : Nat) (a b : Int) (w : World) (hx : Flt.Num x a) (hy : Flt.Num y b) (hb : (a + b).natAbs < 2 ^ Flt.top) (hn : Flt.rn (a + b) = a) :
    Calls Try.prog 27 #[.float .f64 x, .float .f64 y] w fun r w' => r = .returned (.bool true) ∧ w = w' := by
  obtain ⟨r, h1, h2⟩ := Flt.add_rn hx hy hb
  rw [hn] at h2
  have o1 := fun w => run_fadd (P := Try.prog) 28 h1 w
  have o2 := ord_same h2 hx
  clear h1 h2 hx hy hb hn
  go_enter Try.func27, Try.ntmps27
  go_wp2
  go_ret
  exact ⟨ret_bool (by simp), rfl⟩
theorem fine_any (x y : Nat) (a b : Int) (w : World) (hx : Flt.Num x a) (hy : Flt.Num y b) (hb : (a + b).natAbs < 2 ^ Flt.top) (hn : Flt.rn (a + b) = a) :
    Calls Try.prog 16 #[.agg #[.float .f64 x, .float .f64 y]] w fun r w' => r = .returned (.bool true) ∧ Bel w w' := by
  have h1 := fun w => finite_any x w
  have h2 := fun w => finite_any y w
  rw [decide_eq_true hx.fin] at h1
  rw [decide_eq_true hy.fin] at h2
  have h3 := fun w => neat_any x y a b w hx hy hb hn
  have hB := (Bel.refl w).alloc (.cells #[.float .f64 x, .float .f64 y] 30)
  clear hx hy hb hn
  go_enter Try.func16, Try.ntmps16
  go_wp2_with fail
  refine (h1 _).mono ?_; rintro r w2 ⟨rfl, rfl⟩
  go_wp2_with fail
  refine (h2 _).mono ?_; rintro r w2 ⟨rfl, rfl⟩
  go_wp2_with fail
  refine (h3 _).mono ?_; rintro r w2 ⟨rfl, rfl⟩
  go_wp2
  go_ret
  exact ⟨rfl, hB⟩
end Go.Proofs.Ytpifkjmdcbieoaa

/- What the landed trig is to answer (layer 5). -/
namespace Go.Proofs.Ytpifkjmdcbieoaa
open Go.RowKit

def TurnSaid : Prop := ∀ (k n : Int) (w : World), -9223372036854775808 ≤ k ∧ k < 9223372036854775808 → 1 ≤ n ∧ n ≤ 1099511627776 →
    Calls Try.prog 14 #[.int .i64 k, .int .i64 n] w fun r w' => ∃ x y H L, r = .returned (.tuple #[.float .f64 x, .float .f64 y]) ∧ Flt.Num x H ∧ Flt.Num y L ∧
      InU ((147573952589676412928 + 1099511627776 : Nat) : Rat) (reR H) (cosR (angR k n)) ∧ InU ((147573952589676412928 + 1099511627776 : Nat) : Rat) (reR L) (sinR (angR k n)) ∧ Bel w w'
/-- a number near x, within 2^-90, neat and finite -/
structure NearDD (x y : Nat) (c : Rat) : Prop where
  ex : ∃ H L, Flt.Num x H ∧ Flt.Num y L ∧ (H + L).natAbs < 2 ^ Flt.top ∧ Flt.rn (H + L) = H ∧ InU ((1073741824 : Nat) : Rat) (reR (H + L)) c
def ExactSaid : Prop := ∀ (k n : Int) (w : World), -9223372036854775808 ≤ k ∧ k < 9223372036854775808 → 1 ≤ n ∧ n ≤ 1099511627776 →
    Calls Try.prog 13 #[.int .i64 k, .int .i64 n] w fun r w' => ∃ x y u v, r = .returned (.tuple #[.agg #[.float .f64 x, .float .f64 y], .agg #[.float .f64 u, .float .f64 v]]) ∧ NearDD x y (cosR (angR k n)) ∧ NearDD u v (sinR (angR k n)) ∧ Bel w w'
def ZeroSaid5 : Prop := ∀ (k n : Int) (w : World), ¬ (1 ≤ n ∧ n ≤ 1099511627776) →
    Calls Try.prog 13 #[.int .i64 k, .int .i64 n] w (fun r w' => r = .returned (.tuple #[.agg #[.float .f64 0, .float .f64 0], .agg #[.float .f64 0, .float .f64 0]]) ∧ Bel w w') ∧
    Calls Try.prog 14 #[.int .i64 k, .int .i64 n] w (fun r w' => r = .returned (.tuple #[.float .f64 0, .float .f64 0]) ∧ Bel w w')
def WakesSaid5 : Prop := ∀ w : World, Calls Try.prog 12 #[] w fun r w' => r = .returned (.bool true) ∧ Bel w w'
theorem sumN_big {X : Nat} (hX : X ≤ one120) (r : Nat) : sumN X r 32 < 1427247692705959881058285969449495136382746624 :=
  Nat.lt_of_le_of_lt (sumN_le hX r 32) (by decide)
theorem cosN_big {X : Nat} (hX : X ≤ one120) : cosN X < 1427247692705959881058285969449495136382746624 := Nat.lt_of_le_of_lt (Nat.sub_le _ _) (sumN_big hX 0)
theorem sinN_big {X : Nat} (hX : X ≤ one120) : sinN X < 1427247692705959881058285969449495136382746624 := Nat.lt_of_le_of_lt (Nat.sub_le _ _) (sumN_big hX 1)
theorem turnC_big {X : Nat} (hX : X ≤ one120) (o : Int) : turnC o X < 1427247692705959881058285969449495136382746624 := by
  unfold turnC; split
  · exact sinN_big hX
  · exact cosN_big hX
theorem turnS_big {X : Nat} (hX : X ≤ one120) (o : Int) : turnS o X < 1427247692705959881058285969449495136382746624 := by
  unfold turnS; split
  · exact cosN_big hX
  · exact sinN_big hX
theorem fixD_abs {v : Nat} (h : v < 1427247692705959881058285969449495136382746624) (j : Nat) : (fixD v j).natAbs ≤ 1073741824 := by
  have := fixD_le h j
  omega
theorem big5 {v j : Nat} (h : v < 2 ^ (j + e1080)) (hj : j ≤ 900) : v < bigP := by
  rw [bigP_eq]
  refine Nat.lt_of_lt_of_le h (Flt.two_le (a := j + e1080) (b := bigE) ?_)
  have : e1080 = 1080 := rfl
  have : bigE = 3300 := rfl
  omega
/-- far of the landed cosine -/
theorem farC {k n : Int} (hn : 0 < n) {e j : Nat} (he : e + 3700 < 2 ^ j) (hj : j ≤ 900) {x y : Nat} {H L : Int} (hx : Flt.Num x H) (hy : Flt.Num y L) (h : InU (e : Rat) (reR (H + L)) (cosR (angR k n))) (w : World) :
    Calls Try.prog 17 #[.agg #[.float .f64 x, .float .f64 y], V5 (fixD (turnC (octO k n) (turnX k n))), .int .i64 (turnA (octO k n))] w fun r w' => ∃ s : Int, r = .returned (.int .i64 s) ∧ s ≤ (j : Int) - 120 ∧ -1200 ≤ s ∧ Bel w w' := by
  have hX := (turnX_near (k := k) hn).1
  have hf := exact_far hn he h
  refine (far_any x y H L _ (turnC (octO k n) (turnX k n)) (turnA (octO k n)) w hx hy (fixD_abs (turnC_big hX _)) (fixD_sum _) (turnA_one _) (big5 hf hj)).mono ?_
  rintro r w' ⟨s, rfl, hs, h0, h1, hb⟩
  have := hs.le hf
  have : ((j + e1080 : Nat) : Int) = (j : Int) + 1080 := by have : e1080 = 1080 := rfl
                                                            omega
  exact ⟨s, rfl, by omega, h0, hb⟩
theorem farS {k n : Int} (hn : 0 < n) {e j : Nat} (he : e + 3700 < 2 ^ j) (hj : j ≤ 900) {x y : Nat} {H L : Int} (hx : Flt.Num x H) (hy : Flt.Num y L) (h : InU (e : Rat) (reR (H + L)) (sinR (angR k n))) (w : World) :
    Calls Try.prog 17 #[.agg #[.float .f64 x, .float .f64 y], V5 (fixD (turnS (octO k n) (turnX k n))), .int .i64 (turnB (octO k n))] w fun r w' => ∃ s : Int, r = .returned (.int .i64 s) ∧ s ≤ (j : Int) - 120 ∧ -1200 ≤ s ∧ Bel w w' := by
  have hX := (turnX_near (k := k) hn).1
  have hf := exact_far' hn he h
  refine (far_any x y H L _ (turnS (octO k n) (turnX k n)) (turnB (octO k n)) w hx hy (fixD_abs (turnS_big hX _)) (fixD_sum _) (turnB_one _) (big5 hf hj)).mono ?_
  rintro r w' ⟨s, rfl, hs, h0, h1, hb⟩
  have := hs.le hf
  have : ((j + e1080 : Nat) : Int) = (j : Int) + 1080 := by have : e1080 = 1080 := rfl
                                                            omega
  exact ⟨s, rfl, by omega, h0, hb⟩
end Go.Proofs.Ytpifkjmdcbieoaa

/- The landed Exact and Turn answer what they are to answer (layer 5). -/
namespace Go.Proofs.Ytpifkjmdcbieoaa
open Go.RowKit

def eX : Rat := 300003600
structure WStX (C S : Rat) (W : W4) : Prop where
  ex : ∃ c s, DN W.a W.b c ∧ DN W.c W.d s ∧ InU eX c C ∧ InU eX s S
theorem WSt.to {C S C' S' : Rat} {W : W4} (h : WSt C S W) (e1 : InU 3600 C' C) (e2 : InU 3600 S' S) : WStX C' S' W := by
  obtain ⟨c, s, d1, d2, a1, a2⟩ := h.ex
  exact ⟨c, s, d1, d2, (a1.trans e1.symm).mono (by unfold eA eX; grind), (a2.trans e2.symm).mono (by unfold eA eX; grind)⟩
theorem exact_near {F : Int → Int → W4} (hF : AxisF F) (k n : Int) (hn : 1 ≤ n ∧ n ≤ 1099511627776) : WStX (cosR (angR k n)) (sinR (angR k n)) (exW F k n) := by
  obtain ⟨o0, o8⟩ := octO_range (k := k) (n := n) (by omega)
  obtain ⟨r0, r1⟩ := octR_range (k := k) (n := n) (by omega)
  have hSt := hF.st (octR k n) n r0 r1 hn.1 hn.2
  obtain ⟨T1, T2⟩ := truth (k := k) (n := n) (by omega)
  have eT : angT (octR k n) n = restT k n := rfl
  rw [eT] at hSt
  unfold exW
  generalize F (octR k n) n = W at *
  generalize restT k n = t at *
  have z1 : ((1 : Int) : Rat) = 1 := by exact_mod_cast rfl
  have z2 : ((-1 : Int) : Rat) = -1 := by exact_mod_cast rfl
  have n1 : ∀ x : Rat, (-1 : Rat) * x = -x := fun x => by grind
  have p1 : ∀ x : Rat, (1 : Rat) * x = x := fun x => by grind
  have nn : ∀ x : Rat, - -x = x := fun x => by grind
  have q1 := hSt.rot
  have q2 := q1.rot
  have q3 := q2.rot
  have s0 := hSt.swap
  have s1 := s0.rot
  have s2 := s1.rot
  have s3 := s2.rot
  rw [nn] at q3 s3
  have : octO k n = 0 ∨ octO k n = 1 ∨ octO k n = 2 ∨ octO k n = 3 ∨ octO k n = 4 ∨ octO k n = 5 ∨ octO k n = 6 ∨ octO k n = 7 := by omega
  rcases this with h | h | h | h | h | h | h | h <;> rw [h] at T1 T2 ⊢
  · exact hSt.to (by simpa [turnA, magC, z1, p1] using T1) (by simpa [turnB, magS, z1, p1] using T2)
  · exact s0.to (by simpa [turnA, magC, z1, p1] using T1) (by simpa [turnB, magS, z1, p1] using T2)
  · exact q1.to (by simpa [turnA, magC, z1, z2, n1, p1] using T1) (by simpa [turnB, magS, z1, z2, n1, p1] using T2)
  · exact s1.to (by simpa [turnA, magC, z1, z2, n1, p1] using T1) (by simpa [turnB, magS, z1, z2, n1, p1] using T2)
  · exact q2.to (by simpa [turnA, magC, z1, z2, n1, p1] using T1) (by simpa [turnB, magS, z1, z2, n1, p1] using T2)
  · exact s2.to (by simpa [turnA, magC, z1, z2, n1, p1] using T1) (by simpa [turnB, magS, z1, z2, n1, p1] using T2)
  · exact q3.to (by simpa [turnA, magC, z1, z2, n1, p1] using T1) (by simpa [turnB, magS, z1, z2, n1, p1] using T2)
  · exact s3.to (by simpa [turnA, magC, z1, z2, n1, p1] using T1) (by simpa [turnB, magS, z1, z2, n1, p1] using T2)
theorem DN.neatD {x y : Nat} {r C : Rat} (h : DN x y r) (e : InU eX r C) : NearDD x y C := by
  obtain ⟨H, L, n1, n2, t, v⟩ := h.ex
  refine ⟨H, L, n1, n2, ?_, TameN.rn t, by rw [v]; exact e.mono (by unfold eX; exact_mod_cast (show 300003600 ≤ 1073741824 by decide))⟩
  obtain ⟨a, b⟩ := TameN.up t
  have h1 := Int.natAbs_add_le H L
  have h2 := two_dbl (j := 1221) (k := 1220) (by decide)
  have h3 := Flt.two_lt' (a := 1221) (b := Flt.top) (by decide)
  obtain ⟨P, hP⟩ : ∃ P, P = 2 ^ 1220 := ⟨_, rfl⟩
  obtain ⟨Q, hQ⟩ : ∃ Q, Q = 2 ^ 1221 := ⟨_, rfl⟩
  rw [← hP] at a b h2
  rw [← hQ] at h2 h3
  exact Nat.lt_of_le_of_lt (by omega) h3
theorem exact_said : ExactSaid := by
  obtain ⟨F, hF⟩ := axis_fun
  intro k n w _ hn
  refine (exact_run hF k n hn w).mono ?_
  rintro q w' ⟨rfl, hB⟩
  obtain ⟨c, s, d1, d2, e1, e2⟩ := (exact_near hF k n hn).ex
  exact ⟨_, _, _, _, rfl, d1.neatD e1, d2.neatD e2, hB⟩
theorem two_1021 : 2 ^ e1021 = 147573952589676412928 * P954 := by
  have h : e1021 = 67 + e954 := rfl
  have h2 : 147573952589676412928 = 2 ^ 67 := by decide
  rw [h, Nat.pow_add, P954_eq, h2]
/-- the first part alone -/
theorem DN.first {x y : Nat} {r C : Rat} (h : DN x y r) (e : InU eX r C) (hC : -(11 / 10) ≤ C ∧ C ≤ 11 / 10) : ∃ H, Flt.Num x H ∧ InU ((147573952589676412928 + 1099511627776 : Nat) : Rat) (reR H) C := by
  obtain ⟨H, L, n1, n2, t, v⟩ := h.ex
  refine ⟨H, n1, ?_⟩
  obtain ⟨f1, f2⟩ := e.flat30 (show eX ≤ 2000000000 by unfold eX; grind)
  have hr : Wi (reR (H + L)) 2 := by rw [v]; exact ⟨by grind, by grind⟩
  have h2 : (H + L).natAbs ≤ 2 ^ (54 + e1021) := by
    have h1 := re_abs hr
    rw [← v_nat] at h1
    have e2 : ((2 * 2 ^ Flt.uE : Nat) : Rat) = 2 * ((2 ^ Flt.uE : Nat) : Rat) := Rat.natCast_mul _ _
    rw [← e2] at h1
    have h2 : (H + L).natAbs ≤ 2 * 2 ^ Flt.uE := by exact_mod_cast h1
    refine Nat.le_trans h2 ?_
    have h3 := two_dbl (j := 54 + e1021) (k := Flt.uE) (by decide)
    rw [h3, Nat.mul_comm]
    exact Nat.le_refl _
  have hN := Flt.rn_near (H + L)
  rw [TameN.rn t] at hN
  have h3 := hN.err h2
  have hd : Wi (reR (H - (H + L)) * uR) 147573952589676412928 := by
    have e1 : ((H - (H + L)).natAbs : Rat) ≤ 147573952589676412928 * (P954 : Rat) := by
      have h4 : (H - (H + L)).natAbs ≤ 147573952589676412928 * P954 := by
        rw [← two_1021]; exact h3
      have q : (((H - (H + L)).natAbs : Nat) : Rat) ≤ ((147573952589676412928 * P954 : Nat) : Rat) := by exact_mod_cast h4
      have e5 : ((147573952589676412928 * P954 : Nat) : Rat) = 147573952589676412928 * (P954 : Rat) := Rat.natCast_mul _ _
      rw [e5] at q
      exact q
    obtain ⟨a1, a2⟩ := nat_le (H - (H + L))
    have hv := reR_v (H - (H + L))
    have p := P954_posR
    unfold vR at hv
    generalize reR (H - (H + L)) = d at *
    generalize ((H - (H + L) : Int) : Rat) = D at *
    generalize (((H - (H + L)).natAbs : Nat) : Rat) = M at *
    generalize (P954 : Rat) = P at *
    have k1 := nonneg_of p (d := 147573952589676412928 - d * uR) (by grind)
    have k2 := nonneg_of p (d := 147573952589676412928 + d * uR) (by grind)
    exact ⟨by grind, by grind⟩
  rw [reR_sub, v] at hd
  have z : ((147573952589676412928 + 1099511627776 : Nat) : Rat) = 147573953689188040704 := by push_cast; rfl
  rw [z]
  exact (hd.inU.trans e).mono (by unfold eX; grind)
end Go.Proofs.Ytpifkjmdcbieoaa

/- The landed Turn (layer 5), and Exact of no part of a turn: the walks; the wakes. -/
namespace Go.Proofs.Ytpifkjmdcbieoaa
open Go.RowKit

def turnPre (i : Nat) : List Nat := match i with | 1 => [0] | 3 => [2] | 4 => [1] | 5 => [3] | _ => []
set_option maxHeartbeats 2000000 in
theorem turn_of {k n : Int} {x y u v : Nat} (hE : ∀ w, Calls Try.prog 13 #[.int .i64 k, .int .i64 n] w fun q w' => q = .returned (.tuple #[dv x y, dv u v]) ∧ Bel w w') (w : World) :
    Calls Try.prog 14 #[.int .i64 k, .int .i64 n] w fun q w' => q = .returned (.tuple #[.float .f64 x, .float .f64 u]) ∧ Bel w w' := by
  have sf := run_store_float Try.prog
  have f1 := fun w => float_any x y w
  have f2 := fun w => float_any u v w
  go_enter Try.func14, Try.ntmps14
  go_wp2_with fail
  refine (hE _).mono ?_; rintro q w1 ⟨rfl, hB⟩
  go_upto_region 2 with fail
  obtain ⟨w2, hw2⟩ : ∃ w2, w2 = (w1.alloc (Obj.cells #[.float .f64 x, .float .f64 y] 30)).alloc (Obj.cells #[.float .f64 u, .float .f64 v] 30) := ⟨_, rfl⟩
  have t1 : Two w2 w1.heap.size x y := by rw [hw2]; exact (Two.newN _ x y _ _ rfl).al _
  have t2 : Two w2 (w1.heap.size + 1) u v := by rw [hw2]; exact Two.newN _ u v _ _ (by simp)
  have hB2 : Bel w w2 := by rw [hw2]; exact (hB.alloc _).alloc _
  rw [← hw2]
  obtain ⟨A, hA⟩ : ∃ A, A = w1.heap.size := ⟨_, rfl⟩
  rw [← hA] at t1 t2 ⊢
  clear hw2 hA hB hE
  obtain ⟨a0, ha0⟩ : ∃ a0 : Act, a0 = { tmps := #[.int .i64 k, .int .i64 n, undef, undef, .float .f64 0, .float .f64 0, .pointer (some ⟨A, 0, none⟩), .pointer (some ⟨A + 1, 0, none⟩), .tuple #[dv x y, dv u v], .int .i64 k, .int .i64 n, .tuple #[dv x y, dv u v], dv x y, dv u v, undef, undef, undef, undef], defers := [] } := ⟨_, rfl⟩
  have hA0 : Apart ([(0, 14, fun z => z = dv x y), (1, 15, fun z => z = .float .f64 x), (2, 16, fun z => z = dv u v), (3, 17, fun z => z = .float .f64 u), (4, 4, fun z => z = .float .f64 x), (5, 5, fun z => z = .float .f64 u)] : Leaves) [] := by
    refine ⟨by simp, by simp, by simp, by simp, by simp, by simp, by simp, by simp⟩
  have out : ∀ f t, t ∉ [4, 5, 14, 15, 16, 17] → (actOf a0 [4, 5, 14, 15, 16, 17] f).eval (.tmp t) = a0.eval (.tmp t) := fun f t h => actOf_out a0 _ f h
  have inn : ∀ f t, t ∈ [4, 5, 14, 15, 16, 17] → t < 18 → (actOf a0 [4, 5, 14, 15, 16, 17] f).eval (.tmp t) = f t := fun f t h h2 => actOf_in a0 _ f h (by rw [ha0]; exact h2)
  have e6 : a0.eval (.tmp 6) = .pointer (some ⟨A, 0, none⟩) := by rw [ha0]; rfl
  have e7 : a0.eval (.tmp 7) = .pointer (some ⟨A + 1, 0, none⟩) := by rw [ha0]; rfl
  have ha0H := Lib.hid ha0
  rw [← ha0, ← actOf_self a0 [4, 5, 14, 15, 16, 17]]
  clear ha0
  refine wp_region_gv (pre := turnPre) (actOf a0 [4, 5, 14, 15, 16, 17]) (fun t => a0.eval (.tmp t)) (by kernel_rfl) (by decide +kernel) _ _ hA0 ?_ ⟨by simp, by simp⟩ ?_
  · intro i hi
    have hi : i < 6 := hi
    match i, hi with
    | 0, _ => exact .value 14 (fun z => z = dv x y) (by simp) fun f w hB h => wpOp_go rfl rfl (step_load (d := some 14) rfl rfl ((out f 6 (by decide)).trans e6) (load_num (t1.by hB)) ⟨_, actOf_put _ _ _ (by decide) _, rfl, Bel.refl _⟩)
    | 1, _ => exact .value 15 (fun z => z = .float .f64 x) (by simp) fun f w hB h => wpOp_go rfl rfl (step_call1 (d := some 15) rfl rfl ((inn f 14 (by decide) (by decide)).trans (h (0, 14, fun z => z = dv x y) (by simp) (by simp [turnPre]))) (by kernel_rfl) ((f1 _).mono fun _ _ ⟨k1, k2⟩ => ⟨_, k1, _, actOf_put _ _ _ (by decide) _, rfl, k2⟩))
    | 2, _ => exact .value 16 (fun z => z = dv u v) (by simp) fun f w hB h => wpOp_go rfl rfl (step_load (d := some 16) rfl rfl ((out f 7 (by decide)).trans e7) (load_num (t2.by hB)) ⟨_, actOf_put _ _ _ (by decide) _, rfl, Bel.refl _⟩)
    | 3, _ => exact .value 17 (fun z => z = .float .f64 u) (by simp) fun f w hB h => wpOp_go rfl rfl (step_call1 (d := some 17) rfl rfl ((inn f 16 (by decide) (by decide)).trans (h (2, 16, fun z => z = dv u v) (by simp) (by simp [turnPre]))) (by kernel_rfl) ((f2 _).mono fun _ _ ⟨k1, k2⟩ => ⟨_, k1, _, actOf_put _ _ _ (by decide) _, rfl, k2⟩))
    | 4, _ => exact .value 4 (fun z => z = .float .f64 x) (by simp) fun f w hB h => wpOp_go rfl rfl (step_move (d := some 4) rfl (Or.inr rfl) ((inn f 15 (by decide) (by decide)).trans (h (1, 15, fun z => z = .float .f64 x) (by simp) (by simp [turnPre]))) ⟨_, actOf_put _ _ _ (by decide) _, rfl, Bel.refl _⟩)
    | 5, _ => exact .value 5 (fun z => z = .float .f64 u) (by simp) fun f w hB h => wpOp_go rfl rfl (step_move (d := some 5) rfl (Or.inr rfl) ((inn f 17 (by decide) (by decide)).trans (h (3, 17, fun z => z = .float .f64 u) (by simp) (by simp [turnPre]))) ⟨_, actOf_put _ _ _ (by decide) _, rfl, Bel.refl _⟩)
  · intro f wy hBy h _
    have r4 : f 4 = .float .f64 x := h (4, 4, fun z => z = .float .f64 x) (by simp)
    have r5 : f 5 = .float .f64 u := h (5, 5, fun z => z = .float .f64 u) (by simp)
    rw [ha0H.out]
    have hBw := hB2.trans hBy
    clear h t1 t2 hBy hB2
    unfold actOf
    simp only [List.mapIdx_toArray, List.mapIdx_cons, List.mapIdx_nil, List.mem_cons, List.mem_nil_iff, Nat.reduceEqDiff, Nat.reduceAdd, or_false, or_true, if_true, if_false, r4, r5]
    go_wp2
    refine bodyPost_ret (by simp [results, go_sem]; try rfl) rfl ?_
    exact ⟨rfl, hBw⟩
theorem turn_run {F : Int → Int → W4} (hF : AxisF F) (k n : Int) (hn : 1 ≤ n ∧ n ≤ 1099511627776) (w : World) :
    Calls Try.prog 14 #[.int .i64 k, .int .i64 n] w fun q w' => q = .returned (.tuple #[.float .f64 (exW F k n).a, .float .f64 (exW F k n).c]) ∧ Bel w w' := turn_of (exact_run hF k n hn) w
theorem exact_bad (k n : Int) (h : ¬ (1 ≤ n ∧ n ≤ 1099511627776)) (w : World) :
    Calls Try.prog 13 #[.int .i64 k, .int .i64 n] w fun q w' => q = .returned (.tuple #[dv 0 0, dv 0 0]) ∧ Bel w w' := by
  have sf := run_store_float Try.prog
  have hO := fun w => loct_bad k n w h
  have d1 : decide ((-1 : Int) < 0) = true := by decide
  clear h
  go_enter Try.func13, Try.ntmps13
  go_wp2_with fail
  refine (hO _).mono ?_; rintro q w2 ⟨rfl, rfl⟩
  go_wp2
  refine bodyPost_ret (by simp [results, go_sem]; try rfl) rfl ?_
  exact ⟨rfl, ((Bel.refl _).alloc _).alloc _⟩
theorem zero_said : ZeroSaid5 := fun k n w h => ⟨exact_bad k n h w, turn_of (exact_bad k n h) w⟩
theorem turn_said : TurnSaid := by
  obtain ⟨F, hF⟩ := axis_fun
  intro k n w _ hn
  refine (turn_run hF k n hn w).mono ?_
  rintro q w' ⟨rfl, hB⟩
  obtain ⟨c, s, d1, d2, e1, e2⟩ := (exact_near hF k n hn).ex
  obtain ⟨a0, a1⟩ := ang_range (k := k) (n := n) (by omega)
  obtain ⟨H, nH, iH⟩ := d1.first e1 (cos_le (by grind) (by grind))
  obtain ⟨L, nL, iL⟩ := d2.first e2 (sin_le (by grind) (by grind))
  exact ⟨_, _, H, L, rfl, nH, nL, iH, iL, hB⟩
end Go.Proofs.Ytpifkjmdcbieoaa

/- Law 5's wakes. -/
namespace Go.Proofs.Ytpifkjmdcbieoaa
open Go.RowKit

theorem ord_lt {x y : Nat} {a b : Int} (hx : Flt.Num x a) (hy : Flt.Num y b) (h : a < b) : FloatKind.f64.format.order x y = some Ordering.lt := (Flt.order_num hx hy).trans (by rw [Int.compare_eq_lt.2 h])
theorem ord_gt {x y : Nat} {a b : Int} (hx : Flt.Num x a) (hy : Flt.Num y b) (h : b < a) : FloatKind.f64.format.order x y = some Ordering.gt := (Flt.order_num hx hy).trans (by rw [Int.compare_eq_gt.2 h])
theorem re_lt {A B : Int} (h : reR A < reR B) : A < B := by
  have p := vR_pos
  have h1 := Rat.mul_pos (a := reR B - reR A) (b := vR) (by grind) p
  have h2 : (A : Rat) < (B : Rat) := by rw [← reR_v A, ← reR_v B]; grind
  exact_mod_cast h2
/-- numbers of 53 bits behind the point -/
def c53 : Nat := 9007199254740992
theorem re_53 {m : Nat} : reR ((m : Int) * 2 ^ e1021) = (m : Rat) / (c53 : Rat) := by
  refine reR_of ?_
  have hv := v_nat
  have h : 2 ^ Flt.uE = 2 ^ e1021 * c53 := by
    have h : Flt.uE = e1021 + 53 := rfl
    have h2 : c53 = 2 ^ 53 := by decide
    rw [h, h2, Nat.pow_add]
  rw [h, Rat.natCast_mul] at hv
  have e : (((m : Int) * 2 ^ e1021 : Int) : Rat) = (m : Rat) * ((2 ^ e1021 : Nat) : Rat) := by
    rw [Rat.intCast_mul]
    have : (2 : Int) ^ e1021 = ((2 ^ e1021 : Nat) : Int) := (Int.natCast_pow 2 e1021).symm
    rw [this]; rfl
  rw [e, ← hv]
  have p : (0 : Rat) < (c53 : Rat) := by exact_mod_cast (show 0 < c53 by decide)
  have e2 : (m : Rat) / (c53 : Rat) * (c53 : Rat) = (m : Rat) := by grind
  generalize (m : Rat) / (c53 : Rat) = q at *
  rw [← e2]; grind
theorem word_53 {x m : Nat} (h1 : 4503599627370496 ≤ x) (h : x < 9218868437227405312) (he : x / 4503599627370496 - 1 = 1021) (hm : 4503599627370496 + x % 4503599627370496 = m) : Flt.Num x ((m : Int) * 2 ^ e1021) := by
  have hn := Flt.num_of (x := x) (by omega) (by omega)
  rw [Flt.v_mid h1 h, he, hm] at hn
  exact hn
theorem one_num : Flt.Num 4607182418800017408 (2 ^ Flt.uE) := by
  have hn := Flt.num_of (x := 4607182418800017408) (by decide) (by decide)
  rw [Flt.v_mid (by decide) (by decide)] at hn
  have e1 : ((4503599627370496 + 4607182418800017408 % 4503599627370496 : Nat) : Int) = 2 ^ 52 := by decide
  have e2 : 4607182418800017408 / 4503599627370496 - 1 = 1022 := by decide
  have e3 : (2 : Int) ^ Flt.uE = 2 ^ 52 * 2 ^ 1022 := by
    have h : Flt.uE = 52 + 1022 := rfl
    rw [h, Int.pow_add]
  rw [e1, e2, ← e3] at hn
  exact hn
theorem fl_two (e : Nat) : Flt.FL (2 ^ e) := ⟨1, e, (Int.one_mul _).symm, by decide⟩
theorem dn_one {x y : Nat} (h : DN x y 1) : Flt.Num x (2 ^ Flt.uE) := by
  obtain ⟨H, L, n1, n2, t, v⟩ := h.ex
  have h1 := reR_v (H + L)
  rw [v] at h1
  have h2 : ((H + L : Int) : Rat) = (((2 : Int) ^ Flt.uE : Int) : Rat) := by rw [v_int, ← h1]; grind
  have h3 : H + L = 2 ^ Flt.uE := Rat.intCast_inj.1 h2
  have h4 := TameN.rn t
  have h5 := Flt.rn_fl (fl_two Flt.uE)
  rw [h3, h5] at h4
  rw [h4]; exact n1
theorem ang_eighth : angR 1 8 = eighthR := by
  have q : octQ 1 8 = 1 := by decide
  unfold angR turnR quartR
  rw [q]
  have z1 : ((1 : Int) : Rat) = 1 := by exact_mod_cast rfl
  have z8 : ((8 : Int) : Rat) = 8 := by exact_mod_cast rfl
  rw [z1, z8]; grind
theorem eighth_cos : (7071 : Rat) / 10000 ≤ cosR eighthR ∧ cosR eighthR ≤ 7072 / 10000 := by
  obtain ⟨a1, a2⟩ := cosE
  have u := uR_val
  have p := uR_pos
  rw [u] at a1 a2
  constructor <;> grind
theorem exw14 (F : Int → Int → W4) : exW F 1 4 = rotW (F 0 4) := by
  have h1 : octO 1 4 = 2 := by decide
  have h2 : octR 1 4 = 0 := by decide
  unfold exW
  rw [h1, h2, if_neg (by decide)]
  rfl
theorem exw18 (F : Int → Int → W4) : exW F 1 8 = swapW (F 8 8) := by
  have h1 : octO 1 8 = 1 := by decide
  have h2 : octR 1 8 = 8 := by decide
  unfold exW
  rw [h1, h2, if_pos (by decide)]
  rfl
set_option maxHeartbeats 2000000 in
theorem wakes_said : WakesSaid5 := by
  obtain ⟨F, hF⟩ := axis_fun
  intro w
  have hT1 := fun w => turn_run hF 1 4 (by decide) w
  have hT2 := fun w => turn_run hF 1 8 (by decide) w
  have hO := fun w => loct_any 3 8 w (by decide)
  have o38 : octO 3 8 = 3 := by decide
  have r38 : octR 3 8 = 8 := by decide
  rw [o38, r38] at hO
  obtain ⟨z1, z2, z3⟩ := hF.zero 4 (by decide) (by decide)
  obtain ⟨d1, d2⟩ := hF.end_ 8 (by decide) (by decide)
  obtain ⟨c, s, dc, ds, ec, es⟩ := (exact_near hF 1 8 (by decide)).ex
  have ha : (exW F 1 4).a = 0 := by
    rw [exw14]
    show oppA (F 0 4).c = 0
    rw [z1]
    unfold oppA
    rw [if_pos num_zero_k.val]
  have hb : Flt.Num (exW F 1 4).c (2 ^ Flt.uE) := by
    rw [exw14]
    exact dn_one z3
  have hc : (exW F 1 8).c = (exW F 1 8).a := by
    rw [exw18]
    show (F 8 8).a = (F 8 8).c
    rw [d1]
  rw [ang_eighth] at ec
  obtain ⟨e1, e2⟩ := eighth_cos
  obtain ⟨H, nH, iH⟩ := dc.first ec (by constructor <;> grind)
  have k53 : (0 : Rat) < (c53 : Rat) := by exact_mod_cast (show 0 < c53 by decide)
  have f1 : Wi (reR H - cosR eighthR) (1 / 10000) := by
    have z : ((147573952589676412928 + 1099511627776 : Nat) : Rat) = 147573953689188040704 := by push_cast; rfl
    rw [z] at iH
    obtain ⟨a, b⟩ := iH
    have u := uR_val
    rw [u] at a b
    exact ⟨by grind, by grind⟩
  obtain ⟨f1, f2⟩ := f1
  have n7 := word_53 (x := 4604480259023595110) (m := 6305039478318694) (by decide) (by decide) (by decide) (by decide)
  have n71 := word_53 (x := 4604570331016142520) (m := 6395111470866104) (by decide) (by decide) (by decide) (by decide)
  have l7 : reR (((6305039478318694 : Nat) : Int) * 2 ^ e1021) < reR H := by
    rw [re_53]
    have q : ((6305039478318694 : Nat) : Rat) * 10001 ≤ (c53 : Rat) * 7001 := by exact_mod_cast (show 6305039478318694 * 10001 ≤ c53 * 7001 by decide)
    have e3 : ((6305039478318694 : Nat) : Rat) / (c53 : Rat) * (c53 : Rat) = ((6305039478318694 : Nat) : Rat) := by grind
    generalize ((6305039478318694 : Nat) : Rat) / (c53 : Rat) = q7 at *
    rw [← e3] at q
    have := nonneg_of k53 (d := 7001 - q7 * 10001) (by grind)
    grind
  have l71 : reR H < reR (((6395111470866104 : Nat) : Int) * 2 ^ e1021) := by
    rw [re_53]
    have q : (c53 : Rat) * 7090 ≤ ((6395111470866104 : Nat) : Rat) * 10000 := by exact_mod_cast (show c53 * 7090 ≤ 6395111470866104 * 10000 by decide)
    have e3 : ((6395111470866104 : Nat) : Rat) / (c53 : Rat) * (c53 : Rat) = ((6395111470866104 : Nat) : Rat) := by grind
    generalize ((6395111470866104 : Nat) : Rat) / (c53 : Rat) = q7 at *
    rw [← e3] at q
    have := nonneg_of k53 (d := q7 * 10000 - 7090) (by grind)
    grind
  have o1 : FloatKind.f64.format.order 0 0 = some Ordering.eq := ord_same num_zero_k num_zero_k
  have o2 := ord_same hb one_num
  have o3 := ord_same nH nH
  have o4 := ord_gt nH n7 (re_lt l7)
  have o5 := ord_lt nH n71 (re_lt l71)
  rw [ha] at hT1
  rw [hc] at hT2
  generalize (exW F 1 4).c = xb at *
  generalize (exW F 1 8).a = xd at *
  clear l7 l71 n7 n71 f1 f2 k53 nH iH e1 e2 ec es dc ds z1 z2 z3 d1 d2 ha hb hc hF o38 r38
  go_enter Try.func12, Try.ntmps12
  go_wp2_with fail
  refine (hT1 _).mono ?_; rintro q w1 ⟨rfl, h1⟩
  go_wp2_with fail
  refine (hT2 _).mono ?_; rintro q w2 ⟨rfl, h2⟩
  go_wp2_with fail
  refine (hO _).mono ?_; rintro q w3 ⟨rfl, rfl⟩
  go_wp2
  go_ret
  exact ⟨rfl, h1.trans h2⟩
end Go.Proofs.Ytpifkjmdcbieoaa

/- TrigOctants' walk. -/
namespace Go.Proofs.Ytpifkjmdcbieoaa
open Go.RowKit

theorem oct_pair (k m : Int) : ∃ o r : Int, (∀ w, Calls Try.prog 10 #[.int .i64 k, .int .i64 m] w fun q w' => q = .returned (.tuple #[.int .i64 o, .int .i64 r]) ∧ w = w') ∧
    (∀ w, Calls Try.prog 11 #[.int .i64 k, .int .i64 m] w fun q w' => q = .returned (.tuple #[.int .i64 o, .int .i64 r]) ∧ w = w') := by
  by_cases h : 1 ≤ m ∧ m ≤ 1099511627776
  · exact ⟨_, _, fun w => loct_any k m w h, fun w => roct_any k m w h⟩
  · exact ⟨_, _, fun w => loct_bad k m w h, fun w => roct_bad k m w h⟩
set_option maxHeartbeats 2000000 in
theorem octants0 (k n : Int) (w : World) (hn : -9223372036854775808 ≤ n ∧ n < 9223372036854775808) :
    Calls Try.prog 3 #[.int .i64 k, .int .i64 n] w fun e w' => e = .returned (.bool true) ∧ Bel w w' := by
  have hp := fun w => parts5_any n 1099511627776 w hn (by decide)
  obtain ⟨m, hm⟩ : ∃ m, m = partsN n 1099511627776 := ⟨_, rfl⟩
  rw [← hm] at hp
  obtain ⟨o1, r1, L1, R1⟩ := oct_pair k n
  obtain ⟨o2, r2, L2, R2⟩ := oct_pair k m
  have hwk := wakes_said
  clear hm hn
  go_enter Try.func3, Try.ntmps3
  go_wp2_with fail
  refine (hp _).mono ?_; rintro r w1 ⟨rfl, rfl⟩
  go_wp2_with fail
  obtain ⟨w2, hw2⟩ : ∃ w2, w2 = w.alloc (.cells #[.int .i64 n, .int .i64 m] 2) := ⟨_, rfl⟩
  have c0 : w2.cell? ⟨w.heap.size, 0, none⟩ = some (.int .i64 n) := by rw [hw2, World.cell?_alloc_new]; rfl
  have c1 : w2.cell? ⟨w.heap.size, 1, none⟩ = some (.int .i64 m) := by rw [hw2, World.cell?_alloc_new]; rfl
  have hB : Bel w w2 := by rw [hw2]; exact (Bel.refl w).alloc _
  rw [← hw2]
  obtain ⟨A, hA⟩ : ∃ A, A = w.heap.size := ⟨_, rfl⟩
  rw [← hA] at c0 c1 ⊢
  clear hw2 hA hp
  go_loopw [16] (fun v wr => ∃ i : Nat, i ≤ 2 ∧ v = .int .i64 (i : Int) ∧ wr = w2) (fun v _ => (2 - intOf v).toNat)
  case atStart => exact ⟨0, by omega, by simp, rfl⟩
  case round =>
    obtain ⟨i, hi, rfl, rfl⟩ := hrel
    have hi3 : i = 0 ∨ i = 1 ∨ i = 2 := by omega
    rcases hi3 with rfl | rfl | rfl
    · have e1 : (o1 != o1) = false := by simp
      have e2 : (r1 != r1) = false := by simp
      have ez : ((0 : Nat) : Int) = 0 := rfl
      rw [ez]
      go_wp2_with fail
      refine (L1 _).mono ?_; rintro q w3 ⟨rfl, rfl⟩
      go_wp2_with fail
      refine (R1 _).mono ?_; rintro q w3 ⟨rfl, rfl⟩
      go_wp2
      go_roundw
      case rel => exact ⟨1, by omega, by simp, trivial⟩
      case measure => simp [intOf]
    · have e1 : (o2 != o2) = false := by simp
      have e2 : (r2 != r2) = false := by simp
      have ez : ((1 : Nat) : Int) = 1 := rfl
      rw [ez]
      go_wp2_with fail
      refine (L2 _).mono ?_; rintro q w3 ⟨rfl, rfl⟩
      go_wp2_with fail
      refine (R2 _).mono ?_; rintro q w3 ⟨rfl, rfl⟩
      go_wp2
      go_roundw
      case rel => exact ⟨2, by omega, by simp, trivial⟩
      case measure => simp [intOf]
    · have ez : ((2 : Nat) : Int) = 2 := rfl
      rw [ez]
      go_wp2_with fail
      refine (hwk _).mono ?_; rintro q w3 ⟨rfl, g3⟩
      go_wp2
      go_ret
      exact ⟨rfl, hB.trans g3⟩
end Go.Proofs.Ytpifkjmdcbieoaa

/- Arguments of any types read behind a call that turns nothing old as they did; a slice of integers that came in. Over any program. -/
namespace Go.Proofs.Ytpifkjmdcbieoaa
open Go.RowKit Go.ChangeShapes Go.WideShapes Go.ChangeAt

section
variable {H : Type} {enc : TypeId × Value → H} {P : Program}
/-- every argument reads as it did -/
theorem trodAll_keep (hl : laidOutB P = true) {W W' : World} (hb : Bel W W') {sp : Nat → Bool} :
    ∀ {ts : List TypeId} {vs : List Value} {ds : List (DataW H)} {ps : List MemPlace}, (ts.all fun t => P.readableRec t && decide (t < P.types.size)) = true → DataW.TrodAll enc P W 0 (fun _ => true) true ts vs ds ps → (∀ p ∈ ps, p.block < W.heap.size) → (∀ p ∈ ps, sp p.block = true) → DataW.TrodAll enc P W' 0 sp true ts vs ds ps
  | [], vs, ds, ps, _, h, _, _ => by
    obtain ⟨rfl, rfl, rfl⟩ := trodAll_nil h
    exact trodAll_mk0
  | t :: ts, vs, ds, ps, ht, h, hlt, hsp => by
    obtain ⟨v, vs', d, ds', p, q, rfl, rfl, rfl, h1, h2⟩ := trodAll_cons h
    simp only [List.all_cons, Bool.and_eq_true, decide_eq_true_eq] at ht
    refine trodAll_cons_mk (WideElems.Trod_stays hl ht.1.1 ht.1.2 h1 (fun x hx => ?_) (fun x hx => hsp x (List.mem_append_left _ hx))) (trodAll_keep hl hb (by simpa using ht.2) h2 (fun x hx => hlt x (List.mem_append_right _ hx)) fun x hx => hsp x (List.mem_append_right _ hx))
    exact Below.same hb (hlt x (List.mem_append_left _ hx))
end

/-- a slice of integers as a call reads it -/
inductive IRow (w : World) : Value → List Int → Prop
  | nil : IRow w (.slice none 0 0) []
  | none (a : Addr) (cap : Nat) : IRow w (.slice (some a) 0 cap) []
  | some (b off cap : Nat) (zs : List Int) (h0 : 0 < zs.length) (hc : zs.length ≤ cap) (hm : cap ≤ maxLen) (hb : b < w.heap.size) (hcell : ∀ (i : Nat) z, zs[i]? = Option.some z → w.cell? ⟨b, off + i, Option.none⟩ = Option.some (.int .i64 z)) : IRow w (.slice (Option.some ⟨b, off, Option.none⟩) zs.length cap) zs
theorem open_irow {H : Type} {enc : TypeId × Value → H} {P : Program} {w : World} {t e : TypeId} {v : Value} {d : DataW H} {ps : List MemPlace} {r : Reach} {b0 : Nat} (ht : P.underlying t = some (.slice e)) (he : P.underlying e = some (.int .i64)) (hc : P.cellsOf e = 1)
    (hval : Value.okWide P w r b0 t v) (h : DataW.Trod enc P w 0 (fun _ => true) true t v d ps) : ∃ zs, IRow w v zs ∧ ∀ z ∈ zs, (Lit.int .i64 z).wf = true := by
  obtain ⟨a0, len, cap, rfl⟩ := okWide_slice ht hval
  obtain ⟨fuel, hf⟩ := h
  rcases open_ints ht he hc hf with ⟨hcs, hx⟩ | ⟨a, len', cap', zs, hcs, _, hle, hmax, hall, hx, hcell, hwz⟩
  · simp [Value.cells] at hcs
    obtain ⟨rfl, rfl, rfl⟩ := hcs
    exact ⟨[], .nil, fun z hz => by cases hz⟩
  · simp [Value.cells] at hcs
    obtain ⟨rfl, rfl, rfl⟩ := hcs
    simp only [if_true] at hall
    by_cases h0 : len = 0
    · subst h0
      exact ⟨[], .none a cap, fun z hz => by cases hz⟩
    · obtain ⟨b, off, rfl, hcb⟩ := ints_at hcell (by omega)
      have hlen : (zs.take len).length = len := by rw [List.length_take]; omega
      refine ⟨zs.take len, ?_, fun z hz => hwz z (List.mem_of_mem_take hz)⟩
      have hb : b < w.heap.size := World.block_lt_of_cell? w _ (hcb 0 (by omega))
      have := IRow.some (w := w) b off cap (zs.take len) (by omega) (by omega) hmax hb (fun i z hz => by
        have hi := (List.getElem?_eq_some_iff.1 hz).1
        rw [hlen] at hi
        rw [hcb i (by omega)]
        rw [List.getElem?_take, if_pos hi] at hz
        simp [List.getD, hz])
      rw [hlen] at this
      exact this
end Go.Proofs.Ytpifkjmdcbieoaa

/- Two numbers of two floats compared. -/
namespace Go.Proofs.Ytpifkjmdcbieoaa
open Go.RowKit

theorem run_equalIn_float {P : Program} (w : World) (d : Nat) (t : TypeId) (k' : FloatKind) (a b : Nat) (h : P.underlying t = some (.float k')) : (Op.equalIn (d + 1) t (.float .f64 a) (.float .f64 b)).run P w = .ok (FloatKind.f64.format.order a b == some .eq) w := by
  simp [Op.equalIn, run_underlying h, Op.floatEq]
theorem dd_fields : Try.prog.underlying 30 = some (.struct (Try.prog.fieldsOf 30)) := by kernel_rfl
theorem dd_held : Try.prog.stoodInHeld 30 = false := by kernel_rfl
theorem dd_list : (Try.prog.fieldsOf 30).toList.map (fun f => (f.name, f.type, f.offset)) = [("Hi", 28, 0), ("Lo", 28, 1)] := by kernel_rfl
theorem part_0 (a b : Nat) (w : World) : (part 28 #[.float .f64 a, .float .f64 b] 0).run Try.prog w = .ok (.float .f64 a) w := by kernel_rfl
theorem part_1 (a b : Nat) (w : World) : (part 28 #[.float .f64 a, .float .f64 b] 1).run Try.prog w = .ok (.float .f64 b) w := by kernel_rfl
theorem run_neq_dd {a b c d : Nat} (h1 : FloatKind.f64.format.order a c = some .eq) (h2 : FloatKind.f64.format.order b d = some .eq) (w : World) :
    (binOp .neq 30 (.agg #[.float .f64 a, .float .f64 b]) (.agg #[.float .f64 c, .float .f64 d])).run Try.prog w = .ok (.bool false) w := by
  rw [run_neq_struct, run_equalIn_agg w 9999 _ _ _ dd_fields dd_held]
  obtain ⟨l, hl⟩ : ∃ l, l = (Try.prog.fieldsOf 30).toList := ⟨_, rfl⟩
  have hm := dd_list
  rw [← hl] at hm ⊢
  match l, hm with
  | [f0, f1], hm =>
    simp only [List.map_cons, List.map_nil, List.cons.injEq, Prod.mk.injEq, and_true] at hm
    obtain ⟨⟨n0, t0, o0⟩, n1, t1, o1⟩ := hm
    simp [Op.eqFields, n0, n1, t0, t1, o0, o1]
    have q := fun (a b : Nat) (w : World) => run_equalIn_float (P := Try.prog) w 9998 28 .f64 a b Try.underlying28
    simp [part_0, part_1, q, h1, h2]
end Go.Proofs.Ytpifkjmdcbieoaa

/- TrigExact's walk; what Exact, Turn and the wakes answer are its hypotheses. -/
namespace Go.Proofs.Ytpifkjmdcbieoaa
open Go.RowKit

set_option maxHeartbeats 8000000 in
theorem exact0 (ht : ExactSaid) (hz : ZeroSaid5) (hwk : WakesSaid5) (k n : Int) (w : World) (hk : -9223372036854775808 ≤ k ∧ k < 9223372036854775808) (hn : -9223372036854775808 ≤ n ∧ n < 9223372036854775808) :
    Calls Try.prog 4 #[.int .i64 k, .int .i64 n] w fun e w' => e = .returned (.bool true) ∧ Bel w w' := by
  have sf := run_store_float Try.prog
  have hp := fun w => parts5_any n 536870912 w hn (by decide)
  obtain ⟨m, hm⟩ : ∃ m, m = partsN n 536870912 := ⟨_, rfl⟩
  have hr := partsN_range (n := n) (most := 536870912) (by decide)
  rw [← hm] at hp hr
  have hm0 : 0 < m := by omega
  have hT := fun w => ht k m w hk (by omega)
  have hR := fun w => turn_any k m w hr
  have hC := fun (x y : Nat) (H L : Int) hx hy h w => farC (k := k) (n := m) hm0 (e := 1073741824) (j := 31) (by decide) (by decide) (x := x) (y := y) (H := H) (L := L) hx hy h w
  have hS := fun (x y : Nat) (H L : Int) hx hy h w => farS (k := k) (n := m) hm0 (e := 1073741824) (j := 31) (by decide) (by decide) (x := x) (y := y) (H := H) (L := L) hx hy h w
  obtain ⟨vc, hvc⟩ : ∃ vc, vc = fixD (turnC (octO k m) (turnX k m)) := ⟨_, rfl⟩
  obtain ⟨vs, hvs⟩ : ∃ vs, vs = fixD (turnS (octO k m) (turnX k m)) := ⟨_, rfl⟩
  obtain ⟨oa, hoa⟩ : ∃ oa, oa = turnA (octO k m) := ⟨_, rfl⟩
  obtain ⟨ob, hob⟩ : ∃ ob, ob = turnB (octO k m) := ⟨_, rfl⟩
  rw [← hvc, ← hvs, ← hoa, ← hob] at hR
  rw [← hvc, ← hoa] at hC
  rw [← hvs, ← hob] at hS
  have hZ := fun h w => hz k n w h
  clear hvc hvs hoa hob hm hr hm0 hk hz ht
  unfold V5 at hR hC hS
  have o0 : FloatKind.f64.format.order 0 0 = some Ordering.eq := ord_same num_zero_k num_zero_k
  have dq := fun w => run_neq_dd (a := 0) (b := 0) (c := 0) (d := 0) o0 o0 w
  by_cases hg : 1 ≤ n ∧ n ≤ 1099511627776
  · have d3 : decide (n < 1) = false := decide_eq_false (by omega)
    have d4 : decide (1099511627776 < n) = false := decide_eq_false (by omega)
    clear hZ hg hn dq o0
    go_enter Try.func4, Try.ntmps4
    go_wp2_with fail
    refine (hp _).mono ?_; rintro r w0 ⟨rfl, rfl⟩
    go_wp2_with fail
    refine (hT _).mono ?_; rintro r w1 ⟨x, y, u, v, rfl, nc, ns, g1⟩
    go_wp2_with fail
    obtain ⟨wB, hwB⟩ : ∃ wB, wB = (w1.alloc (.cells #[.float .f64 x, .float .f64 y] 30)).alloc (.cells #[.float .f64 u, .float .f64 v] 30) := ⟨_, rfl⟩
    have tx : Two wB w1.heap.size x y := by rw [hwB]; exact (Two.newN _ x y _ _ rfl).al _
    have tu : Two wB (w1.heap.size + 1) u v := by rw [hwB]; exact Two.newN _ u v _ _ (by simp)
    have gB : Bel w1 wB := by rw [hwB]; exact ((Bel.refl _).alloc _).alloc _
    rw [← hwB]
    obtain ⟨B, hBq⟩ : ∃ B, B = w1.heap.size := ⟨_, rfl⟩
    rw [← hBq] at tx tu ⊢
    clear hwB hBq
    refine (hR _).mono ?_; rintro r w2 ⟨rfl, g2⟩
    go_wp2_with fail
    obtain ⟨wA, hwA⟩ : ∃ wA, wA = (w2.alloc (.cells #[.int .i64 (vc 0), .int .i64 (vc 1), .int .i64 (vc 2), .int .i64 (vc 3), .int .i64 (vc 4)] 37)).alloc (.cells #[.int .i64 (vs 0), .int .i64 (vs 1), .int .i64 (vs 2), .int .i64 (vs 3), .int .i64 (vs 4)] 37) := ⟨_, rfl⟩
    rw [← hwA]
    obtain ⟨A, hA⟩ : ∃ A, A = w2.heap.size := ⟨_, rfl⟩
    have tc : CellsAt 5 wA A vc := by rw [hwA]; exact (five_new w2 vc _ A hA).bel ((Bel.refl _).alloc _) (by simp [hA])
    have ts : CellsAt 5 wA (A + 1) vs := by rw [hwA]; exact five_new _ vs _ (A + 1) (by simp [hA])
    have gA : Bel w2 wA := by rw [hwA]; exact ((Bel.refl _).alloc _).alloc _
    rw [← hA]
    clear hwA hA
    obtain ⟨H, L, n1, n2, q1, q2, q3⟩ := nc.ex
    obtain ⟨H', L', n3, n4, q4, q5, q6⟩ := ns.ex
    have F1 := fun w => fine_any x y H L w n1 n2 q1 q2
    have F2 := fun w => fine_any u v H' L' w n3 n4 q4 q5
    have FC := fun w => hC x y H L n1 n2 q3 w
    have FS := fun w => hS u v H' L' n3 n4 q6 w
    clear hC hS n1 n2 n3 n4 q1 q2 q3 q4 q5 q6 nc ns hT hR hp
    refine (hwk _).mono ?_; rintro r w3 ⟨rfl, g3⟩
    have tx3 := ((tx.by g2).by gA).by g3
    have tu3 := ((tu.by g2).by gA).by g3
    have tc3 := tc.bel g3 (tc.lt (by decide))
    have ts3 := ts.bel g3 (ts.lt (by decide))
    have a0 := tx3.c0
    have a1 := tx3.c1
    clear tx tu tc ts hwk
    go_wp2_with fail
    refine (F1 _).mono ?_; rintro r w4 ⟨rfl, g4⟩
    have tx4 := tx3.by g4
    have tu4 := tu3.by g4
    have tc4 := tc3.bel g4 (tc3.lt (by decide))
    have ts4 := ts3.bel g4 (ts3.lt (by decide))
    clear a0 a1 tx3 tu3 tc3 ts3
    have a0 := tu4.c0
    have a1 := tu4.c1
    go_wp2_with fail
    refine (F2 _).mono ?_; rintro r w5 ⟨rfl, g5⟩
    have tx5 := tx4.by g5
    have tu5 := tu4.by g5
    have tc5 := tc4.bel g5 (tc4.lt (by decide))
    have ts5 := ts4.bel g5 (ts4.lt (by decide))
    clear a0 a1 tx4 tu4 tc4 ts4
    have a0 := tx5.c0
    have a1 := tx5.c1
    obtain ⟨c0, _⟩ := tc5 0 (by decide)
    obtain ⟨c1, _⟩ := tc5 1 (by decide)
    obtain ⟨c2, _⟩ := tc5 2 (by decide)
    obtain ⟨c3, _⟩ := tc5 3 (by decide)
    obtain ⟨c4, _⟩ := tc5 4 (by decide)
    go_wp2_with fail
    refine (FC _).mono ?_; rintro r w6 ⟨s, rfl, s1, s0, g6⟩
    have tu6 := tu5.by g6
    have ts6 := ts5.bel g6 (ts5.lt (by decide))
    clear a0 a1 c0 c1 c2 c3 c4 tx5 tu5 tc5 ts5
    have a0 := tu6.c0
    have a1 := tu6.c1
    obtain ⟨c0, _⟩ := ts6 0 (by decide)
    obtain ⟨c1, _⟩ := ts6 1 (by decide)
    obtain ⟨c2, _⟩ := ts6 2 (by decide)
    obtain ⟨c3, _⟩ := ts6 3 (by decide)
    obtain ⟨c4, _⟩ := ts6 4 (by decide)
    have d1 : decide (s ≤ -89) = true := decide_eq_true (by omega)
    go_wp2_with fail
    refine (FS _).mono ?_; rintro r w7 ⟨s', rfl, s1', s0', g7⟩
    have d2 : decide (s' ≤ -89) = true := decide_eq_true (by omega)
    have G := (g1.trans (gB.trans (g2.trans (gA.trans (g3.trans (g4.trans (g5.trans (g6.trans g7))))))))
    clear a0 a1 c0 c1 c2 c3 c4 tu6 ts6
    go_wp2
    go_ret
    exact ⟨rfl, G⟩
  · obtain ⟨Z1, Z2⟩ : (∀ w, Calls Try.prog 13 #[.int .i64 k, .int .i64 n] w (fun r w' => r = .returned (.tuple #[.agg #[.float .f64 0, .float .f64 0], .agg #[.float .f64 0, .float .f64 0]]) ∧ Bel w w')) ∧ (∀ w, Calls Try.prog 14 #[.int .i64 k, .int .i64 n] w (fun r w' => r = .returned (.tuple #[.float .f64 0, .float .f64 0]) ∧ Bel w w')) := ⟨fun w => (hZ hg w).1, fun w => (hZ hg w).2⟩
    clear hZ
    rcases (show (n < 1 ∨ 1099511627776 < n) by omega) with hlt | hlt
    · have d3 : decide (n < 1) = true := decide_eq_true hlt
      clear hn hlt hg
      go_enter Try.func4, Try.ntmps4
      go_wp2_with fail
      refine (Z1 _).mono ?_; rintro r wz ⟨rfl, gz⟩
      go_wp2_with fail
      obtain ⟨wY, hwY⟩ : ∃ wY, wY = (wz.alloc (.cells #[.float .f64 0, .float .f64 0] 30)).alloc (.cells #[.float .f64 0, .float .f64 0] 30) := ⟨_, rfl⟩
      have yx : Two wY wz.heap.size 0 0 := by rw [hwY]; exact (Two.newN _ 0 0 _ _ rfl).al _
      have yu : Two wY (wz.heap.size + 1) 0 0 := by rw [hwY]; exact Two.newN _ 0 0 _ _ (by simp)
      have gY : Bel wz wY := by rw [hwY]; exact ((Bel.refl _).alloc _).alloc _
      rw [← hwY]
      obtain ⟨Y, hYq⟩ : ∃ Y, Y = wz.heap.size := ⟨_, rfl⟩
      rw [← hYq] at yx yu ⊢
      clear hwY hYq
      refine (Z2 _).mono ?_; rintro r wx ⟨rfl, gx⟩
      have gz := gz.trans (gY.trans gx)
      have yx := yx.by gx
      have yu := yu.by gx
      have b0 := yx.c0
      have b1 := yx.c1
      have b2 := yu.c0
      have b3 := yu.c1
      clear yx yu gY gx Z1 Z2
      go_wp2_with fail
      refine (hp _).mono ?_; rintro r w0 ⟨rfl, rfl⟩
      go_wp2_with fail
      refine (hT _).mono ?_; rintro r w1 ⟨x, y, u, v, rfl, nc, ns, g1⟩
      go_wp2_with fail
      obtain ⟨wB, hwB⟩ : ∃ wB, wB = (w1.alloc (.cells #[.float .f64 x, .float .f64 y] 30)).alloc (.cells #[.float .f64 u, .float .f64 v] 30) := ⟨_, rfl⟩
      have tx : Two wB w1.heap.size x y := by rw [hwB]; exact (Two.newN _ x y _ _ rfl).al _
      have tu : Two wB (w1.heap.size + 1) u v := by rw [hwB]; exact Two.newN _ u v _ _ (by simp)
      have gB : Bel w1 wB := by rw [hwB]; exact ((Bel.refl _).alloc _).alloc _
      rw [← hwB]
      obtain ⟨B, hBq⟩ : ∃ B, B = w1.heap.size := ⟨_, rfl⟩
      rw [← hBq] at tx tu ⊢
      clear hwB hBq
      refine (hR _).mono ?_; rintro r w2 ⟨rfl, g2⟩
      go_wp2_with fail
      obtain ⟨wA, hwA⟩ : ∃ wA, wA = (w2.alloc (.cells #[.int .i64 (vc 0), .int .i64 (vc 1), .int .i64 (vc 2), .int .i64 (vc 3), .int .i64 (vc 4)] 37)).alloc (.cells #[.int .i64 (vs 0), .int .i64 (vs 1), .int .i64 (vs 2), .int .i64 (vs 3), .int .i64 (vs 4)] 37) := ⟨_, rfl⟩
      rw [← hwA]
      obtain ⟨A, hA⟩ : ∃ A, A = w2.heap.size := ⟨_, rfl⟩
      have tc : CellsAt 5 wA A vc := by rw [hwA]; exact (five_new w2 vc _ A hA).bel ((Bel.refl _).alloc _) (by simp [hA])
      have ts : CellsAt 5 wA (A + 1) vs := by rw [hwA]; exact five_new _ vs _ (A + 1) (by simp [hA])
      have gA : Bel w2 wA := by rw [hwA]; exact ((Bel.refl _).alloc _).alloc _
      rw [← hA]
      clear hwA hA
      obtain ⟨H, L, n1, n2, q1, q2, q3⟩ := nc.ex
      obtain ⟨H', L', n3, n4, q4, q5, q6⟩ := ns.ex
      have F1 := fun w => fine_any x y H L w n1 n2 q1 q2
      have F2 := fun w => fine_any u v H' L' w n3 n4 q4 q5
      have FC := fun w => hC x y H L n1 n2 q3 w
      have FS := fun w => hS u v H' L' n3 n4 q6 w
      clear hC hS n1 n2 n3 n4 q1 q2 q3 q4 q5 q6 nc ns hT hR hp
      refine (hwk _).mono ?_; rintro r w3 ⟨rfl, g3⟩
      have tx3 := ((tx.by g2).by gA).by g3
      have tu3 := ((tu.by g2).by gA).by g3
      have tc3 := tc.bel g3 (tc.lt (by decide))
      have ts3 := ts.bel g3 (ts.lt (by decide))
      have a0 := tx3.c0
      have a1 := tx3.c1
      clear tx tu tc ts hwk
      go_wp2_with fail
      refine (F1 _).mono ?_; rintro r w4 ⟨rfl, g4⟩
      have tx4 := tx3.by g4
      have tu4 := tu3.by g4
      have tc4 := tc3.bel g4 (tc3.lt (by decide))
      have ts4 := ts3.bel g4 (ts3.lt (by decide))
      clear a0 a1 tx3 tu3 tc3 ts3
      have a0 := tu4.c0
      have a1 := tu4.c1
      go_wp2_with fail
      refine (F2 _).mono ?_; rintro r w5 ⟨rfl, g5⟩
      have tx5 := tx4.by g5
      have tu5 := tu4.by g5
      have tc5 := tc4.bel g5 (tc4.lt (by decide))
      have ts5 := ts4.bel g5 (ts4.lt (by decide))
      clear a0 a1 tx4 tu4 tc4 ts4
      have a0 := tx5.c0
      have a1 := tx5.c1
      obtain ⟨c0, _⟩ := tc5 0 (by decide)
      obtain ⟨c1, _⟩ := tc5 1 (by decide)
      obtain ⟨c2, _⟩ := tc5 2 (by decide)
      obtain ⟨c3, _⟩ := tc5 3 (by decide)
      obtain ⟨c4, _⟩ := tc5 4 (by decide)
      go_wp2_with fail
      refine (FC _).mono ?_; rintro r w6 ⟨s, rfl, s1, s0, g6⟩
      have tu6 := tu5.by g6
      have ts6 := ts5.bel g6 (ts5.lt (by decide))
      clear a0 a1 c0 c1 c2 c3 c4 tx5 tu5 tc5 ts5
      have a0 := tu6.c0
      have a1 := tu6.c1
      obtain ⟨c0, _⟩ := ts6 0 (by decide)
      obtain ⟨c1, _⟩ := ts6 1 (by decide)
      obtain ⟨c2, _⟩ := ts6 2 (by decide)
      obtain ⟨c3, _⟩ := ts6 3 (by decide)
      obtain ⟨c4, _⟩ := ts6 4 (by decide)
      have d1 : decide (s ≤ -89) = true := decide_eq_true (by omega)
      go_wp2_with fail
      refine (FS _).mono ?_; rintro r w7 ⟨s', rfl, s1', s0', g7⟩
      have d2 : decide (s' ≤ -89) = true := decide_eq_true (by omega)
      have G := gz.trans (g1.trans (gB.trans (g2.trans (gA.trans (g3.trans (g4.trans (g5.trans (g6.trans g7))))))))
      clear a0 a1 c0 c1 c2 c3 c4 tu6 ts6
      go_wp2
      go_ret
      exact ⟨rfl, G⟩
    · have d3 : decide (n < 1) = false := decide_eq_false (by omega)
      have d4 : decide (1099511627776 < n) = true := decide_eq_true hlt
      clear hn hlt hg
      go_enter Try.func4, Try.ntmps4
      go_wp2_with fail
      refine (Z1 _).mono ?_; rintro r wz ⟨rfl, gz⟩
      go_wp2_with fail
      obtain ⟨wY, hwY⟩ : ∃ wY, wY = (wz.alloc (.cells #[.float .f64 0, .float .f64 0] 30)).alloc (.cells #[.float .f64 0, .float .f64 0] 30) := ⟨_, rfl⟩
      have yx : Two wY wz.heap.size 0 0 := by rw [hwY]; exact (Two.newN _ 0 0 _ _ rfl).al _
      have yu : Two wY (wz.heap.size + 1) 0 0 := by rw [hwY]; exact Two.newN _ 0 0 _ _ (by simp)
      have gY : Bel wz wY := by rw [hwY]; exact ((Bel.refl _).alloc _).alloc _
      rw [← hwY]
      obtain ⟨Y, hYq⟩ : ∃ Y, Y = wz.heap.size := ⟨_, rfl⟩
      rw [← hYq] at yx yu ⊢
      clear hwY hYq
      refine (Z2 _).mono ?_; rintro r wx ⟨rfl, gx⟩
      have gz := gz.trans (gY.trans gx)
      have yx := yx.by gx
      have yu := yu.by gx
      have b0 := yx.c0
      have b1 := yx.c1
      have b2 := yu.c0
      have b3 := yu.c1
      clear yx yu gY gx Z1 Z2
      go_wp2_with fail
      refine (hp _).mono ?_; rintro r w0 ⟨rfl, rfl⟩
      go_wp2_with fail
      refine (hT _).mono ?_; rintro r w1 ⟨x, y, u, v, rfl, nc, ns, g1⟩
      go_wp2_with fail
      obtain ⟨wB, hwB⟩ : ∃ wB, wB = (w1.alloc (.cells #[.float .f64 x, .float .f64 y] 30)).alloc (.cells #[.float .f64 u, .float .f64 v] 30) := ⟨_, rfl⟩
      have tx : Two wB w1.heap.size x y := by rw [hwB]; exact (Two.newN _ x y _ _ rfl).al _
      have tu : Two wB (w1.heap.size + 1) u v := by rw [hwB]; exact Two.newN _ u v _ _ (by simp)
      have gB : Bel w1 wB := by rw [hwB]; exact ((Bel.refl _).alloc _).alloc _
      rw [← hwB]
      obtain ⟨B, hBq⟩ : ∃ B, B = w1.heap.size := ⟨_, rfl⟩
      rw [← hBq] at tx tu ⊢
      clear hwB hBq
      refine (hR _).mono ?_; rintro r w2 ⟨rfl, g2⟩
      go_wp2_with fail
      obtain ⟨wA, hwA⟩ : ∃ wA, wA = (w2.alloc (.cells #[.int .i64 (vc 0), .int .i64 (vc 1), .int .i64 (vc 2), .int .i64 (vc 3), .int .i64 (vc 4)] 37)).alloc (.cells #[.int .i64 (vs 0), .int .i64 (vs 1), .int .i64 (vs 2), .int .i64 (vs 3), .int .i64 (vs 4)] 37) := ⟨_, rfl⟩
      rw [← hwA]
      obtain ⟨A, hA⟩ : ∃ A, A = w2.heap.size := ⟨_, rfl⟩
      have tc : CellsAt 5 wA A vc := by rw [hwA]; exact (five_new w2 vc _ A hA).bel ((Bel.refl _).alloc _) (by simp [hA])
      have ts : CellsAt 5 wA (A + 1) vs := by rw [hwA]; exact five_new _ vs _ (A + 1) (by simp [hA])
      have gA : Bel w2 wA := by rw [hwA]; exact ((Bel.refl _).alloc _).alloc _
      rw [← hA]
      clear hwA hA
      obtain ⟨H, L, n1, n2, q1, q2, q3⟩ := nc.ex
      obtain ⟨H', L', n3, n4, q4, q5, q6⟩ := ns.ex
      have F1 := fun w => fine_any x y H L w n1 n2 q1 q2
      have F2 := fun w => fine_any u v H' L' w n3 n4 q4 q5
      have FC := fun w => hC x y H L n1 n2 q3 w
      have FS := fun w => hS u v H' L' n3 n4 q6 w
      clear hC hS n1 n2 n3 n4 q1 q2 q3 q4 q5 q6 nc ns hT hR hp
      refine (hwk _).mono ?_; rintro r w3 ⟨rfl, g3⟩
      have tx3 := ((tx.by g2).by gA).by g3
      have tu3 := ((tu.by g2).by gA).by g3
      have tc3 := tc.bel g3 (tc.lt (by decide))
      have ts3 := ts.bel g3 (ts.lt (by decide))
      have a0 := tx3.c0
      have a1 := tx3.c1
      clear tx tu tc ts hwk
      go_wp2_with fail
      refine (F1 _).mono ?_; rintro r w4 ⟨rfl, g4⟩
      have tx4 := tx3.by g4
      have tu4 := tu3.by g4
      have tc4 := tc3.bel g4 (tc3.lt (by decide))
      have ts4 := ts3.bel g4 (ts3.lt (by decide))
      clear a0 a1 tx3 tu3 tc3 ts3
      have a0 := tu4.c0
      have a1 := tu4.c1
      go_wp2_with fail
      refine (F2 _).mono ?_; rintro r w5 ⟨rfl, g5⟩
      have tx5 := tx4.by g5
      have tu5 := tu4.by g5
      have tc5 := tc4.bel g5 (tc4.lt (by decide))
      have ts5 := ts4.bel g5 (ts4.lt (by decide))
      clear a0 a1 tx4 tu4 tc4 ts4
      have a0 := tx5.c0
      have a1 := tx5.c1
      obtain ⟨c0, _⟩ := tc5 0 (by decide)
      obtain ⟨c1, _⟩ := tc5 1 (by decide)
      obtain ⟨c2, _⟩ := tc5 2 (by decide)
      obtain ⟨c3, _⟩ := tc5 3 (by decide)
      obtain ⟨c4, _⟩ := tc5 4 (by decide)
      go_wp2_with fail
      refine (FC _).mono ?_; rintro r w6 ⟨s, rfl, s1, s0, g6⟩
      have tu6 := tu5.by g6
      have ts6 := ts5.bel g6 (ts5.lt (by decide))
      clear a0 a1 c0 c1 c2 c3 c4 tx5 tu5 tc5 ts5
      have a0 := tu6.c0
      have a1 := tu6.c1
      obtain ⟨c0, _⟩ := ts6 0 (by decide)
      obtain ⟨c1, _⟩ := ts6 1 (by decide)
      obtain ⟨c2, _⟩ := ts6 2 (by decide)
      obtain ⟨c3, _⟩ := ts6 3 (by decide)
      obtain ⟨c4, _⟩ := ts6 4 (by decide)
      have d1 : decide (s ≤ -89) = true := decide_eq_true (by omega)
      go_wp2_with fail
      refine (FS _).mono ?_; rintro r w7 ⟨s', rfl, s1', s0', g7⟩
      have d2 : decide (s' ≤ -89) = true := decide_eq_true (by omega)
      have G := gz.trans (g1.trans (gB.trans (g2.trans (gA.trans (g3.trans (g4.trans (g5.trans (g6.trans g7))))))))
      clear a0 a1 c0 c1 c2 c3 c4 tu6 ts6
      go_wp2
      go_ret
      exact ⟨rfl, G⟩
end Go.Proofs.Ytpifkjmdcbieoaa

/- TrigTurns' walk; what Turn and the wakes answer are its hypotheses. -/
namespace Go.Proofs.Ytpifkjmdcbieoaa
open Go.RowKit

set_option maxHeartbeats 4000000 in
theorem turns0 (ht : TurnSaid) (hwk : WakesSaid5) (k n : Int) (w : World) (hk : -9223372036854775808 ≤ k ∧ k < 9223372036854775808) (hn : -9223372036854775808 ≤ n ∧ n < 9223372036854775808) :
    Calls Try.prog 5 #[.int .i64 k, .int .i64 n] w fun e w' => e = .returned (.bool true) ∧ Bel w w' := by
  have hp := fun w => parts5_any n 536870912 w hn (by decide)
  obtain ⟨m, hm⟩ : ∃ m, m = partsN n 536870912 := ⟨_, rfl⟩
  have hr := partsN_range (n := n) (most := 536870912) (by decide)
  rw [← hm] at hp hr
  have hm0 : 0 < m := by omega
  have hT := fun w => ht k m w hk (by omega)
  have hR := fun w => turn_any k m w hr
  have hC := fun (x y : Nat) (H L : Int) hx hy h w => farC (k := k) (n := m) hm0 (e := 147573952589676412928 + 1099511627776) (j := 68) (by decide) (by decide) (x := x) (y := y) (H := H) (L := L) hx hy h w
  have hS := fun (x y : Nat) (H L : Int) hx hy h w => farS (k := k) (n := m) hm0 (e := 147573952589676412928 + 1099511627776) (j := 68) (by decide) (by decide) (x := x) (y := y) (H := H) (L := L) hx hy h w
  obtain ⟨vc, hvc⟩ : ∃ vc, vc = fixD (turnC (octO k m) (turnX k m)) := ⟨_, rfl⟩
  obtain ⟨vs, hvs⟩ : ∃ vs, vs = fixD (turnS (octO k m) (turnX k m)) := ⟨_, rfl⟩
  obtain ⟨oa, hoa⟩ : ∃ oa, oa = turnA (octO k m) := ⟨_, rfl⟩
  obtain ⟨ob, hob⟩ : ∃ ob, ob = turnB (octO k m) := ⟨_, rfl⟩
  rw [← hvc, ← hvs, ← hoa, ← hob] at hR
  rw [← hvc, ← hoa] at hC
  rw [← hvs, ← hob] at hS
  clear hvc hvs hoa hob hm hr hm0 hk hn
  unfold V5 at hR hC hS
  go_enter Try.func5, Try.ntmps5
  go_wp2_with fail
  refine (hp _).mono ?_; rintro r w1 ⟨rfl, rfl⟩
  go_wp2_with fail
  refine (hT _).mono ?_; rintro r w1 ⟨x, y, H, L, rfl, nx, ny, ix, iy, g1⟩
  go_wp2_with fail
  refine (hR _).mono ?_; rintro r w2 ⟨rfl, g2⟩
  go_wp2_with fail
  obtain ⟨wA, hwA⟩ : ∃ wA, wA = (w2.alloc (.cells #[.int .i64 (vc 0), .int .i64 (vc 1), .int .i64 (vc 2), .int .i64 (vc 3), .int .i64 (vc 4)] 37)).alloc (.cells #[.int .i64 (vs 0), .int .i64 (vs 1), .int .i64 (vs 2), .int .i64 (vs 3), .int .i64 (vs 4)] 37) := ⟨_, rfl⟩
  rw [← hwA]
  obtain ⟨A, hA⟩ : ∃ A, A = w2.heap.size := ⟨_, rfl⟩
  have tc : CellsAt 5 wA A vc := by rw [hwA]; exact (five_new w2 vc _ A hA).bel ((Bel.refl _).alloc _) (by simp [hA])
  have ts : CellsAt 5 wA (A + 1) vs := by rw [hwA]; exact five_new _ vs _ (A + 1) (by simp [hA])
  have gA : Bel w2 wA := by rw [hwA]; exact ((Bel.refl _).alloc _).alloc _
  rw [← hA]
  clear hwA hA
  refine (hwk _).mono ?_; rintro r w3 ⟨rfl, g3⟩
  have tc3 := tc.bel g3 (tc.lt (by decide))
  obtain ⟨c0, _⟩ := tc3 0 (by decide)
  obtain ⟨c1, _⟩ := tc3 1 (by decide)
  obtain ⟨c2, _⟩ := tc3 2 (by decide)
  obtain ⟨c3, _⟩ := tc3 3 (by decide)
  obtain ⟨c4, _⟩ := tc3 4 (by decide)
  have f1 := fun w => finite_any x w
  have f2 := fun w => finite_any y w
  rw [decide_eq_true nx.fin] at f1
  rw [decide_eq_true ny.fin] at f2
  have FC := fun w => hC x 0 H 0 nx num_zero_k (by rw [Int.add_zero]; exact ix) w
  have FS := fun w => hS y 0 L 0 ny num_zero_k (by rw [Int.add_zero]; exact iy) w
  clear hC hS ix iy nx ny hT hR hwk hp
  go_wp2_with fail
  refine (f1 _).mono ?_; rintro r w4 ⟨rfl, rfl⟩
  go_wp2_with fail
  refine (f2 _).mono ?_; rintro r w4 ⟨rfl, rfl⟩
  go_wp2_with fail
  refine (FC _).mono ?_; rintro r w4 ⟨s, rfl, s1, s0, g4⟩
  have ts4 := (ts.bel g3 (ts.lt (by decide))).bel g4 (ts.bel g3 (ts.lt (by decide)) |>.lt (by decide))
  clear c0 c1 c2 c3 c4
  obtain ⟨c0, _⟩ := ts4 0 (by decide)
  obtain ⟨c1, _⟩ := ts4 1 (by decide)
  obtain ⟨c2, _⟩ := ts4 2 (by decide)
  obtain ⟨c3, _⟩ := ts4 3 (by decide)
  obtain ⟨c4, _⟩ := ts4 4 (by decide)
  have d1 : decide (s ≤ -52) = true := decide_eq_true (by omega)
  go_wp2_with fail
  refine (FS _).mono ?_; rintro r w5 ⟨s', rfl, s1', s0', g5⟩
  have d2 : decide (s' ≤ -52) = true := decide_eq_true (by omega)
  have G := ((((g1.trans g2).trans gA).trans g3).trans g4).trans g5
  clear c0 c1 c2 c3 c4
  go_wp2
  go_ret
  exact ⟨rfl, G⟩
end Go.Proofs.Ytpifkjmdcbieoaa
