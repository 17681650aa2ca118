/- The landed Parts: a list of numbers as two new lists of floats. -/
import Derived.Test.YtnclnbbnkfolgaaPartsR6
import Derived.Deep.DeepCutAuto
namespace Go.Proofs.Ytnclnbbnkfolgaa
open Go.RowKit

set_option maxHeartbeats 2000000 in
theorem parts_run (g n c : Nat) (C : Nat → Nat × Nat) (w : World) (hg : g < w.heap.size) (hC : CArr w g n C) (hn : n * 16 ≤ 281474976710656) :
    Calls Try.prog 23 #[.slice (some ⟨g, 0, none⟩) n c] w fun r w' => ∃ P Q, r = .returned (.tuple #[sl6 P n, sl6 Q n]) ∧ w.heap.size ≤ P ∧ w.heap.size ≤ Q ∧ P ≠ Q ∧ P < w'.heap.size ∧ Q < w'.heap.size ∧ FArr w' P n (fun j => (C j).1) ∧ FArr w' Q n (fun j => (C j).2) ∧ Bel w w' := by
  have sf := run_store_float Try.prog
  have h63 : (n : Int) ≤ 9223372036854775807 := by omega
  go_enter Try.func23, Try.ntmps23
  go_upto_region 1 with fail
  refine parts_reg1 _ g n c ⟨_, rfl, rfl, rfl, rfl⟩ ⟨_, rfl, rfl, rfl, rfl⟩ ⟨_, rfl, rfl, rfl, rfl⟩ ⟨_, rfl, rfl, rfl, rfl⟩ ⟨_, rfl, rfl, rfl, rfl⟩ ⟨_, rfl, rfl, rfl, rfl⟩ ⟨_, rfl, rfl, rfl, rfl⟩ ⟨_, rfl, rfl, rfl, rfl⟩ rfl (by decide +kernel) rfl rfl hn ?_
  intro f w1 P Q b1 f2 f3 hP hQ hPQ lP lQ tP tQ
  unfold actOf
  simp only [List.mapIdx_toArray, List.mapIdx_cons, List.mapIdx_nil, List.mem_cons, List.mem_nil_iff, Nat.reduceEqDiff, Nat.reduceAdd, or_false, or_true, if_true, if_false, f2, f3]
  clear f2 f3
  go_wp2
  go_loopw [4, 5, 14] (fun _ _ a wr => ∃ (i : Nat) (F E : Nat → Nat), i ≤ n ∧ a = .int .i64 (i : Int) ∧ FArr wr P n F ∧ FArr wr Q n E ∧ (∀ j, j < i → F j = (C j).1 ∧ E j = (C j).2) ∧ Bel w wr ∧ P < wr.heap.size ∧ Q < wr.heap.size) (fun _ _ a _ => n - (intOf a).toNat)
  case atStart => exact ⟨0, _, _, by omega, rfl, tP, tQ, fun j hj => absurd hj (by omega), b1, lP, lQ⟩
  case round =>
    obtain ⟨i, F, E, hi, rfl, hF, hE, hall, hB, sP, sQ⟩ := hrel
    clear tP tQ b1 lP lQ
    by_cases hlt : i < n
    · have c0 := (hB.cell (p := ⟨g, i * 2, none⟩) hg).trans (hC.c0 i hlt)
      have c1 := (hB.cell (p := ⟨g, i * 2 + 1, none⟩) hg).trans (hC.c1 i hlt)
      obtain ⟨x, hx⟩ : ∃ x, x = (C i).1 := ⟨_, rfl⟩
      obtain ⟨y, hy⟩ : ∃ y, y = (C i).2 := ⟨_, rfl⟩
      rw [← hx] at c0
      rw [← hy] at c1
      have hgr : g < wr.heap.size := Nat.lt_of_lt_of_le hg hB.size
      have HX := Lib.hid hx
      have HY := Lib.hid hy
      clear hx hy
      go_upto_region 5 with fail
      obtain ⟨w2, hw2⟩ : ∃ w2, w2 = wr.alloc (Obj.cells #[.float .f64 x, .float .f64 y] 25) := ⟨_, rfl⟩
      have tA : Two w2 wr.heap.size x y := by rw [hw2]; exact Two.newN _ _ _ _ _ rfl
      have g2 : Bel wr w2 := by rw [hw2]; exact (Bel.refl _).alloc _
      rw [← hw2]
      obtain ⟨A, hA⟩ : ∃ A, A = wr.heap.size := ⟨_, rfl⟩
      have hAP : A ≠ P := by omega
      have hAQ : A ≠ Q := by omega
      rw [← hA] at tA ⊢
      refine parts_reg5 (w0 := w) _ A x y P Q n i F E ⟨_, rfl, rfl, rfl, rfl⟩ ⟨_, rfl, rfl, rfl, rfl⟩ ⟨_, rfl, rfl, rfl, rfl⟩ ⟨_, rfl, rfl, rfl, rfl⟩ ⟨_, rfl, rfl, rfl, rfl⟩ ⟨_, rfl, rfl, rfl, rfl⟩ ⟨_, rfl, rfl, rfl, rfl⟩ ⟨_, rfl, rfl, rfl, rfl⟩ ⟨_, rfl, rfl, rfl, rfl⟩ ⟨_, rfl, rfl, rfl, rfl⟩ ⟨_, rfl, rfl, rfl, rfl⟩ ⟨_, rfl, rfl, rfl, rfl⟩ rfl (by decide +kernel) rfl rfl rfl rfl rfl hlt hAP hAQ hPQ hP hQ (hB.trans g2) tA (hF.bel g2 sP) (hE.bel g2 sQ) (Nat.lt_of_lt_of_le sP g2.size) (Nat.lt_of_lt_of_le sQ g2.size) ?_
      intro f3 w3 b3 hF3 hE3 lP3 lQ3
      have hall3 : ∀ j, j < i + 1 → (if j = i then x else F j) = (C j).1 ∧ (if j = i then y else E j) = (C j).2 := by
        intro j hj
        by_cases e : j = i
        · rw [if_pos e, if_pos e, e]; exact ⟨HX.out, HY.out⟩
        · rw [if_neg e, if_neg e]; exact hall j (by omega)
      clear hF hE hall sP sQ hw2 g2 tA hA hAP hAQ c0 c1 HX HY hB
      unfold actOf
      simp only [List.mapIdx_toArray, List.mapIdx_cons, List.mapIdx_nil, List.mem_cons, List.mem_nil_iff, Nat.reduceEqDiff, Nat.reduceAdd, or_false, or_true, if_true, if_false]
      go_wp2
      go_roundw
      case rel => exact ⟨i + 1, _, _, by omega, (by first | rfl | simp), hF3, hE3, hall3, b3, lP3, lQ3⟩
      case measure => simp [intOf]; omega
    · obtain rfl : i = n := by omega
      have hF2 : FArr wr P i (fun j => (C j).1) := hF.congr fun j hj => (hall j hj).1
      have hE2 : FArr wr Q i (fun j => (C j).2) := hE.congr fun j hj => (hall j hj).2
      clear hF hE hall hC
      go_wp2
      refine bodyPost_ret (by simp [results, go_sem]; try rfl) rfl ?_
      exact ⟨P, Q, rfl, hP, hQ, hPQ, sP, sQ, hF2, hE2, hB⟩
end Go.Proofs.Ytnclnbbnkfolgaa
