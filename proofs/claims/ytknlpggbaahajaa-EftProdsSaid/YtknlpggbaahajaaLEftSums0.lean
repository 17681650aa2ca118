/- EftSums' walk (playground). -/
import Derived.Test.YtknlpggbaahajaaEftSum
import Derived.Test.YtknlpggbaahajaaMildW
import Derived.Test.YtknlpggbaahajaaRef3c
import Derived.Test.YtknlpggbaahajaaNeg
namespace Go.Proofs.Ytknlpggbaahajaa
open Go.RowKit

theorem MildN.upTo {n : Int} (h : MildN n) : UpTo 1 n := by
  rcases h with rfl | ⟨_, h⟩
  · unfold UpTo; simp
  · unfold UpTo
    have e : mtop = mhi := rfl
    rw [Nat.one_mul, e]
    exact Nat.le_of_lt h
theorem MildN.neg {n : Int} (h : MildN n) : MildN (-n) := by
  rcases h with rfl | h
  · exact Or.inl rfl
  · exact Or.inr (by rw [Int.natAbs_neg]; exact h)
theorem long_zero (w : World) : (zeroValue 31).run Try.prog w = .ok (.agg (Array.replicate 110 (.int .i64 0))) w := by kernel_rfl
theorem long_new (w : World) (t : TypeId) : LongAt (w.alloc (.cells (Array.replicate 110 (.int .i64 0)) t)) w.heap.size (fun _ => 0) := by
  intro i hi
  refine ⟨?_, ?_⟩
  · rw [World.cell?_alloc_new, Array.getElem?_replicate, if_pos hi]
  · exact frozen_of_row _ _ i _ t (heap_alloc_new w _)
theorem lval_zero : lval (fun _ => 0) = 0 := by
  rw [lval_eq]
  have : ∀ n, lsum (fun _ => 0) n = 0 := fun n => by
    induction n with
    | zero => rfl
    | succ n ih => show lsum _ n + 0 * _ = 0; rw [ih]; simp
  exact this 110
set_option maxHeartbeats 2000000 in
theorem walk0 (a0 a1 : Int) (w : World) (hwk : ∀ w, Calls Try.prog 11 #[] w fun e w' => e = .returned (.bool true) ∧ Bel w w') :
    Calls Try.prog 3 #[.int .i64 a0, .int .i64 a1] w fun e w' => e = .returned (.bool true) ∧ Bel w w' := by
  go_enter Try.func3, Try.ntmps3
  go_wp2_with fail
  refine (mild_any a0 _).mono ?_; rintro r w1 ⟨x, a, rfl, hx, ha, rfl⟩
  go_wp2_with fail
  refine (mild_any a1 _).mono ?_; rintro r w1 ⟨y, b, rfl, hy, hb, rfl⟩
  go_wp2_with fail
  refine (sum_any x y a b _ hx hy ha.upTo hb.upTo).mono ?_; rintro r w1 ⟨s, e, σ, ε, rfl, h1, hs, he, hsum, hnear, us, ue, rfl⟩
  go_wp2_with fail
  refine (hwk _).mono ?_; rintro r w1 ⟨rfl, g1⟩
  have o1 := fun w => run_fadd (P := Try.prog) 22 h1 w
  have hfe := Lib.hid he.fin
  have hfix := Lib.hid (And.intro hsum hnear)
  have hord : FloatKind.f64.format.order s s = some Ordering.eq := (Flt.order_num hs hs).trans (by simp [compare, compareOfLessAndEq])
  clear h1 hsum hnear ha hb us ue
  go_wp2_with fail
  refine (finite_any e _).mono ?_; rintro r w2 ⟨rfl, rfl⟩
  rw [decide_eq_true hfe.out]
  have hz := long_zero
  have gB := g1.alloc (Obj.cells (Array.replicate 110 (Value.int IntKind.i64 0)) 31)
  have hL0 := long_new w1 31
  have hsz := g1.size
  obtain ⟨g, hg⟩ : ∃ g, g = w1.heap.size := ⟨_, rfl⟩
  have hgw : w.heap.size ≤ g := by omega
  rw [← hg] at hL0
  go_wp2_with fail
  rw [← hg]
  clear hsz hg
  refine (add_any g (fun _ => 0) x a _ hx hL0 (fun _ => by simp)).mono ?_; rintro r w2 ⟨rfl, f1, l1, v1, d1, e1⟩
  have q1 : ∀ j, (f1 j).natAbs ≤ 3221225472 := fun j => by have := d1 j; simpa using this
  go_wp2_with fail
  refine (add_any g f1 y b _ hy l1 (fun j => by have := q1 j; omega)).mono ?_; rintro r w3 ⟨rfl, f2, l2, v2, d2, e2⟩
  have q2 : ∀ j, (f2 j).natAbs ≤ 6442450944 := fun j => by have := d2 j; have := q1 j; omega
  have n1 := fun w => run_neg (P := Try.prog) s w
  go_wp2_with fail
  refine (add_any g f2 _ (-σ) _ (num_neg hs) l2 (fun j => by have := q2 j; omega)).mono ?_; rintro r w4 ⟨rfl, f3, l3, v3, d3, e3⟩
  have q3 : ∀ j, (f3 j).natAbs ≤ 9663676416 := fun j => by have := d3 j; have := q2 j; omega
  have n2 := fun w => run_neg (P := Try.prog) e w
  go_wp2_with fail
  refine (add_any g f3 _ (-ε) _ (num_neg he) l3 (fun j => by have := q3 j; omega)).mono ?_; rintro r w5 ⟨rfl, f4, l4, v4, d4, e4⟩
  have q4 : ∀ j, (f4 j).natAbs ≤ 12884901888 := fun j => by have := d4 j; have := q3 j; omega
  have hzero : lval f4 = 0 := by
    have h0 : lval (fun _ => 0) = 0 := by
      rw [lval_eq]
      have : ∀ n, lsum (fun _ => 0) n = 0 := fun n => by
        induction n with
        | zero => rfl
        | succ n ih => show lsum _ n + 0 * _ = 0; rw [ih]; simp
      exact this 110
    rw [v4, v3, v2, v1, h0, Int.zero_add, ← Int.add_mul, ← Int.add_mul, ← Int.add_mul]
    have := hfix.out.1
    have e0 : a + b + -σ + -ε = 0 := by omega
    rw [e0, Int.zero_mul]
  have hzero := Lib.hid hzero
  clear v1 v2 v3 v4
  go_wp2_with fail
  refine (zero_any g f4 _ l4 (fun j => by have := q4 j; omega)).mono ?_; rintro r w6 ⟨rfl, rfl⟩
  rw [decide_eq_true hzero.out]
  go_wp2
  go_ret
  refine ⟨rfl, ?_⟩
  exact Below.trans (Below.trans (Below.trans (Below.trans gB (Below.mono e1 hgw)) (Below.mono e2 hgw)) (Below.mono e3 hgw)) (Below.mono e4 hgw)
end Go.Proofs.Ytknlpggbaahajaa
