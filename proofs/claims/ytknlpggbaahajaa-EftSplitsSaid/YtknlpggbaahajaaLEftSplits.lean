/- Every mild float is split into two floats with few bits whose sum is just that float.
   Conditions: none beyond the row's own. -/
import Derived.Test.YtknlpggbaahajaaWakes3
import Derived.Test.YtknlpggbaahajaaLEftSums0
import Derived.Test.YtknlpggbaahajaaEProd
import Derived.Test.YtknlpggbaahajaaRef3d
import Derived.Test.YtknlpggbaahajaaRows
import Derived.WalkKit
import Derived.ProofKit
import Derived.OpenShut
import Derived.ShutString
import Derived.Lib.SmallJoins
namespace Go.Proofs.Ytknlpggbaahajaa.eftSplits
open Go.ChangeShapes Go.WideShapes Go.ChangeAt Go.RowKit Go.Proofs.Ytknlpggbaahajaa
set_option linter.unusedVariables false

theorem own : ownKnob Try.prog.godebug = none := by kernel_rfl

theorem walk (a0 : Int) (w0 : (Lit.int .i64 a0).wf = true) (w : World) :
    Calls Try.prog 4 #[.int .i64 a0] w fun e w' => e = .returned (.bool true) ∧ Bel w w' := by
  clear w0
  go_enter Try.func4, Try.ntmps4
  go_wp2_with fail
  refine (mild_any a0 _).mono ?_; rintro r w1 ⟨x, a, rfl, hx, ha, rfl⟩
  go_wp2_with fail
  refine (split_any x a _ hx ha).mono ?_; rintro r w1 ⟨h, l, rfl, hH, rfl⟩
  obtain ⟨η, μ, nh, nl, hsum, kh, jh, kl, jl, fh, fl⟩ : ∃ η μ, Flt.Num h η ∧ Flt.Num l μ ∧ a = η + μ ∧ ∃ kh jh kl jl, FewN (pA h : Int) kh jh ∧ FewN (pA l : Int) kl jl := by
    rcases hH.ex with ⟨rfl, nh, nl⟩ | ⟨e, A, H, L, e1, e2, hA, nh, nl, HU⟩
    · obtain ⟨kh, jh, fh⟩ := few_of (K := 0) (s := 0) nh (by simp) (by decide)
      obtain ⟨kl, jl, fl⟩ := few_of (K := 0) (s := 0) nl (by simp) (by decide)
      exact ⟨0, 0, nh, nl, by simp, kh, jh, kl, jl, fh, fl⟩
    · obtain ⟨m1, s1, q1, q2⟩ := HU.few_hi.shift e
      obtain ⟨m2, s2, q3, q4⟩ := HU.few_lo.shift e
      obtain ⟨kh, jh, fh⟩ := few_of nh q1 q2
      obtain ⟨kl, jl, fl⟩ := few_of nl q3 q4
      exact ⟨_, _, nh, nl, by rw [hA, HU.sum, Int.add_mul], kh, jh, kl, jl, fh, fl⟩
  have hfh := Lib.hid nh.fin
  have hfl := Lib.hid nl.fin
  have hfix := Lib.hid hsum
  clear hsum hH ha
  go_wp2_with fail
  refine (wakes_any _).mono ?_; rintro r w1 ⟨rfl, g1⟩
  go_wp2_with fail
  refine (finite_any h _).mono ?_; rintro r w2 ⟨rfl, rfl⟩
  rw [decide_eq_true hfh.out]
  go_wp2_with fail
  refine (finite_any l _).mono ?_; rintro r w2 ⟨rfl, rfl⟩
  rw [decide_eq_true hfl.out]
  go_wp2_with fail
  refine (few_true h kh jh _ fh).mono ?_; rintro r w2 ⟨rfl, rfl⟩
  have hz := long_zero
  have gB := g1.alloc (Obj.cells (Array.replicate 110 (Value.int IntKind.i64 0)) 31)
  have hL0 := long_new w1 31
  have hsz := g1.size
  obtain ⟨g, hg⟩ : ∃ g, g = w1.heap.size := ⟨_, rfl⟩
  have hgw : w.heap.size ≤ g := by omega
  rw [← hg] at hL0
  go_wp2_with fail
  refine (few_true l kl jl _ fl).mono ?_; rintro r w2 ⟨rfl, rfl⟩
  go_wp2_with fail
  rw [← hg]
  clear hsz hg
  refine (add_any g (fun _ => 0) x a _ hx hL0 (fun _ => by simp)).mono ?_; rintro r w2 ⟨rfl, f1, l1, v1, d1, e1⟩
  have q1 : ∀ j, (f1 j).natAbs ≤ 3221225472 := fun j => by have := d1 j; simpa using this
  have n1 := fun w => run_neg (P := Try.prog) h w
  go_wp2_with fail
  refine (add_any g f1 _ (-η) _ (num_neg nh) l1 (fun j => by have := q1 j; omega)).mono ?_; rintro r w3 ⟨rfl, f2, l2, v2, d2, e2⟩
  have q2 : ∀ j, (f2 j).natAbs ≤ 6442450944 := fun j => by have := d2 j; have := q1 j; omega
  have n2 := fun w => run_neg (P := Try.prog) l w
  go_wp2_with fail
  refine (add_any g f2 _ (-μ) _ (num_neg nl) l2 (fun j => by have := q2 j; omega)).mono ?_; rintro r w4 ⟨rfl, f3, l3, v3, d3, e3⟩
  have q3 : ∀ j, (f3 j).natAbs ≤ 9663676416 := fun j => by have := d3 j; have := q2 j; omega
  have hzero : lval f3 = 0 := by
    rw [v3, v2, v1, lval_zero, Int.zero_add, ← Int.add_mul, ← Int.add_mul]
    have := hfix.out
    have e0 : a + -η + -μ = 0 := by omega
    rw [e0, Int.zero_mul]
  have hzeroH := Lib.hid hzero
  clear v1 v2 v3 hzero
  go_wp2_with fail
  refine (zero_any g f3 _ l3 (fun j => by have := q3 j; omega)).mono ?_; rintro r w6 ⟨rfl, rfl⟩
  rw [decide_eq_true hzeroH.out]
  go_wp2
  go_ret
  refine ⟨rfl, ?_⟩
  exact Below.trans (Below.trans (Below.trans gB (Below.mono e1 hgw)) (Below.mono e2 hgw)) (Below.mono e3 hgw)

set_option maxRecDepth 100000 in
theorem lifted (os : Os) (started : os.Started) (H : Type) (enc : TypeId × Value → H) :
    ReturnsInHanded {} Try.checked os 4 .any (Rows.eftSplitsSpec.pre6 enc Try.prog Try.f4 Rows.eftSplitsRow.domain false) (Rows.eftSplitsSpec.post enc Try.prog Try.f4 false true false false) := by
  refine returnsInHanded_of_change (C := Try.checked) own started (by kernel_rfl) Try.func4
    (ChangeSpec.witness6 (enc := enc) (C := Try.checked) false ⟨#[], #[.int .i64 0], []⟩ 8 (by kernel_rfl) (by kernel_rfl) (by kernel_rfl) (by kernel_rfl)) ?_
  intro W base args ds gs before hval0 hW hcnd _
  have hval : ∀ (j : Nat) t v, Try.f4.params[j]? = some t → args[j]? = some v → Value.okWide Try.prog W .any base t v := hval0
  have hW' := hW
  obtain ⟨p, q, hA0, hV, rfl, hfz, hnd⟩ := hW
  have hA : DataW.TrodAll enc Try.prog W 0 (fun _ => true) true Try.f4.params.toList args.toList ds p := hA0
  rw [Try.params4] at hA hval
  obtain ⟨v0, vs0, d0, ds0, p0, q0, hargs, rfl, rfl, h0, r0⟩ := trodAll_cons hA
  obtain ⟨rfl, rfl, rfl⟩ := trodAll_nil r0
  obtain rfl : args = #[v0] := by cases args; simp_all
  obtain ⟨rfl, rfl⟩ := trodVars_none hV
  obtain ⟨a0, rfl, rfl, rfl, w0⟩ := open_int Try.underlying2 (hval 0 2 v0 rfl rfl) h0
  clear hA0 hval0
  simp only [List.append_nil] at hW'
  refine (walk a0 w0 W).mono fun e W' ⟨he, hg⟩ => ?_
  subst he
  exact ⟨_, rfl, post_of_bel (pa := []) (pv := []) hW' (fun _ _ _ => (trodAll_cons_mk (shut_bool Try.underlying4 _) trodAll_mk0)) (fun sp _ => (trodAll_cons_mk (shut_int Try.underlying2 w0) trodAll_mk0)) (fun _ _ => rfl) rfl
    hg (ok_one (by kernel_rfl) rfl (okWide_bool_mk Try.underlying4 _))⟩

theorem over : Rows.eftSplitsRow.holds Try.pinned (OpenSpec.ofChange Rows.eftSplitsSpec) :=
  OpenClaim.holds_of_wide 4 Try.f4 rfl rfl rfl rfl rfl rfl rfl ⟨rfl, rfl, rfl, rfl, rfl⟩ rfl rfl rfl rfl rfl (by kernel_rfl) Try.func4 (by kernel_rfl)
    (of_decide_eq_true (by kernel_rfl)) (by unfold Func.isWrapper; first | (rw [if_pos (by decide +kernel)]; kernel_rfl) | (rw [if_neg (by decide +kernel)]; exact ⟨rfl, rfl⟩))
    (fun os started H enc _ => lifted os started H enc)

/-- the statement -/
theorem proved : Rows.EftSplitsSaid :=
  over
#print axioms proved
end Go.Proofs.Ytknlpggbaahajaa.eftSplits
