/- The product of every two mild floats is the float that Go gives, and with what it lacks it is just their product.
   Conditions: none beyond the row's own. -/
import Derived.Test.YtknlpggbaahajaaWakes3
import Derived.Test.YtknlpggbaahajaaLEftSums0
import Derived.Test.YtknlpggbaahajaaProdV
import Derived.Test.YtknlpggbaahajaaRows
import Derived.WalkKit
import Derived.ProofKit
import Derived.OpenShut
import Derived.ShutString
import Derived.Lib.SmallJoins
namespace Go.Proofs.Ytknlpggbaahajaa.eftProds
open Go.ChangeShapes Go.WideShapes Go.ChangeAt Go.RowKit Go.Proofs.Ytknlpggbaahajaa
set_option linter.unusedVariables false

theorem own : ownKnob Try.prog.godebug = none := by kernel_rfl

theorem walk (a0 : Int) (a1 : Int) (w0 : (Lit.int .i64 a0).wf = true) (w1 : (Lit.int .i64 a1).wf = true) (w : World) :
    Calls Try.prog 5 #[.int .i64 a0, .int .i64 a1] w fun e w' => e = .returned (.bool true) ∧ Bel w w' := by
  clear w0 w1
  go_enter Try.func5, Try.ntmps5
  go_wp2_with fail
  refine (mild_any a0 _).mono ?_; rintro r w1 ⟨x, a, rfl, hx, ha, rfl⟩
  go_wp2_with fail
  refine (mild_any a1 _).mono ?_; rintro r w1 ⟨y, b, rfl, hy, hb, rfl⟩
  go_wp2_with fail
  refine (prod_any x y a b _ hx hy ha hb).mono ?_; rintro r w1 ⟨s, e, σ, ε, rfl, h1, hs, he, hsum, hnear, rfl⟩
  go_wp2_with fail
  refine (wakes_any _).mono ?_; rintro r w1 ⟨rfl, g1⟩
  have o1 := fun w => run_fmul (P := Try.prog) 22 h1 w
  have hfe := Lib.hid he.fin
  have hord : FloatKind.f64.format.order s s = some Ordering.eq := (Flt.order_num hs hs).trans (by simp [compare, compareOfLessAndEq])
  have hT := fun (g : Nat) (f : Nat → Int) (w : World) => times_mild g f x y a b (σ + ε) w hx hy ha hb hsum
  have hTH := Lib.hid hT
  clear h1 hsum hnear ha hb hT
  go_wp2_with fail
  refine (finite_any e _).mono ?_; rintro r w2 ⟨rfl, rfl⟩
  rw [decide_eq_true hfe.out]
  have hz := long_zero
  have gB := g1.alloc (Obj.cells (Array.replicate 110 (Value.int IntKind.i64 0)) 31)
  have hL0 := long_new w1 31
  have hsz := g1.size
  obtain ⟨g, hg⟩ : ∃ g, g = w1.heap.size := ⟨_, rfl⟩
  have hgw : w.heap.size ≤ g := by omega
  rw [← hg] at hL0
  go_wp2_with fail
  rw [← hg]
  clear hsz hg
  refine (hTH.out g (fun _ => 0) _ hL0 (fun _ => by simp)).mono ?_; rintro r w2 ⟨rfl, f1, l1, v1, d1, e1⟩
  have r1 : ∀ j, (f1 j).natAbs ≤ 12884901888 := fun j => by have := d1 j; simpa using this
  have n1 := fun w => run_neg (P := Try.prog) s w
  go_wp2_with fail
  refine (add_any g f1 _ (-σ) _ (num_neg hs) l1 (fun j => by have := r1 j; omega)).mono ?_; rintro r w3 ⟨rfl, f2, l2, v2, d2, e2⟩
  have r2 : ∀ j, (f2 j).natAbs ≤ 16106127360 := fun j => by have := d2 j; have := r1 j; omega
  have n2 := fun w => run_neg (P := Try.prog) e w
  go_wp2_with fail
  refine (add_any g f2 _ (-ε) _ (num_neg he) l2 (fun j => by have := r2 j; omega)).mono ?_; rintro r w4 ⟨rfl, f3, l3, v3, d3, e3⟩
  have r3 : ∀ j, (f3 j).natAbs ≤ 19327352832 := fun j => by have := d3 j; have := r2 j; omega
  have hzero : lval f3 = 0 := by
    rw [v3, v2, v1, lval_zero, Int.zero_add, ← Int.add_mul, ← Int.add_mul]
    have e0 : σ + ε + -σ + -ε = 0 := by omega
    rw [e0, Int.zero_mul]
  have hzeroH := Lib.hid hzero
  clear v1 v2 v3 hzero
  go_wp2_with fail
  refine (zero_any g f3 _ l3 (fun j => by have := r3 j; omega)).mono ?_; rintro r w6 ⟨rfl, rfl⟩
  rw [decide_eq_true hzeroH.out]
  go_wp2
  go_ret
  refine ⟨rfl, ?_⟩
  exact Below.trans (Below.trans (Below.trans gB (Below.mono e1 hgw)) (Below.mono e2 hgw)) (Below.mono e3 hgw)

set_option maxRecDepth 100000 in
theorem lifted (os : Os) (started : os.Started) (H : Type) (enc : TypeId × Value → H) :
    ReturnsInHanded {} Try.checked os 5 .any (Rows.eftProdsSpec.pre6 enc Try.prog Try.f5 Rows.eftProdsRow.domain false) (Rows.eftProdsSpec.post enc Try.prog Try.f5 false true false false) := by
  refine returnsInHanded_of_change (C := Try.checked) own started (by kernel_rfl) Try.func5
    (ChangeSpec.witness6 (enc := enc) (C := Try.checked) false ⟨#[], #[.int .i64 0, .int .i64 0], []⟩ 8 (by kernel_rfl) (by kernel_rfl) (by kernel_rfl) (by kernel_rfl)) ?_
  intro W base args ds gs before hval0 hW hcnd _
  have hval : ∀ (j : Nat) t v, Try.f5.params[j]? = some t → args[j]? = some v → Value.okWide Try.prog W .any base t v := hval0
  have hW' := hW
  obtain ⟨p, q, hA0, hV, rfl, hfz, hnd⟩ := hW
  have hA : DataW.TrodAll enc Try.prog W 0 (fun _ => true) true Try.f5.params.toList args.toList ds p := hA0
  rw [Try.params5] at hA hval
  obtain ⟨v0, vs0, d0, ds0, p0, q0, hargs, rfl, rfl, h0, r0⟩ := trodAll_cons hA
  obtain ⟨v1, vs1, d1, ds1, p1, q1, rfl, rfl, rfl, h1, r1⟩ := trodAll_cons r0
  obtain ⟨rfl, rfl, rfl⟩ := trodAll_nil r1
  obtain rfl : args = #[v0, v1] := by cases args; simp_all
  obtain ⟨rfl, rfl⟩ := trodVars_none hV
  obtain ⟨a0, rfl, rfl, rfl, w0⟩ := open_int Try.underlying2 (hval 0 2 v0 rfl rfl) h0
  obtain ⟨a1, rfl, rfl, rfl, w1⟩ := open_int Try.underlying2 (hval 1 2 v1 rfl rfl) h1
  clear hA0 hval0
  simp only [List.append_nil] at hW'
  refine (walk a0 a1 w0 w1 W).mono fun e W' ⟨he, hg⟩ => ?_
  subst he
  exact ⟨_, rfl, post_of_bel (pa := []) (pv := []) hW' (fun _ _ _ => (trodAll_cons_mk (shut_bool Try.underlying4 _) trodAll_mk0)) (fun sp _ => (trodAll_cons_mk (shut_int Try.underlying2 w0) (trodAll_cons_mk (shut_int Try.underlying2 w1) trodAll_mk0))) (fun _ _ => rfl) rfl
    hg (ok_one (by kernel_rfl) rfl (okWide_bool_mk Try.underlying4 _))⟩

theorem over : Rows.eftProdsRow.holds Try.pinned (OpenSpec.ofChange Rows.eftProdsSpec) :=
  OpenClaim.holds_of_wide 5 Try.f5 rfl rfl rfl rfl rfl rfl rfl ⟨rfl, rfl, rfl, rfl, rfl⟩ rfl rfl rfl rfl rfl (by kernel_rfl) Try.func5 (by kernel_rfl)
    (of_decide_eq_true (by kernel_rfl)) (by unfold Func.isWrapper; first | (rw [if_pos (by decide +kernel)]; kernel_rfl) | (rw [if_neg (by decide +kernel)]; exact ⟨rfl, rfl⟩))
    (fun os started H enc _ => lifted os started H enc)

/-- the statement -/
theorem proved : Rows.EftProdsSaid :=
  over
#print axioms proved
end Go.Proofs.Ytknlpggbaahajaa.eftProds
