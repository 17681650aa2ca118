/- Sums and products of mild floats, and what they lack, are the same the other way round, and turn their signs with the signs of what is added or multiplied.
   Conditions: none beyond the row's own. -/
import Derived.Test.YtknlpggbaahajaaWakes3
import Derived.Test.YtknlpggbaahajaaLEftSums0
import Derived.Test.YtknlpggbaahajaaEProd
import Derived.Test.YtknlpggbaahajaaTurn
import Derived.Test.YtknlpggbaahajaaRows
import Derived.WalkKit
import Derived.ProofKit
import Derived.OpenShut
import Derived.ShutString
import Derived.Lib.SmallJoins
namespace Go.Proofs.Ytknlpggbaahajaa.eftTurned
open Go.ChangeShapes Go.WideShapes Go.ChangeAt Go.RowKit Go.Proofs.Ytknlpggbaahajaa
set_option linter.unusedVariables false

theorem own : ownKnob Try.prog.godebug = none := by kernel_rfl

theorem walk (a0 : Int) (a1 : Int) (w0 : (Lit.int .i64 a0).wf = true) (w1 : (Lit.int .i64 a1).wf = true) (w : World) :
    Calls Try.prog 8 #[.int .i64 a0, .int .i64 a1] w fun e w' => e = .returned (.bool true) ∧ Bel w w' := by
  clear w0 w1
  go_enter Try.func8, Try.ntmps8
  go_wp2_with fail
  refine (mild_any a0 _).mono ?_; rintro r w1 ⟨x, a, rfl, hx, ha, rfl⟩
  go_wp2_with fail
  refine (mild_any a1 _).mono ?_; rintro r w1 ⟨y, b, rfl, hy, hb, rfl⟩
  have n1 := fun w => run_neg (P := Try.prog) x w
  have n2 := fun w => run_neg (P := Try.prog) y w
  go_wp2_with fail
  refine (sum_any x y a b _ hx hy ha.upTo hb.upTo).mono ?_; rintro r w1 ⟨s, e, σ, ε, rfl, h1, ns, ne, hs1, _, _, _, rfl⟩
  go_wp2_with fail
  refine (sum_any y x b a _ hy hx hb.upTo ha.upTo).mono ?_; rintro r w1 ⟨t, f, τ, φ, rfl, h2, nt, nf, hs2, _, _, _, rfl⟩
  go_wp2_with fail
  refine (sum_any _ _ (-a) (-b) _ (num_neg hx) (num_neg hy) ha.neg.upTo hb.neg.upTo).mono ?_; rintro r w1 ⟨u, g, υ, γ, rfl, h3, nu, ng, hs3, _, _, _, rfl⟩
  go_wp2_with fail
  refine (prod_any x y a b _ hx hy ha hb).mono ?_; rintro r w1 ⟨p, h, π, η, rfl, h4, np, nh, hs4, _, rfl⟩
  go_wp2_with fail
  refine (prod_any y x b a _ hy hx hb ha).mono ?_; rintro r w1 ⟨q, i, κ, ι, rfl, h5, nq, ni, hs5, _, rfl⟩
  go_wp2_with fail
  refine (prod_any _ y (-a) b _ (num_neg hx) hy ha.neg hb).mono ?_; rintro r w1 ⟨r', j, ρ, ξ, rfl, h6, nr, nj, hs6, _, rfl⟩
  go_wp2_with fail
  refine (wakes_any _).mono ?_; rintro r w1 ⟨rfl, g1⟩
  -- the sums
  have est : t = s := by
    have := h2.symm.trans ((Flt.add_comm' hy hx).trans h1)
    cases this; rfl
  have eτ : τ = σ := by rw [est] at nt; exact nt.unique ns
  have eφ : φ = ε := by omega
  have eυ : υ = -σ := add_neg hx hy h1 h3 ns nu
  have eγ : γ = -ε := by omega
  -- the products
  have eqp : q = p := by
    have := h5.symm.trans ((Flt.mul_comm' hy hx).trans h4)
    cases this; rfl
  have eκ : κ = π := by rw [eqp] at nq; exact nq.unique np
  have eι : ι = η := by
    have h7 : (π + η) * 2 ^ Flt.uE = (κ + ι) * 2 ^ Flt.uE := by rw [← hs4, ← hs5, Int.mul_comm]
    have := Int.eq_of_mul_eq_mul_right (Int.ne_of_gt (Flt.two_pos _)) h7
    omega
  have eρ : ρ = -π := mul_neg hx hy h4 h6 np nr
  have eξ : ξ = -η := by
    have h7 : -(π + η) * 2 ^ Flt.uE = (ρ + ξ) * 2 ^ Flt.uE := by rw [← hs6, Int.neg_mul, Int.neg_mul, ← hs4]
    have := Int.eq_of_mul_eq_mul_right (Int.ne_of_gt (Flt.two_pos _)) h7
    omega
  have nu2 := num_neg nu
  have ng2 := num_neg ng
  have nr2 := num_neg nr
  have nj2 := num_neg nj
  rw [eυ, Int.neg_neg] at nu2
  rw [eγ, Int.neg_neg] at ng2
  rw [eρ, Int.neg_neg] at nr2
  rw [eξ, Int.neg_neg] at nj2
  have o1 := ord_same ns (eτ ▸ nt)
  have o2 := ord_same ne (eφ ▸ nf)
  have o3 := ord_same ns nu2
  have o4 := ord_same ne ng2
  have o5 := ord_same np (eκ ▸ nq)
  have o6 := ord_same nh (eι ▸ ni)
  have o7 := ord_same np nr2
  have o8 := ord_same nh nj2
  have m1 := fun w => run_neg (P := Try.prog) u w
  have m2 := fun w => run_neg (P := Try.prog) g w
  have m3 := fun w => run_neg (P := Try.prog) r' w
  have m4 := fun w => run_neg (P := Try.prog) j w
  clear est eτ eφ eυ eγ eqp eκ eι eρ eξ nu2 ng2 nr2 nj2 hs1 hs2 hs3 hs4 hs5 hs6 h1 h2 h3 h4 h5 h6 ns ne nt nf nu ng np nh nq ni nr nj hx hy ha hb n1 n2
  go_wp2
  go_ret
  exact ⟨rfl, g1⟩

set_option maxRecDepth 100000 in
theorem lifted (os : Os) (started : os.Started) (H : Type) (enc : TypeId × Value → H) :
    ReturnsInHanded {} Try.checked os 8 .any (Rows.eftTurnedSpec.pre6 enc Try.prog Try.f8 Rows.eftTurnedRow.domain false) (Rows.eftTurnedSpec.post enc Try.prog Try.f8 false true false false) := by
  refine returnsInHanded_of_change (C := Try.checked) own started (by kernel_rfl) Try.func8
    (ChangeSpec.witness6 (enc := enc) (C := Try.checked) false ⟨#[], #[.int .i64 0, .int .i64 0], []⟩ 8 (by kernel_rfl) (by kernel_rfl) (by kernel_rfl) (by kernel_rfl)) ?_
  intro W base args ds gs before hval0 hW hcnd _
  have hval : ∀ (j : Nat) t v, Try.f8.params[j]? = some t → args[j]? = some v → Value.okWide Try.prog W .any base t v := hval0
  have hW' := hW
  obtain ⟨p, q, hA0, hV, rfl, hfz, hnd⟩ := hW
  have hA : DataW.TrodAll enc Try.prog W 0 (fun _ => true) true Try.f8.params.toList args.toList ds p := hA0
  rw [Try.params8] at hA hval
  obtain ⟨v0, vs0, d0, ds0, p0, q0, hargs, rfl, rfl, h0, r0⟩ := trodAll_cons hA
  obtain ⟨v1, vs1, d1, ds1, p1, q1, rfl, rfl, rfl, h1, r1⟩ := trodAll_cons r0
  obtain ⟨rfl, rfl, rfl⟩ := trodAll_nil r1
  obtain rfl : args = #[v0, v1] := by cases args; simp_all
  obtain ⟨rfl, rfl⟩ := trodVars_none hV
  obtain ⟨a0, rfl, rfl, rfl, w0⟩ := open_int Try.underlying2 (hval 0 2 v0 rfl rfl) h0
  obtain ⟨a1, rfl, rfl, rfl, w1⟩ := open_int Try.underlying2 (hval 1 2 v1 rfl rfl) h1
  clear hA0 hval0
  simp only [List.append_nil] at hW'
  refine (walk a0 a1 w0 w1 W).mono fun e W' ⟨he, hg⟩ => ?_
  subst he
  exact ⟨_, rfl, post_of_bel (pa := []) (pv := []) hW' (fun _ _ _ => (trodAll_cons_mk (shut_bool Try.underlying4 _) trodAll_mk0)) (fun sp _ => (trodAll_cons_mk (shut_int Try.underlying2 w0) (trodAll_cons_mk (shut_int Try.underlying2 w1) trodAll_mk0))) (fun _ _ => rfl) rfl
    hg (ok_one (by kernel_rfl) rfl (okWide_bool_mk Try.underlying4 _))⟩

theorem over : Rows.eftTurnedRow.holds Try.pinned (OpenSpec.ofChange Rows.eftTurnedSpec) :=
  OpenClaim.holds_of_wide 8 Try.f8 rfl rfl rfl rfl rfl rfl rfl ⟨rfl, rfl, rfl, rfl, rfl⟩ rfl rfl rfl rfl rfl (by kernel_rfl) Try.func8 (by kernel_rfl)
    (of_decide_eq_true (by kernel_rfl)) (by unfold Func.isWrapper; first | (rw [if_pos (by decide +kernel)]; kernel_rfl) | (rw [if_neg (by decide +kernel)]; exact ⟨rfl, rfl⟩))
    (fun os started H enc _ => lifted os started H enc)

/-- the statement -/
theorem proved : Rows.EftTurnedSaid :=
  over
#print axioms proved
end Go.Proofs.Ytknlpggbaahajaa.eftTurned
