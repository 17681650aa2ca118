/- Powers of one number are multiplied by adding what it is raised to, and a power of a power is one of the product, by every modulus.
   Conditions: none beyond the row's own. -/
import Derived.Test.YtjbhpgcibhgmbaaLaw1
import Derived.Test.YtjbhpgcibhgmbaaArr
import Derived.Test.YtjbhpgcibhgmbaaRows
import Derived.WalkKit
import Derived.ProofKit
import Derived.OpenShut
import Derived.ShutString
import Derived.Lib.SmallJoins
namespace Go.Proofs.Ytjbhpgcibhgmbaa.modPowers
open Go.ChangeShapes Go.WideShapes Go.ChangeAt Go.RowKit Go.Proofs.Ytjbhpgcibhgmbaa
set_option linter.unusedVariables false

theorem own : ownKnob Try.prog.godebug = none := by kernel_rfl

theorem pow_add {a e f n : Int} (h1 : 1 ≤ n) (h2 : n ≤ 4611686018427387904) (he : 0 ≤ e) (hf : 0 ≤ f) : mulS (powS a e n) (powS a f n) n = powS a (e + f) n := by
  rw [mulS_yes h1 h2, powS_yes h1 h2 he, powS_yes h1 h2 hf, powS_yes h1 h2 (by omega), Dia.mul_emod_l, Dia.mul_emod_r, ← Int.pow_add]
  congr 2; omega
theorem pow_mul {a e f n : Int} (h1 : 1 ≤ n) (h2 : n ≤ 4611686018427387904) (he : 0 ≤ e) (hf : 0 ≤ f) : powS (powS a e n) f n = powS a (e * f) n := by
  have hm := Int.mul_nonneg he hf
  rw [powS_yes h1 h2 hf, powS_yes h1 h2 he, powS_yes h1 h2 hm, Dia.pow_emod, ← Int.pow_mul]
  congr 2
  obtain ⟨a, rfl⟩ := Int.eq_ofNat_of_zero_le he
  obtain ⟨b, rfl⟩ := Int.eq_ofNat_of_zero_le hf
  rw [← Int.natCast_mul]; simp only [Int.toNat_natCast]
theorem walk (a0 a1_0 a1_1 a2 : Int) (w0 : (Lit.int .i64 a0).wf = true) (w1_0 : (Lit.int .i64 a1_0).wf = true) (w1_1 : (Lit.int .i64 a1_1).wf = true) (w2 : (Lit.int .i64 a2).wf = true) (w : World) :
    Calls Try.prog 8 #[.int .i64 a0, .agg #[.int .i64 a1_0, .int .i64 a1_1], .int .i64 a2] w fun e w' => e = .returned (.bool true) ∧ Grown w w' := by
  obtain ⟨b2, c2⟩ := bounds_i64 w2
  obtain ⟨b0, c0⟩ := bounds_i64 w1_0
  obtain ⟨b1, c1⟩ := bounds_i64 w1_1
  clear w0 w1_0 w1_1 w2
  obtain ⟨n1, n2⟩ := modu_bd a2
  have e0 : 0 ≤ max 0 a1_0 % 1073741824 := by omega
  have e1 : max 0 a1_0 % 1073741824 ≤ 1073741823 := by omega
  have f0 : 0 ≤ max 0 a1_1 % 1073741824 := by omega
  have f1 : max 0 a1_1 % 1073741824 ≤ 1073741823 := by omega
  obtain ⟨e, he⟩ : ∃ e, max 0 a1_0 % 1073741824 = e := ⟨_, rfl⟩
  obtain ⟨f, hf⟩ : ∃ f, max 0 a1_1 % 1073741824 = f := ⟨_, rfl⟩
  rw [he] at e0 e1
  rw [hf] at f0 f1
  have m0 : 0 ≤ e * f := Int.mul_nonneg e0 f0
  have m1 : e * f ≤ 9223372036854775807 := by
    have : e * f ≤ 1073741823 * f := Int.mul_le_mul_of_nonneg_right e1 f0
    omega
  have hA := Lib.hid (pow_add (a := a0) n1 n2 e0 f0)
  have hM := Lib.hid (pow_mul (a := a0) n1 n2 e0 f0)
  go_enter Try.func8, Try.ntmps8
  go_wp2_with fail
  refine (modulus_any a2 _ b2 c2).mono ?_; rintro e w1 ⟨rfl, rfl⟩
  go_wp2
  go_quiet (fail)
  go_wp2_with fail
  refine (wakes_any _).mono ?_; rintro e w2 ⟨rfl, g2⟩
  go_wp2_with fail
  refine (pow_any a0 e (modu a2) _ (by omega)).mono ?_; rintro e w3 ⟨rfl, g3⟩
  go_wp2_with fail
  refine (pow_any a0 f (modu a2) _ (by omega)).mono ?_; rintro e w4 ⟨rfl, g4⟩
  go_wp2_with fail
  refine (mul_any _ _ (modu a2) _).mono ?_; rintro e w5 ⟨rfl, g5⟩
  rw [hA.out]
  go_wp2_with fail
  refine (pow_any a0 (e + f) (modu a2) _ (by omega)).mono ?_; rintro e w6 ⟨rfl, g6⟩
  go_wp2_with fail
  refine (pow_any a0 e (modu a2) _ (by omega)).mono ?_; rintro e w7 ⟨rfl, g7⟩
  go_wp2_with fail
  refine (pow_any _ f (modu a2) _ (by omega)).mono ?_; rintro e w8 ⟨rfl, g8⟩
  rw [hM.out]
  go_wp2_with fail
  refine (pow_any a0 (e * f) (modu a2) _ (by omega)).mono ?_; rintro e w9 ⟨rfl, g9⟩
  go_wp2
  go_ret
  exact ⟨rfl, ((((((((((Grown.refl _).alloc _ _).drewN _).trans g2).trans g3).trans g4).trans g5).trans g6).trans g7).trans g8).trans g9⟩


set_option maxRecDepth 100000 in
theorem lifted (os : Os) (started : os.Started) (H : Type) (enc : TypeId × Value → H) :
    ReturnsInHanded {} Try.checked os 8 .any (Rows.modPowersSpec.pre6 enc Try.prog Try.f8 Rows.modPowersRow.domain false) (Rows.modPowersSpec.post enc Try.prog Try.f8 false true false false) := by
  refine returnsInHanded_of_change (C := Try.checked) own started (by kernel_rfl) Try.func8
    (ChangeSpec.witness6 (enc := enc) (C := Try.checked) false ⟨#[], #[.int .i64 0, .agg #[.int .i64 0, .int .i64 0], .int .i64 0], []⟩ 8 (by kernel_rfl) (by kernel_rfl) (by kernel_rfl) (by kernel_rfl)) ?_
  intro W base args ds gs before hval0 hW hcnd _
  have hval : ∀ (j : Nat) t v, Try.f8.params[j]? = some t → args[j]? = some v → Value.okWide Try.prog W .any base t v := hval0
  have hW' := hW
  obtain ⟨p, q, hA0, hV, rfl, hfz, hnd⟩ := hW
  have hA : DataW.TrodAll enc Try.prog W 0 (fun _ => true) true Try.f8.params.toList args.toList ds p := hA0
  rw [Try.params8] at hA hval
  obtain ⟨v0, vs0, d0, ds0, p0, q0, hargs, rfl, rfl, h0, r0⟩ := trodAll_cons hA
  obtain ⟨v1, vs1, d1, ds1, p1, q1, rfl, rfl, rfl, h1, r1⟩ := trodAll_cons r0
  obtain ⟨v2, vs2, d2, ds2, p2, q2, rfl, rfl, rfl, h2, r2⟩ := trodAll_cons r1
  obtain ⟨rfl, rfl, rfl⟩ := trodAll_nil r2
  obtain rfl : args = #[v0, v1, v2] := by cases args; simp_all
  obtain ⟨rfl, rfl⟩ := trodVars_none hV
  obtain ⟨a0, rfl, rfl, rfl, w0⟩ := open_int Try.underlying2 (hval 0 2 v0 rfl rfl) h0
  obtain ⟨a1_0, a1_1, rfl, rfl, rfl, w1_0, w1_1⟩ := open_arr2 Try.underlying34 Try.underlying2 (by kernel_rfl) (by kernel_rfl) (hval 1 34 v1 rfl rfl) h1
  obtain ⟨a2, rfl, rfl, rfl, w2⟩ := open_int Try.underlying2 (hval 2 2 v2 rfl rfl) h2
  clear hA0 hval0
  simp only [List.append_nil] at hW'
  refine (walk a0 a1_0 a1_1 a2 w0 w1_0 w1_1 w2 W).mono fun e W' ⟨he, hg⟩ => ?_
  subst he
  exact ⟨_, rfl, post_of_same (pa := []) (pv := []) hW' (fun _ _ _ => (trodAll_cons_mk (shut_bool Try.underlying4 _) trodAll_mk0)) (fun sp _ => (trodAll_cons_mk (shut_int Try.underlying2 w0) (trodAll_cons_mk (shut_arr2 Try.underlying34 Try.underlying2 (by kernel_rfl) (by kernel_rfl) w1_0 w1_1) (trodAll_cons_mk (shut_int Try.underlying2 w2) trodAll_mk0)))) (fun _ _ => rfl) rfl
    (hg.frame _) hg.2.1 (ok_one (by kernel_rfl) rfl (okWide_bool_mk Try.underlying4 _))⟩

theorem over : Rows.modPowersRow.holds Try.pinned (OpenSpec.ofChange Rows.modPowersSpec) :=
  OpenClaim.holds_of_wide 8 Try.f8 rfl rfl rfl rfl rfl rfl rfl ⟨rfl, rfl, rfl, rfl, rfl⟩ rfl rfl rfl rfl rfl (by kernel_rfl) Try.func8 (by kernel_rfl)
    (of_decide_eq_true (by kernel_rfl)) (by unfold Func.isWrapper; first | (rw [if_pos (by decide +kernel)]; kernel_rfl) | (rw [if_neg (by decide +kernel)]; exact ⟨rfl, rfl⟩))
    (fun os started H enc _ => lifted os started H enc)

/-- the statement -/
theorem proved : Rows.ModPowersSaid :=
  over
#print axioms proved
end Go.Proofs.Ytjbhpgcibhgmbaa.modPowers
