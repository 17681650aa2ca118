/- Products of remainders are the same in any order and grouping, and spread over sums, by every modulus.
   Conditions: none beyond the row's own. -/
import Derived.Test.YtjbhpgcibhgmbaaLaw1
import Derived.Test.YtjbhpgcibhgmbaaArr
import Derived.Test.YtjbhpgcibhgmbaaRows
import Derived.WalkKit
import Derived.ProofKit
import Derived.OpenShut
import Derived.ShutString
import Derived.Lib.SmallJoins
namespace Go.Proofs.Ytjbhpgcibhgmbaa.modRules
open Go.ChangeShapes Go.WideShapes Go.ChangeAt Go.RowKit Go.Proofs.Ytjbhpgcibhgmbaa
set_option linter.unusedVariables false

theorem own : ownKnob Try.prog.godebug = none := by kernel_rfl

theorem mul_comm' (a b n : Int) : mulS a b n = mulS b a n := by unfold mulS; rw [Int.mul_comm]
theorem mul_assoc' {a b c n : Int} (h1 : 1 ≤ n) (h2 : n ≤ 4611686018427387904) : mulS (mulS a b n) c n = mulS a (mulS b c n) n := by
  simp only [mulS_yes h1 h2]; rw [Dia.mul_emod_l, Dia.mul_emod_r, Int.mul_assoc]
theorem mul_rest {a b n : Int} (h1 : 1 ≤ n) (h2 : n ≤ 4611686018427387904) : mulS (mulS a 1 n) (mulS b 1 n) n = mulS a b n := by
  simp only [mulS_yes h1 h2, Int.mul_one]; rw [Dia.mul_emod_l, Dia.mul_emod_r]
theorem mul_sum {a b c n : Int} (h1 : 1 ≤ n) (h2 : n ≤ 4611686018427387904) : mulS (mulS a b n - n + mulS a c n) 1 n = mulS a (mulS b 1 n - n + mulS c 1 n) n := by
  simp only [mulS_yes h1 h2, Int.mul_one]
  have e1 : ((a * b) % n - n + (a * c) % n) % n = (a * b + a * c) % n := by
    have : (a * b) % n - n + (a * c) % n = (a * b) % n + (a * c) % n + n * (-1) := by omega
    rw [this, Int.add_mul_emod_self_left, Dia.add_emod_l, Dia.add_emod_r]
  have e2 : (a * (b % n - n + c % n)) % n = (a * (b + c)) % n := by
    rw [← Dia.mul_emod_r]
    have : b % n - n + c % n = b % n + c % n + n * (-1) := by omega
    rw [this, Int.add_mul_emod_self_left, Dia.add_emod_l, Dia.add_emod_r, Dia.mul_emod_r]
  rw [e1, e2, Int.mul_add]
theorem mul_bd {a b n : Int} (h1 : 1 ≤ n) (h2 : n ≤ 4611686018427387904) : 0 ≤ mulS a b n ∧ mulS a b n < n := by
  rw [mulS_yes h1 h2]; exact ⟨Int.emod_nonneg _ (by omega), Int.emod_lt_of_pos _ (by omega)⟩
theorem walk (a0_0 a0_1 a0_2 a1 : Int) (w0_0 : (Lit.int .i64 a0_0).wf = true) (w0_1 : (Lit.int .i64 a0_1).wf = true) (w0_2 : (Lit.int .i64 a0_2).wf = true) (w1 : (Lit.int .i64 a1).wf = true) (w : World) :
    Calls Try.prog 7 #[.agg #[.int .i64 a0_0, .int .i64 a0_1, .int .i64 a0_2], .int .i64 a1] w fun e w' => e = .returned (.bool true) ∧ Grown w w' := by
  obtain ⟨b2, c2⟩ := bounds_i64 w1
  clear w0_0 w0_1 w0_2 w1
  obtain ⟨n1, n2⟩ := modu_bd a1
  have hAs := Lib.hid (mul_assoc' (a := a0_0) (b := a0_1) (c := a0_2) n1 n2)
  have hCo := Lib.hid (mul_comm' a0_1 a0_0 (modu a1))
  have hRe := Lib.hid (mul_rest (a := a0_0) (b := a0_1) n1 n2)
  have hSu := Lib.hid (mul_sum (a := a0_0) (b := a0_1) (c := a0_2) n1 n2)
  obtain ⟨p0, p1⟩ := mul_bd (a := a0_1) (b := 1) n1 n2
  obtain ⟨q0, q1⟩ := mul_bd (a := a0_2) (b := 1) n1 n2
  obtain ⟨r0, r1⟩ := mul_bd (a := a0_0) (b := a0_1) n1 n2
  obtain ⟨s0, s1⟩ := mul_bd (a := a0_0) (b := a0_2) n1 n2
  go_enter Try.func7, Try.ntmps7
  go_wp2
  go_quiet (fail)
  go_wp2_with fail
  refine (modulus_any a1 _ b2 c2).mono ?_; rintro e w1 ⟨rfl, rfl⟩
  go_wp2_with fail
  refine (mul_any a0_0 1 (modu a1) _).mono ?_; rintro e w3 ⟨rfl, g3⟩
  go_wp2_with fail
  refine (mul_any a0_1 1 (modu a1) _).mono ?_; rintro e w4 ⟨rfl, g4⟩
  go_wp2_with fail
  refine (mul_any a0_2 1 (modu a1) _).mono ?_; rintro e w5 ⟨rfl, g5⟩
  go_wp2_with fail
  refine (wakes_any _).mono ?_; rintro e w6 ⟨rfl, g6⟩
  go_wp2_with fail
  refine (mul_any a0_0 a0_1 (modu a1) _).mono ?_; rintro e w7 ⟨rfl, g7⟩
  go_wp2_with fail
  refine (mul_any a0_1 a0_0 (modu a1) _).mono ?_; rintro e w8 ⟨rfl, g8⟩
  rw [hCo.out]
  go_wp2_with fail
  refine (mul_any a0_0 a0_1 (modu a1) _).mono ?_; rintro e w9 ⟨rfl, g9⟩
  go_wp2_with fail
  refine (mul_any _ a0_2 (modu a1) _).mono ?_; rintro e w10 ⟨rfl, g10⟩
  rw [hAs.out]
  go_wp2_with fail
  refine (mul_any a0_1 a0_2 (modu a1) _).mono ?_; rintro e w11 ⟨rfl, g11⟩
  go_wp2_with fail
  refine (mul_any a0_0 _ (modu a1) _).mono ?_; rintro e w12 ⟨rfl, g12⟩
  go_wp2_with fail
  refine (mul_any _ _ (modu a1) _).mono ?_; rintro e w13 ⟨rfl, g13⟩
  rw [hRe.out]
  go_wp2_with fail
  refine (mul_any a0_0 a0_1 (modu a1) _).mono ?_; rintro e w14 ⟨rfl, g14⟩
  go_wp2_with fail
  refine (mul_any a0_0 _ (modu a1) _).mono ?_; rintro e w15 ⟨rfl, g15⟩
  go_wp2_with fail
  refine (mul_any a0_0 a0_1 (modu a1) _).mono ?_; rintro e w16 ⟨rfl, g16⟩
  go_wp2_with fail
  refine (mul_any a0_0 a0_2 (modu a1) _).mono ?_; rintro e w17 ⟨rfl, g17⟩
  go_wp2_with fail
  refine (mul_any _ 1 (modu a1) _).mono ?_; rintro e w18 ⟨rfl, g18⟩
  rw [hSu.out]
  go_wp2
  go_ret
  exact ⟨rfl, ((((((((((((((((((Grown.refl _).alloc _ _).drewN _).trans g3).trans g4).trans g5).trans g6).trans g7).trans g8).trans g9).trans g10).trans g11).trans g12).trans g13).trans g14).trans g15).trans g16).trans g17).trans g18⟩


set_option maxRecDepth 100000 in
theorem lifted (os : Os) (started : os.Started) (H : Type) (enc : TypeId × Value → H) :
    ReturnsInHanded {} Try.checked os 7 .any (Rows.modRulesSpec.pre6 enc Try.prog Try.f7 Rows.modRulesRow.domain false) (Rows.modRulesSpec.post enc Try.prog Try.f7 false true false false) := by
  refine returnsInHanded_of_change (C := Try.checked) own started (by kernel_rfl) Try.func7
    (ChangeSpec.witness6 (enc := enc) (C := Try.checked) false ⟨#[], #[.agg #[.int .i64 0, .int .i64 0, .int .i64 0], .int .i64 0], []⟩ 8 (by kernel_rfl) (by kernel_rfl) (by kernel_rfl) (by kernel_rfl)) ?_
  intro W base args ds gs before hval0 hW hcnd _
  have hval : ∀ (j : Nat) t v, Try.f7.params[j]? = some t → args[j]? = some v → Value.okWide Try.prog W .any base t v := hval0
  have hW' := hW
  obtain ⟨p, q, hA0, hV, rfl, hfz, hnd⟩ := hW
  have hA : DataW.TrodAll enc Try.prog W 0 (fun _ => true) true Try.f7.params.toList args.toList ds p := hA0
  rw [Try.params7] at hA hval
  obtain ⟨v0, vs0, d0, ds0, p0, q0, hargs, rfl, rfl, h0, r0⟩ := trodAll_cons hA
  obtain ⟨v1, vs1, d1, ds1, p1, q1, rfl, rfl, rfl, h1, r1⟩ := trodAll_cons r0
  obtain ⟨rfl, rfl, rfl⟩ := trodAll_nil r1
  obtain rfl : args = #[v0, v1] := by cases args; simp_all
  obtain ⟨rfl, rfl⟩ := trodVars_none hV
  obtain ⟨a0_0, a0_1, a0_2, rfl, rfl, rfl, w0_0, w0_1, w0_2⟩ := open_arr3 Try.underlying32 Try.underlying2 (by kernel_rfl) (by kernel_rfl) (hval 0 32 v0 rfl rfl) h0
  obtain ⟨a1, rfl, rfl, rfl, w1⟩ := open_int Try.underlying2 (hval 1 2 v1 rfl rfl) h1
  clear hA0 hval0
  simp only [List.append_nil] at hW'
  refine (walk a0_0 a0_1 a0_2 a1 w0_0 w0_1 w0_2 w1 W).mono fun e W' ⟨he, hg⟩ => ?_
  subst he
  exact ⟨_, rfl, post_of_same (pa := []) (pv := []) hW' (fun _ _ _ => (trodAll_cons_mk (shut_bool Try.underlying4 _) trodAll_mk0)) (fun sp _ => (trodAll_cons_mk (shut_arr3 Try.underlying32 Try.underlying2 (by kernel_rfl) (by kernel_rfl) w0_0 w0_1 w0_2) (trodAll_cons_mk (shut_int Try.underlying2 w1) trodAll_mk0))) (fun _ _ => rfl) rfl
    (hg.frame _) hg.2.1 (ok_one (by kernel_rfl) rfl (okWide_bool_mk Try.underlying4 _))⟩

theorem over : Rows.modRulesRow.holds Try.pinned (OpenSpec.ofChange Rows.modRulesSpec) :=
  OpenClaim.holds_of_wide 7 Try.f7 rfl rfl rfl rfl rfl rfl rfl ⟨rfl, rfl, rfl, rfl, rfl⟩ rfl rfl rfl rfl rfl (by kernel_rfl) Try.func7 (by kernel_rfl)
    (of_decide_eq_true (by kernel_rfl)) (by unfold Func.isWrapper; first | (rw [if_pos (by decide +kernel)]; kernel_rfl) | (rw [if_neg (by decide +kernel)]; exact ⟨rfl, rfl⟩))
    (fun os started H enc _ => lifted os started H enc)

/-- the statement -/
theorem proved : Rows.ModRulesSaid :=
  over
#print axioms proved
end Go.Proofs.Ytjbhpgcibhgmbaa.modRules
