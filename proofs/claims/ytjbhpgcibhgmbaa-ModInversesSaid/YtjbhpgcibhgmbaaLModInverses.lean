/- Every number has an inverse by a modulus just where the document says so, and it is one.
   Conditions: none beyond the row's own. -/
import Derived.Test.YtjbhpgcibhgmbaaLaw1
import Derived.Test.YtjbhpgcibhgmbaaRows
import Derived.WalkKit
import Derived.ProofKit
import Derived.OpenShut
import Derived.ShutString
import Derived.Lib.SmallJoins
namespace Go.Proofs.Ytjbhpgcibhgmbaa.modInverses
open Go.ChangeShapes Go.WideShapes Go.ChangeAt Go.RowKit Go.Proofs.Ytjbhpgcibhgmbaa
set_option linter.unusedVariables false

theorem own : ownKnob Try.prog.godebug = none := by kernel_rfl

theorem walk (a0 : Int) (a1 : Int) (w0 : (Lit.int .i64 a0).wf = true) (w1 : (Lit.int .i64 a1).wf = true) (w : World) :
    Calls Try.prog 6 #[.int .i64 a0, .int .i64 a1] w fun e w' => e = .returned (.bool true) ∧ Grown w w' := by
  obtain ⟨b1, c1⟩ := bounds_i64 w1
  clear w0 w1
  go_enter Try.func6, Try.ntmps6
  go_wp2_with fail
  refine (modulus_any a1 _ b1 c1).mono ?_; rintro e w1 ⟨rfl, rfl⟩
  go_wp2
  go_loopw [14, 6, 7, 8] (fun i _ _ _ wr => ∃ k : Nat, k ≤ 2 ∧ i = .int .i64 k ∧ Grown (w.alloc (Obj.cells #[Value.int IntKind.i64 a1, Value.int IntKind.i64 (modu a1)] 2)) wr) (fun i _ _ _ _ => 2 - (intOf i).toNat)
  case atStart => exact ⟨0, by omega, rfl, Grown.refl _⟩
  case round =>
    obtain ⟨k, hk, rfl, hg⟩ := hrel
    by_cases hlt : k < 2
    · have hcell : ∃ n, wr.cell? ⟨w.heap.size, k, none⟩ = some (.int .i64 n) := by
        have hc := hg.1.cell (b := w.heap.size) (off := k) (by simp) (fun f => f)
        rw [hc]
        rcases (by omega : k = 0 ∨ k = 1) with rfl | rfl
        · exact ⟨a1, by simp [World.cell?_alloc_new]⟩
        · exact ⟨modu a1, by simp [World.cell?_alloc_new]⟩
      obtain ⟨n, hn⟩ := hcell
      by_cases hh : 1 ≤ n ∧ n ≤ 4611686018427387904 ∧ (Int.gcd n (a0 % n) : Int) = 1
      · have hH : hasInv a0 n = true := decide_eq_true hh
        have HH := Lib.hid hH; clear hH
        obtain ⟨h1, h2, h3⟩ := hh
        have H3 := Lib.hid h3; clear h3
        go_wp2_with fail
        refine (inv_yes a0 n _ h1 h2 H3.out).mono ?_; rintro e w1 ⟨⟨b, rfl, b0, b1, hb⟩, g1⟩
        have HB := Lib.hid hb; clear hb
        go_wp2_with fail
        refine (hasInv_any a0 n _).mono ?_; rintro e w2 ⟨rfl, rfl⟩
        rw [HH.out]
        go_wp2_with fail
        refine (isInv_yes a0 b n _ h1 h2 b0 b1 HB.out).mono ?_; rintro e w3 ⟨rfl, rfl⟩
        go_wp2
        go_roundw
        case rel => exact ⟨k + 1, by omega, by go_num, hg.trans g1⟩
        case measure => simp [intOf]; omega
      · have hH : hasInv a0 n = false := decide_eq_false hh
        have HH := Lib.hid hH; clear hH
        have H3 := Lib.hid hh; clear hh
        go_wp2_with fail
        refine (inv_no a0 n _ (by have := H3.out; omega)).mono ?_; rintro e w1 ⟨rfl, g1⟩
        go_wp2_with fail
        refine (hasInv_any a0 n _).mono ?_; rintro e w2 ⟨rfl, rfl⟩
        rw [HH.out]
        go_wp2
        go_roundw
        case rel => exact ⟨k + 1, by omega, by go_num, hg.trans g1⟩
        case measure => simp [intOf]; omega
    · go_wp2_with fail
      refine (wakes_any _).mono ?_; rintro e w3 ⟨rfl, g3⟩
      go_wp2
      go_ret
      exact ⟨rfl, (((Grown.refl _).alloc _ _).trans hg).trans g3⟩


set_option maxRecDepth 100000 in
theorem lifted (os : Os) (started : os.Started) (H : Type) (enc : TypeId × Value → H) :
    ReturnsInHanded {} Try.checked os 6 .any (Rows.modInversesSpec.pre6 enc Try.prog Try.f6 Rows.modInversesRow.domain false) (Rows.modInversesSpec.post enc Try.prog Try.f6 false true false false) := by
  refine returnsInHanded_of_change (C := Try.checked) own started (by kernel_rfl) Try.func6
    (ChangeSpec.witness6 (enc := enc) (C := Try.checked) false ⟨#[], #[.int .i64 0, .int .i64 0], []⟩ 8 (by kernel_rfl) (by kernel_rfl) (by kernel_rfl) (by kernel_rfl)) ?_
  intro W base args ds gs before hval0 hW hcnd _
  have hval : ∀ (j : Nat) t v, Try.f6.params[j]? = some t → args[j]? = some v → Value.okWide Try.prog W .any base t v := hval0
  have hW' := hW
  obtain ⟨p, q, hA0, hV, rfl, hfz, hnd⟩ := hW
  have hA : DataW.TrodAll enc Try.prog W 0 (fun _ => true) true Try.f6.params.toList args.toList ds p := hA0
  rw [Try.params6] at hA hval
  obtain ⟨v0, vs0, d0, ds0, p0, q0, hargs, rfl, rfl, h0, r0⟩ := trodAll_cons hA
  obtain ⟨v1, vs1, d1, ds1, p1, q1, rfl, rfl, rfl, h1, r1⟩ := trodAll_cons r0
  obtain ⟨rfl, rfl, rfl⟩ := trodAll_nil r1
  obtain rfl : args = #[v0, v1] := by cases args; simp_all
  obtain ⟨rfl, rfl⟩ := trodVars_none hV
  obtain ⟨a0, rfl, rfl, rfl, w0⟩ := open_int Try.underlying2 (hval 0 2 v0 rfl rfl) h0
  obtain ⟨a1, rfl, rfl, rfl, w1⟩ := open_int Try.underlying2 (hval 1 2 v1 rfl rfl) h1
  clear hA0 hval0
  simp only [List.append_nil] at hW'
  refine (walk a0 a1 w0 w1 W).mono fun e W' ⟨he, hg⟩ => ?_
  subst he
  exact ⟨_, rfl, post_of_same (pa := []) (pv := []) hW' (fun _ _ _ => (trodAll_cons_mk (shut_bool Try.underlying4 _) trodAll_mk0)) (fun sp _ => (trodAll_cons_mk (shut_int Try.underlying2 w0) (trodAll_cons_mk (shut_int Try.underlying2 w1) trodAll_mk0))) (fun _ _ => rfl) rfl
    (hg.frame _) hg.2.1 (ok_one (by kernel_rfl) rfl (okWide_bool_mk Try.underlying4 _))⟩

theorem over : Rows.modInversesRow.holds Try.pinned (OpenSpec.ofChange Rows.modInversesSpec) :=
  OpenClaim.holds_of_wide 6 Try.f6 rfl rfl rfl rfl rfl rfl rfl ⟨rfl, rfl, rfl, rfl, rfl⟩ rfl rfl rfl rfl rfl (by kernel_rfl) Try.func6 (by kernel_rfl)
    (of_decide_eq_true (by kernel_rfl)) (by unfold Func.isWrapper; first | (rw [if_pos (by decide +kernel)]; kernel_rfl) | (rw [if_neg (by decide +kernel)]; exact ⟨rfl, rfl⟩))
    (fun os started H enc _ => lifted os started H enc)

/-- the statement -/
theorem proved : Rows.ModInversesSaid :=
  over
#print axioms proved
end Go.Proofs.Ytjbhpgcibhgmbaa.modInverses
