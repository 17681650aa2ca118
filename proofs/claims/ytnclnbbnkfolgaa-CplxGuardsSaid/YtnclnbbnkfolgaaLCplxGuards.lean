/- The first number of every list that may not be transformed is what the document says.
   Conditions: none beyond the row's own. -/
import Derived.Test.YtnclnbbnkfolgaaWakes6
import Derived.Test.YtnclnbbnkfolgaaTurnC6
import Derived.Test.YtnclnbbnkfolgaaGuardC6
import Derived.Test.YtnclnbbnkfolgaaPairsC6
import Derived.Test.YtnclnbbnkfolgaaLCplxGuards0
import Derived.Test.YtnclnbbnkfolgaaRows
import Derived.WalkKit
import Derived.ProofKit
import Derived.OpenShut
import Derived.ShutString
import Derived.Lib.SmallJoins
import Derived.Test.YtnclnbbnkfolgaaKeepA
namespace Go.Proofs.Ytnclnbbnkfolgaa.cplxGuards
open Go.ChangeShapes Go.WideShapes Go.ChangeAt Go.RowKit Go.Proofs.Ytnclnbbnkfolgaa
set_option linter.unusedVariables false

theorem own : ownKnob Try.prog.godebug = none := by kernel_rfl

theorem bytes2 : Try.prog.bytesOf 22 = 16 := by kernel_rfl
theorem walk (v0 : Value) (z0 : List (Int × Int)) (w : World) (hv : PRow w v0 z0) (hn : z0.length * Try.prog.bytesOf 22 ≤ 140737488351232) :
    Calls Try.prog 6 #[v0] w fun e w' => e = .returned (.bool true) ∧ Bel w w' := by
  rw [bytes2] at hn
  have hwk : WakesSaid6 := wakes6 mul_said6 turn_said6 pairs_said6 guard_said6
  cases hv with
  | nil => exact guards6_nil hwk guard_said6 _ _ w
  | none a cap => exact guards6_nil hwk guard_said6 _ _ w
  | some b off cap _ h0 hc hm hb hcell => exact guards6 hwk guard_said6 b off cap z0 w h0 hc hn hb hcell

set_option maxRecDepth 100000 in
theorem lifted (os : Os) (started : os.Started) (H : Type) (enc : TypeId × Value → H) :
    ReturnsInHanded {} Try.checked os 6 .any (Rows.cplxGuardsSpec.pre6 enc Try.prog Try.f6 Rows.cplxGuardsRow.domain false) (Rows.cplxGuardsSpec.post enc Try.prog Try.f6 false true false false) := by
  refine returnsInHanded_of_change_sized (C := Try.checked) own started (by kernel_rfl) Try.func6
    (ChangeSpec.witness6 (enc := enc) (C := Try.checked) false ⟨#[], #[.slice none 0 0], []⟩ 8 (by kernel_rfl) (by kernel_rfl) (by kernel_rfl) (by kernel_rfl)) ?_
  intro W base args ds gs before hval0 hW hcnd hsz _
  have hval : ∀ (j : Nat) t v, Try.f6.params[j]? = some t → args[j]? = some v → Value.okWide Try.prog W .any base t v := hval0
  have hW' := hW
  obtain ⟨p, q, hA0, hV, rfl, hfz, hnd⟩ := hW
  have hA : DataW.TrodAll enc Try.prog W 0 (fun _ => true) true Try.f6.params.toList args.toList ds p := hA0
  have hlt : ∀ x ∈ p, x.block < W.heap.size := DataW.TrodAll.lt hA
  have hK := hA
  rw [Try.params6] at hA hval
  obtain ⟨v0, vs0, d0, ds0, p0, q0, hargs, rfl, rfl, h0, r0⟩ := trodAll_cons hA
  obtain ⟨rfl, rfl, rfl⟩ := trodAll_nil r0
  have hKW := fun (W2 : World) (hb : Bel W W2) (sp : Nat → Bool) => trodAll_keep (sp := sp) (by kernel_rfl) hb (by kernel_rfl) hK hlt
  clear hK hlt
  obtain rfl : args = #[v0] := by cases args; simp_all
  obtain ⟨rfl, rfl⟩ := trodVars_none hV
  obtain ⟨z0, hv0⟩ := open_prow Try.underlying37 Try.underlying22 Try.underlying2 (by kernel_rfl) (by kernel_rfl) (hval 0 37 v0 rfl rfl) h0
  have n0 := PA.len hv0 (fun q l c e => slice_weight (j := 0) Try.underlying37 (e ▸ h0) hsz (by kernel_rfl) rfl)
  clear hA0 hval0
  refine (walk v0 z0 W hv0 n0).mono fun e W' ⟨he, hg⟩ => ?_
  subst he
  exact ⟨_, rfl, post_of_bel (pv := []) hW' (fun _ _ _ => (trodAll_cons_mk (shut_bool Try.underlying4 _) trodAll_mk0)) (fun sp hsp => hKW W' hg sp fun x hx => hsp x (List.mem_append_left _ hx)) (fun _ _ => rfl) rfl
    hg (ok_one (by kernel_rfl) rfl (okWide_bool_mk Try.underlying4 _))⟩

theorem over : Rows.cplxGuardsRow.holds Try.pinned (OpenSpec.ofChange Rows.cplxGuardsSpec) :=
  OpenClaim.holds_of_wide 6 Try.f6 rfl rfl rfl rfl rfl rfl rfl ⟨rfl, rfl, rfl, rfl, rfl⟩ rfl rfl rfl rfl rfl (by kernel_rfl) Try.func6 (by kernel_rfl)
    (of_decide_eq_true (by kernel_rfl)) (by unfold Func.isWrapper; first | (rw [if_pos (by decide +kernel)]; kernel_rfl) | (rw [if_neg (by decide +kernel)]; exact ⟨rfl, rfl⟩))
    (fun os started H enc _ => lifted os started H enc)

/-- the statement -/
theorem proved : Rows.CplxGuardsSaid :=
  over
#print axioms proved
end Go.Proofs.Ytnclnbbnkfolgaa.cplxGuards
