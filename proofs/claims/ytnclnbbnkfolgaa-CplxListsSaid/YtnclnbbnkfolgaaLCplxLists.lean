/- Of every two lists of floats, of any bits, Pairs and Parts make lists of numbers and of parts again, bit by bit, in new lists; lists of two lengths are refused.
   Conditions: none beyond the row's own. -/
import Derived.Test.YtnclnbbnkfolgaaWakes6
import Derived.Test.YtnclnbbnkfolgaaTurnC6
import Derived.Test.YtnclnbbnkfolgaaGuardC6
import Derived.Test.YtnclnbbnkfolgaaPairsC6
import Derived.Test.YtnclnbbnkfolgaaLCplxLists0
import Derived.Test.YtnclnbbnkfolgaaRows
import Derived.WalkKit
import Derived.ProofKit
import Derived.OpenShut
import Derived.ShutString
import Derived.Lib.SmallJoins
import Derived.Test.YtnclnbbnkfolgaaKeepA
namespace Go.Proofs.Ytnclnbbnkfolgaa.cplxLists
open Go.ChangeShapes Go.WideShapes Go.ChangeAt Go.RowKit Go.Proofs.Ytnclnbbnkfolgaa
set_option linter.unusedVariables false

theorem own : ownKnob Try.prog.godebug = none := by kernel_rfl

theorem bytes8 : Try.prog.bytesOf 2 = 8 := by kernel_rfl
theorem walk (v0 : Value) (z0 : List Int) (v1 : Value) (z1 : List Int) (w0 : ∀ z ∈ z0, (Lit.int .i64 z).wf = true) (w1 : ∀ z ∈ z1, (Lit.int .i64 z).wf = true) (w : World) (hv : IRow w v0 z0) (hn : z0.length * Try.prog.bytesOf 2 ≤ 140737488351232) (hv' : IRow w v1 z1) (hn' : z1.length * Try.prog.bytesOf 2 ≤ 140737488351232) :
    Calls Try.prog 7 #[v0, v1] w fun e w' => e = .returned (.bool true) ∧ Bel w w' := by
  rw [bytes8] at hn hn'
  obtain ⟨p0, c0, rfl, h0⟩ := IS6.of hv
  obtain ⟨p1, c1, rfl, h1⟩ := IS6.of hv'
  exact lists6 (wakes6 mul_said6 turn_said6 pairs_said6 guard_said6) p0 p1 c0 c1 z0 z1 w h0 h1 hn hn'

set_option maxRecDepth 100000 in
theorem lifted (os : Os) (started : os.Started) (H : Type) (enc : TypeId × Value → H) :
    ReturnsInHanded {} Try.checked os 7 .any (Rows.cplxListsSpec.pre6 enc Try.prog Try.f7 Rows.cplxListsRow.domain false) (Rows.cplxListsSpec.post enc Try.prog Try.f7 false true false false) := by
  refine returnsInHanded_of_change_sized (C := Try.checked) own started (by kernel_rfl) Try.func7
    (ChangeSpec.witness6 (enc := enc) (C := Try.checked) false ⟨#[], #[.slice none 0 0, .slice none 0 0], []⟩ 8 (by kernel_rfl) (by kernel_rfl) (by kernel_rfl) (by kernel_rfl)) ?_
  intro W base args ds gs before hval0 hW hcnd hsz _
  have hval : ∀ (j : Nat) t v, Try.f7.params[j]? = some t → args[j]? = some v → Value.okWide Try.prog W .any base t v := hval0
  have hW' := hW
  obtain ⟨p, q, hA0, hV, rfl, hfz, hnd⟩ := hW
  have hA : DataW.TrodAll enc Try.prog W 0 (fun _ => true) true Try.f7.params.toList args.toList ds p := hA0
  have hlt : ∀ x ∈ p, x.block < W.heap.size := DataW.TrodAll.lt hA
  have hK := hA
  rw [Try.params7] at hA hval
  obtain ⟨v0, vs0, d0, ds0, p0, q0, hargs, rfl, rfl, h0, r0⟩ := trodAll_cons hA
  obtain ⟨v1, vs1, d1, ds1, p1, q1, rfl, rfl, rfl, h1, r1⟩ := trodAll_cons r0
  obtain ⟨rfl, rfl, rfl⟩ := trodAll_nil r1
  have hKW := fun (W2 : World) (hb : Bel W W2) (sp : Nat → Bool) => trodAll_keep (sp := sp) (by kernel_rfl) hb (by kernel_rfl) hK hlt
  clear hK hlt
  obtain rfl : args = #[v0, v1] := by cases args; simp_all
  obtain ⟨rfl, rfl⟩ := trodVars_none hV
  obtain ⟨z0, hv0, w0⟩ := open_irow Try.underlying44 Try.underlying2 (by kernel_rfl) (hval 0 44 v0 rfl rfl) h0
  have n0 := PB.len hv0 (fun q l c e => slice_weight (j := 0) Try.underlying44 (e ▸ h0) hsz (by kernel_rfl) rfl)
  obtain ⟨z1, hv1, w1⟩ := open_irow Try.underlying44 Try.underlying2 (by kernel_rfl) (hval 1 44 v1 rfl rfl) h1
  have n1 := PB.len hv1 (fun q l c e => slice_weight (j := 1) Try.underlying44 (e ▸ h1) hsz (by kernel_rfl) rfl)
  clear hA0 hval0
  refine (walk v0 z0 v1 z1 w0 w1 W hv0 n0 hv1 n1).mono fun e W' ⟨he, hg⟩ => ?_
  subst he
  exact ⟨_, rfl, post_of_bel (pv := []) hW' (fun _ _ _ => (trodAll_cons_mk (shut_bool Try.underlying4 _) trodAll_mk0)) (fun sp hsp => hKW W' hg sp fun x hx => hsp x (List.mem_append_left _ hx)) (fun _ _ => rfl) rfl
    hg (ok_one (by kernel_rfl) rfl (okWide_bool_mk Try.underlying4 _))⟩

theorem over : Rows.cplxListsRow.holds Try.pinned (OpenSpec.ofChange Rows.cplxListsSpec) :=
  OpenClaim.holds_of_wide 7 Try.f7 rfl rfl rfl rfl rfl rfl rfl ⟨rfl, rfl, rfl, rfl, rfl⟩ rfl rfl rfl rfl rfl (by kernel_rfl) Try.func7 (by kernel_rfl)
    (of_decide_eq_true (by kernel_rfl)) (by unfold Func.isWrapper; first | (rw [if_pos (by decide +kernel)]; kernel_rfl) | (rw [if_neg (by decide +kernel)]; exact ⟨rfl, rfl⟩))
    (fun os started H enc _ => lifted os started H enc)

/-- the statement -/
theorem proved : Rows.CplxListsSaid :=
  over
#print axioms proved
end Go.Proofs.Ytnclnbbnkfolgaa.cplxLists
