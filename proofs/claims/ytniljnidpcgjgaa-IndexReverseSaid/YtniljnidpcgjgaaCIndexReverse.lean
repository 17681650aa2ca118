/- By every radices each number goes where the document says.
   Conditions: none beyond the row's own. -/
import Derived.Test.YtniljnidpcgjgaaM5
import Derived.Test.YtniljnidpcgjgaaM4
import Derived.Test.YtniljnidpcgjgaaRows
import Derived.WalkKit
import Derived.ProofKit
import Derived.OpenShut
import Derived.ShutString
import Derived.Lib.SmallJoins
namespace Go.Proofs.Ytniljnidpcgjgaa.indexReverse
open Go.ChangeShapes Go.WideShapes Go.ChangeAt Go.RowKit Go.Proofs.Ytniljnidpcgjgaa
set_option linter.unusedVariables false

theorem own : ownKnob Try.prog.godebug = none := by kernel_rfl

theorem bytesi : Try.prog.bytesOf 3 = 8 := by kernel_rfl
theorem walk (v0 : Value) (z0 : List Int) (w0 : ∀ z ∈ z0, (Lit.int .i64 z).wf = true) (w : World) (hv0 : IRow w v0 z0) (hn0 : z0.length * Try.prog.bytesOf 3 ≤ 140737488351232) :
    Calls Try.prog 4 #[v0] w fun e w' => e = .returned (.bool true) ∧ Bel w w' := by
  rw [bytesi] at hn0
  obtain ⟨p, n, ca, rfl, hA⟩ := IL.of hv0
  exact reverse7 (wakes7 dig_said rev_said cyc_said) rev_said p n ca z0 w hA (by rw [← hA.len]; exact hn0)

set_option maxRecDepth 100000 in
theorem lifted (os : Os) (started : os.Started) (H : Type) (enc : TypeId × Value → H) :
    ReturnsInHanded {} Try.checked os 4 .any (Rows.indexReverseSpec.pre6 enc Try.prog Try.f4 Rows.indexReverseRow.domain false) (Rows.indexReverseSpec.post enc Try.prog Try.f4 false true false false) := by
  refine returnsInHanded_of_change_sized (C := Try.checked) own started (by kernel_rfl) Try.func4
    (ChangeSpec.witness6 (enc := enc) (C := Try.checked) false ⟨#[], #[.slice none 0 0], []⟩ 8 (by kernel_rfl) (by kernel_rfl) (by kernel_rfl) (by kernel_rfl)) ?_
  intro W base args ds gs before hval0 hW hcnd hsz _
  have hval : ∀ (j : Nat) t v, Try.f4.params[j]? = some t → args[j]? = some v → Value.okWide Try.prog W .any base t v := hval0
  have hW' := hW
  obtain ⟨p, q, hA0, hV, rfl, hfz, hnd⟩ := hW
  have hA : DataW.TrodAll enc Try.prog W 0 (fun _ => true) true Try.f4.params.toList args.toList ds p := hA0
  have hlt : ∀ x ∈ p, x.block < W.heap.size := DataW.TrodAll.lt hA
  have hK := hA
  rw [Try.params4] at hA hval
  obtain ⟨v0, vs0, d0, ds0, p0, q0, hargs, rfl, rfl, h0, r0⟩ := trodAll_cons hA
  obtain ⟨rfl, rfl, rfl⟩ := trodAll_nil r0
  have hKW := fun (W2 : World) (hb : Bel W W2) (sp : Nat → Bool) => trodAll_keep (sp := sp) (by kernel_rfl) hb (by kernel_rfl) hK hlt
  clear hK hlt
  obtain rfl : args = #[v0] := by cases args; simp_all
  obtain ⟨rfl, rfl⟩ := trodVars_none hV
  obtain ⟨z0, hv0, w0⟩ := open_irow Try.underlying22 Try.underlying3 (by kernel_rfl) (hval 0 22 v0 rfl rfl) h0
  have n0 := PB.len hv0 (fun q l c e => slice_weight (j := 0) Try.underlying22 (e ▸ h0) hsz (by kernel_rfl) rfl)
  clear hA0 hval0
  refine (walk v0 z0 w0 W hv0 n0).mono fun e W' ⟨he, hg⟩ => ?_
  subst he
  exact ⟨_, rfl, post_of_bel (pv := []) hW' (fun _ _ _ => (trodAll_cons_mk (shut_bool Try.underlying4 _) trodAll_mk0)) (fun sp hsp => hKW W' hg sp fun x hx => hsp x (List.mem_append_left _ hx)) (fun _ _ => rfl) rfl
    hg (ok_one (by kernel_rfl) rfl (okWide_bool_mk Try.underlying4 _))⟩

theorem over : Rows.indexReverseRow.holds Try.pinned (OpenSpec.ofChange Rows.indexReverseSpec) :=
  OpenClaim.holds_of_wide 4 Try.f4 rfl rfl rfl rfl rfl rfl rfl ⟨rfl, rfl, rfl, rfl, rfl⟩ rfl rfl rfl rfl rfl (by kernel_rfl) Try.func4 (by kernel_rfl)
    (of_decide_eq_true (by kernel_rfl)) (by unfold Func.isWrapper; first | (rw [if_pos (by decide +kernel)]; kernel_rfl) | (rw [if_neg (by decide +kernel)]; exact ⟨rfl, rfl⟩))
    (fun os started H enc _ => lifted os started H enc)

/-- the statement -/
theorem proved : Rows.IndexReverseSaid :=
  over
#print axioms proved
end Go.Proofs.Ytniljnidpcgjgaa.indexReverse
