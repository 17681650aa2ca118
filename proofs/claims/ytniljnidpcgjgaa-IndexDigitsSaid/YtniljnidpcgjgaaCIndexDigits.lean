/- Every number has the digits by every radices that the document says, and all digits the number that it says; or they are refused as it says.
   Conditions: none beyond the row's own. -/
import Derived.Test.YtniljnidpcgjgaaM5
import Derived.Test.YtniljnidpcgjgaaM4
import Derived.Test.YtniljnidpcgjgaaRows
import Derived.WalkKit
import Derived.ProofKit
import Derived.OpenShut
import Derived.ShutString
import Derived.Lib.SmallJoins
namespace Go.Proofs.Ytniljnidpcgjgaa.indexDigits
open Go.ChangeShapes Go.WideShapes Go.ChangeAt Go.RowKit Go.Proofs.Ytniljnidpcgjgaa
set_option linter.unusedVariables false

theorem own : ownKnob Try.prog.godebug = none := by kernel_rfl

theorem bytesi : Try.prog.bytesOf 3 = 8 := by kernel_rfl
theorem walk (a0 : Int) (v1 : Value) (z1 : List Int) (v2 : Value) (z2 : List Int) (w0 : (Lit.int .i64 a0).wf = true) (w1 : ∀ z ∈ z1, (Lit.int .i64 z).wf = true) (w2 : ∀ z ∈ z2, (Lit.int .i64 z).wf = true) (w : World) (hv1 : IRow w v1 z1) (hn1 : z1.length * Try.prog.bytesOf 3 ≤ 140737488351232) (hv2 : IRow w v2 z2) (hn2 : z2.length * Try.prog.bytesOf 3 ≤ 140737488351232) :
    Calls Try.prog 3 #[.int .i64 a0, v1, v2] w fun e w' => e = .returned (.bool true) ∧ Bel w w' := by
  rw [bytesi] at hn1 hn2
  obtain ⟨b0, c0⟩ := bounds_i64 w0
  obtain ⟨p, n, ca, rfl, hA⟩ := IL.of hv1
  obtain ⟨q, m, cb, rfl, hB⟩ := IL.of hv2
  exact digits7 (wakes7 dig_said rev_said cyc_said) dig_said num_said a0 p q n m ca cb z1 z2 w hA hB (by rw [← hA.len]; exact hn1) (by rw [← hB.len]; exact hn2) ⟨by omega, by omega⟩

set_option maxRecDepth 100000 in
theorem lifted (os : Os) (started : os.Started) (H : Type) (enc : TypeId × Value → H) :
    ReturnsInHanded {} Try.checked os 3 .any (Rows.indexDigitsSpec.pre6 enc Try.prog Try.f3 Rows.indexDigitsRow.domain false) (Rows.indexDigitsSpec.post enc Try.prog Try.f3 false true false false) := by
  refine returnsInHanded_of_change_sized (C := Try.checked) own started (by kernel_rfl) Try.func3
    (ChangeSpec.witness6 (enc := enc) (C := Try.checked) false ⟨#[], #[.int .i64 0, .slice none 0 0, .slice none 0 0], []⟩ 8 (by kernel_rfl) (by kernel_rfl) (by kernel_rfl) (by kernel_rfl)) ?_
  intro W base args ds gs before hval0 hW hcnd hsz _
  have hval : ∀ (j : Nat) t v, Try.f3.params[j]? = some t → args[j]? = some v → Value.okWide Try.prog W .any base t v := hval0
  have hW' := hW
  obtain ⟨p, q, hA0, hV, rfl, hfz, hnd⟩ := hW
  have hA : DataW.TrodAll enc Try.prog W 0 (fun _ => true) true Try.f3.params.toList args.toList ds p := hA0
  have hlt : ∀ x ∈ p, x.block < W.heap.size := DataW.TrodAll.lt hA
  have hK := hA
  rw [Try.params3] at hA hval
  obtain ⟨v0, vs0, d0, ds0, p0, q0, hargs, rfl, rfl, h0, r0⟩ := trodAll_cons hA
  obtain ⟨v1, vs1, d1, ds1, p1, q1, rfl, rfl, rfl, h1, r1⟩ := trodAll_cons r0
  obtain ⟨v2, vs2, d2, ds2, p2, q2, rfl, rfl, rfl, h2, r2⟩ := trodAll_cons r1
  obtain ⟨rfl, rfl, rfl⟩ := trodAll_nil r2
  have hKW := fun (W2 : World) (hb : Bel W W2) (sp : Nat → Bool) => trodAll_keep (sp := sp) (by kernel_rfl) hb (by kernel_rfl) hK hlt
  clear hK hlt
  obtain rfl : args = #[v0, v1, v2] := by cases args; simp_all
  obtain ⟨rfl, rfl⟩ := trodVars_none hV
  obtain ⟨a0, rfl, rfl, rfl, w0⟩ := open_int Try.underlying3 (hval 0 3 v0 rfl rfl) h0
  obtain ⟨z1, hv1, w1⟩ := open_irow Try.underlying22 Try.underlying3 (by kernel_rfl) (hval 1 22 v1 rfl rfl) h1
  have n1 := PB.len hv1 (fun q l c e => slice_weight (j := 1) Try.underlying22 (e ▸ h1) hsz (by kernel_rfl) rfl)
  obtain ⟨z2, hv2, w2⟩ := open_irow Try.underlying22 Try.underlying3 (by kernel_rfl) (hval 2 22 v2 rfl rfl) h2
  have n2 := PB.len hv2 (fun q l c e => slice_weight (j := 2) Try.underlying22 (e ▸ h2) hsz (by kernel_rfl) rfl)
  clear hA0 hval0
  refine (walk a0 v1 z1 v2 z2 w0 w1 w2 W hv1 n1 hv2 n2).mono fun e W' ⟨he, hg⟩ => ?_
  subst he
  exact ⟨_, rfl, post_of_bel (pv := []) hW' (fun _ _ _ => (trodAll_cons_mk (shut_bool Try.underlying4 _) trodAll_mk0)) (fun sp hsp => hKW W' hg sp fun x hx => hsp x (List.mem_append_left _ hx)) (fun _ _ => rfl) rfl
    hg (ok_one (by kernel_rfl) rfl (okWide_bool_mk Try.underlying4 _))⟩

theorem over : Rows.indexDigitsRow.holds Try.pinned (OpenSpec.ofChange Rows.indexDigitsSpec) :=
  OpenClaim.holds_of_wide 3 Try.f3 rfl rfl rfl rfl rfl rfl rfl ⟨rfl, rfl, rfl, rfl, rfl⟩ rfl rfl rfl rfl rfl (by kernel_rfl) Try.func3 (by kernel_rfl)
    (of_decide_eq_true (by kernel_rfl)) (by unfold Func.isWrapper; first | (rw [if_pos (by decide +kernel)]; kernel_rfl) | (rw [if_neg (by decide +kernel)]; exact ⟨rfl, rfl⟩))
    (fun os started H enc _ => lifted os started H enc)

/-- the statement -/
theorem proved : Rows.IndexDigitsSaid :=
  over
#print axioms proved
end Go.Proofs.Ytniljnidpcgjgaa.indexDigits
