/- What is gathered and scattered back to where it was changes nothing; the places that a stride goes to are all other ones.
   Conditions: none beyond the row's own. -/
import Derived.Test.YtniljnidpcgjgaaM5
import Derived.Test.YtniljnidpcgjgaaM4
import Derived.Test.YtniljnidpcgjgaaRows
import Derived.WalkKit
import Derived.ProofKit
import Derived.OpenShut
import Derived.ShutString
import Derived.Lib.SmallJoins
namespace Go.Proofs.Ytniljnidpcgjgaa.indexThere
open Go.ChangeShapes Go.WideShapes Go.ChangeAt Go.RowKit Go.Proofs.Ytniljnidpcgjgaa
set_option linter.unusedVariables false

theorem own : ownKnob Try.prog.godebug = none := by kernel_rfl

theorem bytesi : Try.prog.bytesOf 3 = 8 := by kernel_rfl
theorem walk (v0 : Value) (z0 : List Int) (a1_0 a1_1 a1_2 : Int) (w0 : ∀ z ∈ z0, (Lit.int .i64 z).wf = true) (w1_0 : (Lit.int .i64 a1_0).wf = true) (w1_1 : (Lit.int .i64 a1_1).wf = true) (w1_2 : (Lit.int .i64 a1_2).wf = true) (w : World) (hv0 : IRow w v0 z0) (hn0 : z0.length * Try.prog.bytesOf 3 ≤ 140737488351232) :
    Calls Try.prog 9 #[v0, .agg #[.int .i64 a1_0, .int .i64 a1_1, .int .i64 a1_2]] w fun e w' => e = .returned (.bool true) ∧ Bel w w' := by
  rw [bytesi] at hn0
  obtain ⟨b0, c0⟩ := bounds_i64 w1_0
  obtain ⟨b1, c1⟩ := bounds_i64 w1_1
  obtain ⟨b2, c2⟩ := bounds_i64 w1_2
  obtain ⟨p, n, ca, rfl, hA⟩ := IL.of hv0
  exact there7 (wakes7 dig_said rev_said cyc_said) gat_said sca_said sca_nil p n ca z0 a1_0 a1_1 a1_2 w hA (by rw [← hA.len]; exact hn0) (fun z hz => by obtain ⟨b, c⟩ := bounds_i64 (w0 z hz); unfold I64; omega) (by unfold I64; omega) (by unfold I64; omega) (by unfold I64; omega)

set_option maxRecDepth 100000 in
theorem lifted (os : Os) (started : os.Started) (H : Type) (enc : TypeId × Value → H) :
    ReturnsInHanded {} Try.checked os 9 .any (Rows.indexThereSpec.pre6 enc Try.prog Try.f9 Rows.indexThereRow.domain false) (Rows.indexThereSpec.post enc Try.prog Try.f9 false true false false) := by
  refine returnsInHanded_of_change_sized (C := Try.checked) own started (by kernel_rfl) Try.func9
    (ChangeSpec.witness6 (enc := enc) (C := Try.checked) false ⟨#[], #[.slice none 0 0, .agg #[.int .i64 0, .int .i64 0, .int .i64 0]], []⟩ 8 (by kernel_rfl) (by kernel_rfl) (by kernel_rfl) (by kernel_rfl)) ?_
  intro W base args ds gs before hval0 hW hcnd hsz _
  have hval : ∀ (j : Nat) t v, Try.f9.params[j]? = some t → args[j]? = some v → Value.okWide Try.prog W .any base t v := hval0
  have hW' := hW
  obtain ⟨p, q, hA0, hV, rfl, hfz, hnd⟩ := hW
  have hA : DataW.TrodAll enc Try.prog W 0 (fun _ => true) true Try.f9.params.toList args.toList ds p := hA0
  have hlt : ∀ x ∈ p, x.block < W.heap.size := DataW.TrodAll.lt hA
  have hK := hA
  rw [Try.params9] at hA hval
  obtain ⟨v0, vs0, d0, ds0, p0, q0, hargs, rfl, rfl, h0, r0⟩ := trodAll_cons hA
  obtain ⟨v1, vs1, d1, ds1, p1, q1, rfl, rfl, rfl, h1, r1⟩ := trodAll_cons r0
  obtain ⟨rfl, rfl, rfl⟩ := trodAll_nil r1
  have hKW := fun (W2 : World) (hb : Bel W W2) (sp : Nat → Bool) => trodAll_keep (sp := sp) (by kernel_rfl) hb (by kernel_rfl) hK hlt
  clear hK hlt
  obtain rfl : args = #[v0, v1] := by cases args; simp_all
  obtain ⟨rfl, rfl⟩ := trodVars_none hV
  obtain ⟨z0, hv0, w0⟩ := open_irow Try.underlying22 Try.underlying3 (by kernel_rfl) (hval 0 22 v0 rfl rfl) h0
  have n0 := PB.len hv0 (fun q l c e => slice_weight (j := 0) Try.underlying22 (e ▸ h0) hsz (by kernel_rfl) rfl)
  obtain ⟨a1_0, a1_1, a1_2, rfl, rfl, rfl, w1_0, w1_1, w1_2⟩ := open_arr3 Try.underlying42 Try.underlying3 (by kernel_rfl) (by kernel_rfl) (hval 1 42 v1 rfl rfl) h1
  clear hA0 hval0
  refine (walk v0 z0 a1_0 a1_1 a1_2 w0 w1_0 w1_1 w1_2 W hv0 n0).mono fun e W' ⟨he, hg⟩ => ?_
  subst he
  exact ⟨_, rfl, post_of_bel (pv := []) hW' (fun _ _ _ => (trodAll_cons_mk (shut_bool Try.underlying4 _) trodAll_mk0)) (fun sp hsp => hKW W' hg sp fun x hx => hsp x (List.mem_append_left _ hx)) (fun _ _ => rfl) rfl
    hg (ok_one (by kernel_rfl) rfl (okWide_bool_mk Try.underlying4 _))⟩

theorem over : Rows.indexThereRow.holds Try.pinned (OpenSpec.ofChange Rows.indexThereSpec) :=
  OpenClaim.holds_of_wide 9 Try.f9 rfl rfl rfl rfl rfl rfl rfl ⟨rfl, rfl, rfl, rfl, rfl⟩ rfl rfl rfl rfl rfl (by kernel_rfl) Try.func9 (by kernel_rfl)
    (of_decide_eq_true (by kernel_rfl)) (by unfold Func.isWrapper; first | (rw [if_pos (by decide +kernel)]; kernel_rfl) | (rw [if_neg (by decide +kernel)]; exact ⟨rfl, rfl⟩))
    (fun os started H enc _ => lifted os started H enc)

/-- the statement -/
theorem proved : Rows.IndexThereSaid :=
  over
#print axioms proved
end Go.Proofs.Ytniljnidpcgjgaa.indexThere
