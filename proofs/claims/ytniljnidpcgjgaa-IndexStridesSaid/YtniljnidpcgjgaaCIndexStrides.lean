/- What is gathered, and what is scattered, is what the document says, at every stride; or is refused as it says, and nothing is changed.
   Conditions: none beyond the row's own. -/
import Derived.Test.YtniljnidpcgjgaaM5
import Derived.Test.YtniljnidpcgjgaaM4
import Derived.Test.YtniljnidpcgjgaaRows
import Derived.WalkKit
import Derived.ProofKit
import Derived.OpenShut
import Derived.ShutString
import Derived.Lib.SmallJoins
namespace Go.Proofs.Ytniljnidpcgjgaa.indexStrides
open Go.ChangeShapes Go.WideShapes Go.ChangeAt Go.RowKit Go.Proofs.Ytniljnidpcgjgaa
set_option linter.unusedVariables false

theorem own : ownKnob Try.prog.godebug = none := by kernel_rfl

theorem bytesi : Try.prog.bytesOf 3 = 8 := by kernel_rfl
theorem walk (v0 : Value) (z0 : List Int) (a1_0 a1_1 a1_2 : Int) (v2 : Value) (z2 : List Int) (w0 : ∀ z ∈ z0, (Lit.int .i64 z).wf = true) (w1_0 : (Lit.int .i64 a1_0).wf = true) (w1_1 : (Lit.int .i64 a1_1).wf = true) (w1_2 : (Lit.int .i64 a1_2).wf = true) (w2 : ∀ z ∈ z2, (Lit.int .i64 z).wf = true) (w : World) (hv0 : IRow w v0 z0) (hn0 : z0.length * Try.prog.bytesOf 3 ≤ 140737488351232) (hv2 : IRow w v2 z2) (hn2 : z2.length * Try.prog.bytesOf 3 ≤ 140737488351232) :
    Calls Try.prog 6 #[v0, .agg #[.int .i64 a1_0, .int .i64 a1_1, .int .i64 a1_2], v2] w fun e w' => e = .returned (.bool true) ∧ Bel w w' := by
  rw [bytesi] at hn0 hn2
  obtain ⟨b0, c0⟩ := bounds_i64 w1_0
  obtain ⟨b1, c1⟩ := bounds_i64 w1_1
  obtain ⟨b2, c2⟩ := bounds_i64 w1_2
  obtain ⟨p, n, ca, rfl, hA⟩ := IL.of hv0
  obtain ⟨q, m, cb, rfl, hB⟩ := IL.of hv2
  have key : ∃ c, (¬ 5000 < a1_2 ∧ c = a1_2) ∨ (5000 < a1_2 ∧ a1_0 < 0 ∧ c = a1_2) ∨ (5000 < a1_2 ∧ 0 ≤ a1_0 ∧ a1_1 < 1 ∧ c = a1_2) ∨ (5000 < a1_2 ∧ 0 ≤ a1_0 ∧ 1 ≤ a1_1 ∧ c = 5000) := by
    by_cases h1 : 5000 < a1_2
    · by_cases h2 : a1_0 < 0
      · exact ⟨_, Or.inr (Or.inl ⟨h1, h2, rfl⟩)⟩
      · by_cases h3 : a1_1 < 1
        · exact ⟨_, Or.inr (Or.inr (Or.inl ⟨h1, by omega, h3, rfl⟩))⟩
        · exact ⟨_, Or.inr (Or.inr (Or.inr ⟨h1, by omega, by omega, rfl⟩))⟩
    · exact ⟨_, Or.inl ⟨h1, rfl⟩⟩
  obtain ⟨c, hc⟩ := key
  exact strides7 (wakes7 dig_said rev_said cyc_said) gat_said sca_said sca_nil p q n m ca cb z0 z2 a1_0 a1_1 a1_2 c w hA hB (by rw [← hA.len]; exact hn0) (by rw [← hB.len]; exact hn2) (by unfold I64; omega) (by unfold I64; omega) (by unfold I64; omega) hc

set_option maxRecDepth 100000 in
theorem lifted (os : Os) (started : os.Started) (H : Type) (enc : TypeId × Value → H) :
    ReturnsInHanded {} Try.checked os 6 .any (Rows.indexStridesSpec.pre6 enc Try.prog Try.f6 Rows.indexStridesRow.domain false) (Rows.indexStridesSpec.post enc Try.prog Try.f6 false true false false) := by
  refine returnsInHanded_of_change_sized (C := Try.checked) own started (by kernel_rfl) Try.func6
    (ChangeSpec.witness6 (enc := enc) (C := Try.checked) false ⟨#[], #[.slice none 0 0, .agg #[.int .i64 0, .int .i64 0, .int .i64 0], .slice none 0 0], []⟩ 8 (by kernel_rfl) (by kernel_rfl) (by kernel_rfl) (by kernel_rfl)) ?_
  intro W base args ds gs before hval0 hW hcnd hsz _
  have hval : ∀ (j : Nat) t v, Try.f6.params[j]? = some t → args[j]? = some v → Value.okWide Try.prog W .any base t v := hval0
  have hW' := hW
  obtain ⟨p, q, hA0, hV, rfl, hfz, hnd⟩ := hW
  have hA : DataW.TrodAll enc Try.prog W 0 (fun _ => true) true Try.f6.params.toList args.toList ds p := hA0
  have hlt : ∀ x ∈ p, x.block < W.heap.size := DataW.TrodAll.lt hA
  have hK := hA
  rw [Try.params6] at hA hval
  obtain ⟨v0, vs0, d0, ds0, p0, q0, hargs, rfl, rfl, h0, r0⟩ := trodAll_cons hA
  obtain ⟨v1, vs1, d1, ds1, p1, q1, rfl, rfl, rfl, h1, r1⟩ := trodAll_cons r0
  obtain ⟨v2, vs2, d2, ds2, p2, q2, rfl, rfl, rfl, h2, r2⟩ := trodAll_cons r1
  obtain ⟨rfl, rfl, rfl⟩ := trodAll_nil r2
  have hKW := fun (W2 : World) (hb : Bel W W2) (sp : Nat → Bool) => trodAll_keep (sp := sp) (by kernel_rfl) hb (by kernel_rfl) hK hlt
  clear hK hlt
  obtain rfl : args = #[v0, v1, v2] := by cases args; simp_all
  obtain ⟨rfl, rfl⟩ := trodVars_none hV
  obtain ⟨z0, hv0, w0⟩ := open_irow Try.underlying22 Try.underlying3 (by kernel_rfl) (hval 0 22 v0 rfl rfl) h0
  have n0 := PB.len hv0 (fun q l c e => slice_weight (j := 0) Try.underlying22 (e ▸ h0) hsz (by kernel_rfl) rfl)
  obtain ⟨a1_0, a1_1, a1_2, rfl, rfl, rfl, w1_0, w1_1, w1_2⟩ := open_arr3 Try.underlying42 Try.underlying3 (by kernel_rfl) (by kernel_rfl) (hval 1 42 v1 rfl rfl) h1
  obtain ⟨z2, hv2, w2⟩ := open_irow Try.underlying22 Try.underlying3 (by kernel_rfl) (hval 2 22 v2 rfl rfl) h2
  have n2 := PB.len hv2 (fun q l c e => slice_weight (j := 2) Try.underlying22 (e ▸ h2) hsz (by kernel_rfl) rfl)
  clear hA0 hval0
  refine (walk v0 z0 a1_0 a1_1 a1_2 v2 z2 w0 w1_0 w1_1 w1_2 w2 W hv0 n0 hv2 n2).mono fun e W' ⟨he, hg⟩ => ?_
  subst he
  exact ⟨_, rfl, post_of_bel (pv := []) hW' (fun _ _ _ => (trodAll_cons_mk (shut_bool Try.underlying4 _) trodAll_mk0)) (fun sp hsp => hKW W' hg sp fun x hx => hsp x (List.mem_append_left _ hx)) (fun _ _ => rfl) rfl
    hg (ok_one (by kernel_rfl) rfl (okWide_bool_mk Try.underlying4 _))⟩

theorem over : Rows.indexStridesRow.holds Try.pinned (OpenSpec.ofChange Rows.indexStridesSpec) :=
  OpenClaim.holds_of_wide 6 Try.f6 rfl rfl rfl rfl rfl rfl rfl ⟨rfl, rfl, rfl, rfl, rfl⟩ rfl rfl rfl rfl rfl (by kernel_rfl) Try.func6 (by kernel_rfl)
    (of_decide_eq_true (by kernel_rfl)) (by unfold Func.isWrapper; first | (rw [if_pos (by decide +kernel)]; kernel_rfl) | (rw [if_neg (by decide +kernel)]; exact ⟨rfl, rfl⟩))
    (fun os started H enc _ => lifted os started H enc)

/-- the statement -/
theorem proved : Rows.IndexStridesSaid :=
  over
#print axioms proved
end Go.Proofs.Ytniljnidpcgjgaa.indexStrides
