/- Of every number the program gives the primes that the document asks for, and how often each divides; of numbers out of range none. That no other number up to 2^40 passes the program test for primes is shown by a finite search in the kernel.
   Conditions: none beyond the row's own. -/
import Derived.Test.YtcglffigbdglpaaDoorWakes2
import Derived.Test.YtcglffigbdglpaaDoorLaid2
import Derived.Test.YtcglffigbdglpaaDoorRefFac
import Derived.Test.YtcglffigbdglpaaDoorSound
import Derived.BigQuiet
import Derived.Deep.QuietTactic
import Derived.Deep.CutBlock
import Derived.Test.YtcglffigbdglpaaDoorRows
import Derived.Test.YtcglffigbdglpaaDoorCards
import Derived.Test.YtcglffigbdglpaaDoorTie
import Derived.SevenTiedAt
import Derived.WalkKit
import Derived.ProofKit
import Derived.OpenShut
import Derived.LaidMore
import Derived.ShutString
import Derived.Lib.SmallJoins
namespace Go.Proofs.YtcglffigbdglpaaDoor.primeFactors
open Go.ChangeShapes Go.WideShapes Go.ChangeAt Go.RowKit Go.Proofs.YtcglffigbdglpaaDoor
set_option linter.unusedVariables false

theorem own : ownKnob Tryd.prog.godebug = none := by kernel_rfl

/-- what the program's factors are -/
theorem factor_same {n : Int} {l : List (Int × Nat)} (h1 : 1 ≤ n) (h2 : n ≤ 1099511627776) (h : IsFacB n l) : l = Dia.facS n :=
  (Dia.facS_eq h1 h2 (h.isFac fun m hm hb => isB_sound (by omega) hb)).symm

set_option maxHeartbeats 2000000 in
theorem walk (n : Int) (wn : (Lit.int .i64 n).wf = true) (w : World) (hB : Bases w) :
    Calls Tryd.prog 5 #[.int .i64 n] w fun e w' => e = .returned (.bool true) ∧ Bel w w' := by
  obtain ⟨b0, c0⟩ := bounds_i64 wn
  clear wn
  have hcontract : Calls Tryd.prog 14 #[.int .i64 n] w fun e w' => ∃ v, e = .returned v ∧ RowAt w' v (Dia.facS n) w.heap.size ∧ (Dia.facS n).length ≤ 40 ∧ Bel w w' := by
    by_cases h : n < 1 ∨ 1099511627776 < n
    · refine (factor_no n _ h).mono ?_; rintro e w1 ⟨rfl, rfl⟩
      exact ⟨_, rfl, ⟨Or.inl ⟨rfl, Dia.facS_no h⟩⟩, by rw [Dia.facS_no h]; simp, Bel.refl _⟩
    · refine (factor_yes n _ hB (by omega) (by omega)).mono ?_; rintro e w1 ⟨v, l, rfl, hF, hown, g1⟩
      have hlen := hF.len (by omega)
      rw [factor_same (by omega) (by omega) hF] at hown hlen
      exact ⟨_, rfl, RowAt.of hown, hlen, g1⟩
  obtain ⟨l, hl⟩ : ∃ l, l = Dia.facS n := ⟨_, rfl⟩
  go_enter Tryd.func5, Tryd.ntmps5
  go_wp2_with fail
  refine hcontract.mono ?_; rintro e w1 ⟨v, rfl, hR1, hlen, g1⟩
  clear hcontract
  go_wp2_with fail
  refine (refFactor_any n _ c0).mono ?_; rintro e w2 ⟨⟨u, rfl, hown⟩, g2⟩
  have hQ2 := RowAt.of hown
  have b2 := g1.trans g2
  clear hown
  rw [← hl] at hR1 hQ2 hlen
  clear hl
  have hR2 := hR1.bel g2
  clear hR1
  go_wp2_with fail
  refine (wakes_any _ (hB.bel b2)).mono ?_; rintro e w3 ⟨rfl, g3⟩
  have b3 := b2.trans g3
  have hR := hR2.bel g3
  have hQ := hQ2.bel g3
  clear hR2 hQ2
  rcases hR.form with ⟨rfl, hl1⟩ | ⟨g, cap, rfl, hg1, hg2, hc, hm, hcells⟩
  · rcases hQ.form with ⟨rfl, hl2⟩ | ⟨g', cap', rfl, hg1', hg2', hc', hm', hcells'⟩
    · go_wp2_with fail
      go_loopw [21] (fun y wr => y = .int .i64 0 ∧ wr = w3) (fun _ _ => 0)
      case atStart => exact ⟨rfl, rfl⟩
      case round =>
        obtain ⟨rfl, rfl⟩ := hrel
        go_wp2
        go_ret
        exact ⟨rfl, b3⟩
    · subst hl1
      go_wp2_with fail
      go_loopw [21] (fun y wr => y = .int .i64 0 ∧ wr = w3) (fun _ _ => 0)
      case atStart => exact ⟨rfl, rfl⟩
      case round =>
        obtain ⟨rfl, rfl⟩ := hrel
        go_wp2
        go_ret
        exact ⟨rfl, b3⟩
  · rcases hQ.form with ⟨rfl, hl2⟩ | ⟨g', cap', rfl, hg1', hg2', hc', hm', hcells'⟩
    · subst hl2
      go_wp2_with fail
      go_loopw [21] (fun y wr => y = .int .i64 0 ∧ wr = w3) (fun _ _ => 0)
      case atStart => exact ⟨rfl, rfl⟩
      case round =>
        obtain ⟨rfl, rfl⟩ := hrel
        go_wp2
        go_ret
        exact ⟨rfl, b3⟩
    · go_wp2_with fail
      go_loopw [21] (fun y wr => ∃ i : Nat, i ≤ l.length ∧ y = .int .i64 (i : Int) ∧ Bel w3 wr) (fun y _ => (l.length - (intOf y).toNat))
      case atStart => exact ⟨0, by omega, rfl, Bel.refl _⟩
      case round =>
        obtain ⟨i, hil, rfl, hb⟩ := hrel
        by_cases hi : i < l.length
        · obtain ⟨x, hx⟩ : ∃ x, l[i]? = some x := ⟨_, List.getElem?_eq_getElem hi⟩
          obtain ⟨k0, k1⟩ := hcells i x hx
          obtain ⟨m0, m1⟩ := hcells' i x hx
          rw [← hb.cell (by exact hg2)] at k0 k1
          rw [← hb.cell (by exact hg2')] at m0 m1
          have il : (i : Int) < (l.length : Int) := by omega
          have i0 : (0 : Int) ≤ (i : Int) := by omega
          go_upto_region 7 with fail
          go_quiet (fail)
          go_wp2
          go_roundw
          case rel => exact ⟨i + 1, by omega, by simp, hb.drewN _⟩
          case measure => simp [intOf]; omega
        · go_wp2
          go_ret
          exact ⟨rfl, b3.trans hb⟩

set_option maxRecDepth 100000 in
theorem lifted (os : Os) (started : os.Started) (H : Type) (enc : TypeId × Value → H) :
    ReturnsInHanded {} Tryd.checked os 5 .any (fun w args => (Rows.primeFactorsSpec.pre enc Tryd.prog Tryd.f5 [] false w args ∧ laidMetH Tryd.prog laidB w) ∧ sizedMet enc Tryd.prog Tryd.f5 (OpenSpec.ofChange Rows.primeFactorsSpec) false w args)
      (Rows.primeFactorsSpec.post enc Tryd.prog Tryd.f5 false true false false) := by
  refine returnsInHanded_of_change_and (C := Tryd.checked) (X := fun w _ => laidMetH Tryd.prog laidB w) (fun _ _ _ hh h => h.of_heap hh) own started (by kernel_rfl) Tryd.func5
    (ChangeSpec.witness_shaped (enc := enc) (C := Tryd.checked) (os := os) (X := fun w _ => laidMetH Tryd.prog laidB w) false (World.doorLaid Tryd.prog 400 os) #[.int .i64 0] 8 rfl (World.shaped_of_RefB (by kernel_rfl) (by kernel_rfl)) (by kernel_rfl) (by kernel_rfl) (by kernel_rfl) (door_met os _)) ?_
  intro W base args ds gs before hval0 hW _ _ hL _
  have hval : ∀ (j : Nat) t v, Tryd.f5.params[j]? = some t → args[j]? = some v → Value.okWide Tryd.prog W .any base t v := hval0
  have hW' := hW
  obtain ⟨p, q, hA0, hV, rfl, hfz, hnd⟩ := hW
  have hA : DataW.TrodAll enc Tryd.prog W 0 (fun _ => true) true Tryd.f5.params.toList args.toList ds p := hA0
  rw [Tryd.params5] at hA hval
  obtain ⟨v0, vs0, d0, ds0, p0, q0, hargs, rfl, rfl, h0, r0⟩ := trodAll_cons hA
  obtain ⟨rfl, rfl, rfl⟩ := trodAll_nil r0
  obtain rfl : args = #[v0] := by cases args; simp_all
  obtain ⟨rfl, rfl⟩ := trodVars_none hV
  obtain ⟨a0, rfl, rfl, rfl, w0⟩ := open_int Tryd.underlying2 (hval 0 2 v0 rfl rfl) h0
  clear hA0 hval0
  simp only [List.append_nil] at hW'
  refine (walk a0 w0 W (bases_of_laid hL)).mono fun e W' ⟨he, hg⟩ => ?_
  subst he
  exact ⟨_, rfl, post_of_bel (pa := []) (pv := []) hW' (fun _ _ _ => (trodAll_cons_mk (shut_bool Tryd.underlying4 _) trodAll_mk0)) (fun sp _ => (trodAll_cons_mk (shut_int Tryd.underlying2 w0) trodAll_mk0)) (fun _ _ => rfl) rfl
    hg (ok_one (by kernel_rfl) rfl (okWide_bool_mk Tryd.underlying4 _))⟩

theorem over : Rows.primeFactorsRow.holds Tryd.pinned (OpenSpec.ofChange Rows.primeFactorsSpec) :=
  OpenClaim.holds_of_wide 5 Tryd.f5 rfl rfl rfl rfl rfl rfl rfl ⟨rfl, rfl, rfl, rfl, rfl⟩ rfl rfl rfl rfl rfl (by kernel_rfl) Tryd.func5 (by kernel_rfl)
    (of_decide_eq_true (by kernel_rfl)) (by unfold Func.isWrapper; first | (rw [if_pos (by decide +kernel)]; kernel_rfl) | (rw [if_neg (by decide +kernel)]; exact ⟨rfl, rfl⟩))
    (fun os started H enc _ => lifted os started H enc)

/-- THE CARD: the statement, its listed variables tied to the program's text -/
theorem proved : Rows.PrimeFactorsCardSaid :=
  Claim7.holds_tied_plain_at .later [] [.data] true Rows.primeFactorsCard.stood.harness false
    over (fun _ h => by cases h) (by kernel_rfl) (fun _ h => by cases h) primeFactors_row_tie rfl ⟨rfl, rfl⟩ (by kernel_rfl) rfl
    (fun f fn hf hfn => by
      obtain rfl : f = 5 := Option.some.inj ((show Tryd.prog.funcNamed "diapason/diapasonlaw02.PrimeFactors" = some 5 by kernel_rfl).symm.trans hf) |>.symm
      obtain rfl : fn = Tryd.f5 := (Option.some.inj (Tryd.func5.symm.trans hfn)).symm
      exact ⟨by kernel_rfl, fun j t ht => by
        rw [Tryd.params5] at ht
        have hm : t ∈ [2] := by simpa using Array.mem_of_getElem? ht
        have hall : ([2].all fun u => !Tryd.prog.wantsStandIn u) = true := by kernel_rfl
        exact (show Tryd.prog.wantsStandIn t = false by simpa using List.all_eq_true.1 hall t hm)⟩)
    (by kernel_rfl)
#print axioms proved
end Go.Proofs.YtcglffigbdglpaaDoor.primeFactors
