/- Of every number that the statement tries (those above 2^32 are brought below it, those above the greatest modulus stand) the program tells whether it is a prime, as the document asks. That no other number up to 2^40 passes the program test is shown by a finite search in the kernel.
   Conditions: none beyond the row's own. -/
import Derived.Test.YtcglffigbdglpaaDoorWakes2
import Derived.Test.YtcglffigbdglpaaDoorLaid2
import Derived.Test.YtcglffigbdglpaaDoorRefIs
import Derived.Test.YtcglffigbdglpaaDoorSound
import Derived.Test.YtcglffigbdglpaaDoorRows
import Derived.Test.YtcglffigbdglpaaDoorCards
import Derived.Test.YtcglffigbdglpaaDoorTie
import Derived.SevenTiedAt
import Derived.WalkKit
import Derived.ProofKit
import Derived.OpenShut
import Derived.LaidMore
import Derived.ShutString
import Derived.Lib.SmallJoins
namespace Go.Proofs.YtcglffigbdglpaaDoor.primeIs
open Go.ChangeShapes Go.WideShapes Go.ChangeAt Go.RowKit Go.Proofs.YtcglffigbdglpaaDoor
set_option linter.unusedVariables false

theorem own : ownKnob Tryd.prog.godebug = none := by kernel_rfl

theorem isB_prime {n : Int} (h : n ≤ 1099511627776 ∨ 4611686018427387904 < n) : isB n = Dia.primeB n := by
  rcases h with h | h
  · by_cases hp : Dia.IsP n
    · rw [Dia.primeB_yes hp (by omega), IsP.isB hp (by omega)]
    · rw [Dia.primeB_no fun k => hp k.1]
      cases e : isB n
      · rfl
      · exact absurd (isB_sound h e) hp
  · rw [isB_out (by omega), Dia.primeB_no fun k => by have := k.2; omega]

set_option maxHeartbeats 1000000 in
theorem walk (n : Int) (wn : (Lit.int .i64 n).wf = true) (w : World) (hB : Bases w) :
    Calls Tryd.prog 3 #[.int .i64 n] w fun e w' => e = .returned (.bool true) ∧ Bel w w' := by
  obtain ⟨b0, c0⟩ := bounds_i64 wn
  clear wn
  by_cases h : 4294967296 < n ∧ n ≤ 4611686018427387904
  · obtain ⟨h1, h2⟩ := h
    have hP := Lib.hid (isB_prime (n := n % 4294967296) (by omega))
    go_enter Tryd.func3, Tryd.ntmps3
    go_wp2_with fail
    refine (wakes_any _ hB).mono ?_; rintro e w1 ⟨rfl, g1⟩
    go_wp2_with fail
    refine (is_any (n % 4294967296) _ (hB.bel g1)).mono ?_; rintro e w2 ⟨rfl, g2⟩
    rw [hP.out]
    go_wp2_with fail
    refine (refIs_any (n % 4294967296) _ (by omega)).mono ?_; rintro e w3 ⟨rfl, rfl⟩
    go_wp2
    go_ret
    exact ⟨ret_bool (by simp), g1.trans g2⟩
  · have hP := Lib.hid (isB_prime (n := n) (by omega))
    by_cases h1 : 4294967296 < n
    · have h2 : ¬ n ≤ 4611686018427387904 := fun h2 => h ⟨h1, h2⟩
      clear h
      go_enter Tryd.func3, Tryd.ntmps3
      go_wp2_with fail
      refine (wakes_any _ hB).mono ?_; rintro e w1 ⟨rfl, g1⟩
      go_wp2_with fail
      refine (is_any n _ (hB.bel g1)).mono ?_; rintro e w2 ⟨rfl, g2⟩
      rw [hP.out]
      go_wp2_with fail
      refine (refIs_any n _ (by omega)).mono ?_; rintro e w3 ⟨rfl, rfl⟩
      go_wp2
      go_ret
      exact ⟨ret_bool (by simp), g1.trans g2⟩
    · clear h
      go_enter Tryd.func3, Tryd.ntmps3
      go_wp2_with fail
      refine (wakes_any _ hB).mono ?_; rintro e w1 ⟨rfl, g1⟩
      go_wp2_with fail
      refine (is_any n _ (hB.bel g1)).mono ?_; rintro e w2 ⟨rfl, g2⟩
      rw [hP.out]
      go_wp2_with fail
      refine (refIs_any n _ (by omega)).mono ?_; rintro e w3 ⟨rfl, rfl⟩
      go_wp2
      go_ret
      exact ⟨ret_bool (by simp), g1.trans g2⟩

set_option maxRecDepth 100000 in
theorem lifted (os : Os) (started : os.Started) (H : Type) (enc : TypeId × Value → H) :
    ReturnsInHanded {} Tryd.checked os 3 .any (fun w args => (Rows.primeIsSpec.pre enc Tryd.prog Tryd.f3 [] false w args ∧ laidMetH Tryd.prog laidB w) ∧ sizedMet enc Tryd.prog Tryd.f3 (OpenSpec.ofChange Rows.primeIsSpec) false w args)
      (Rows.primeIsSpec.post enc Tryd.prog Tryd.f3 false true false false) := by
  refine returnsInHanded_of_change_and (C := Tryd.checked) (X := fun w _ => laidMetH Tryd.prog laidB w) (fun _ _ _ hh h => h.of_heap hh) own started (by kernel_rfl) Tryd.func3
    (ChangeSpec.witness_shaped (enc := enc) (C := Tryd.checked) (os := os) (X := fun w _ => laidMetH Tryd.prog laidB w) false (World.doorLaid Tryd.prog 400 os) #[.int .i64 0] 8 rfl (World.shaped_of_RefB (by kernel_rfl) (by kernel_rfl)) (by kernel_rfl) (by kernel_rfl) (by kernel_rfl) (door_met os _)) ?_
  intro W base args ds gs before hval0 hW _ _ hL _
  have hval : ∀ (j : Nat) t v, Tryd.f3.params[j]? = some t → args[j]? = some v → Value.okWide Tryd.prog W .any base t v := hval0
  have hW' := hW
  obtain ⟨p, q, hA0, hV, rfl, hfz, hnd⟩ := hW
  have hA : DataW.TrodAll enc Tryd.prog W 0 (fun _ => true) true Tryd.f3.params.toList args.toList ds p := hA0
  rw [Tryd.params3] at hA hval
  obtain ⟨v0, vs0, d0, ds0, p0, q0, hargs, rfl, rfl, h0, r0⟩ := trodAll_cons hA
  obtain ⟨rfl, rfl, rfl⟩ := trodAll_nil r0
  obtain rfl : args = #[v0] := by cases args; simp_all
  obtain ⟨rfl, rfl⟩ := trodVars_none hV
  obtain ⟨a0, rfl, rfl, rfl, w0⟩ := open_int Tryd.underlying2 (hval 0 2 v0 rfl rfl) h0
  clear hA0 hval0
  simp only [List.append_nil] at hW'
  refine (walk a0 w0 W (bases_of_laid hL)).mono fun e W' ⟨he, hg⟩ => ?_
  subst he
  exact ⟨_, rfl, post_of_bel (pa := []) (pv := []) hW' (fun _ _ _ => (trodAll_cons_mk (shut_bool Tryd.underlying4 _) trodAll_mk0)) (fun sp _ => (trodAll_cons_mk (shut_int Tryd.underlying2 w0) trodAll_mk0)) (fun _ _ => rfl) rfl
    hg (ok_one (by kernel_rfl) rfl (okWide_bool_mk Tryd.underlying4 _))⟩

theorem over : Rows.primeIsRow.holds Tryd.pinned (OpenSpec.ofChange Rows.primeIsSpec) :=
  OpenClaim.holds_of_wide 3 Tryd.f3 rfl rfl rfl rfl rfl rfl rfl ⟨rfl, rfl, rfl, rfl, rfl⟩ rfl rfl rfl rfl rfl (by kernel_rfl) Tryd.func3 (by kernel_rfl)
    (of_decide_eq_true (by kernel_rfl)) (by unfold Func.isWrapper; first | (rw [if_pos (by decide +kernel)]; kernel_rfl) | (rw [if_neg (by decide +kernel)]; exact ⟨rfl, rfl⟩))
    (fun os started H enc _ => lifted os started H enc)

/-- THE CARD: the statement, its listed variables tied to the program's text -/
theorem proved : Rows.PrimeIsCardSaid :=
  Claim7.holds_tied_plain_at .later [] [.data] true Rows.primeIsCard.stood.harness false
    over (fun _ h => by cases h) (by kernel_rfl) (fun _ h => by cases h) primeIs_row_tie rfl ⟨rfl, rfl⟩ (by kernel_rfl) rfl
    (fun f fn hf hfn => by
      obtain rfl : f = 3 := Option.some.inj ((show Tryd.prog.funcNamed "diapason/diapasonlaw02.PrimeIs" = some 3 by kernel_rfl).symm.trans hf) |>.symm
      obtain rfl : fn = Tryd.f3 := (Option.some.inj (Tryd.func3.symm.trans hfn)).symm
      exact ⟨by kernel_rfl, fun j t ht => by
        rw [Tryd.params3] at ht
        have hm : t ∈ [2] := by simpa using Array.mem_of_getElem? ht
        have hall : ([2].all fun u => !Tryd.prog.wantsStandIn u) = true := by kernel_rfl
        exact (show Tryd.prog.wantsStandIn t = false by simpa using List.all_eq_true.1 hall t hm)⟩)
    (by kernel_rfl)
#print axioms proved
end Go.Proofs.YtcglffigbdglpaaDoor.primeIs
