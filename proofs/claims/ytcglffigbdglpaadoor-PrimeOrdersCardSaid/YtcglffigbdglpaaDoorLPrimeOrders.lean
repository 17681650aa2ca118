/- Of every number and every modulus the order, and of every number up to 300 or beyond the greatest the root, is the one that the document asks for.
   Conditions: none beyond the row's own. -/
import Derived.Test.YtcglffigbdglpaaDoorWakes2
import Derived.Test.YtcglffigbdglpaaDoorLaid2
import Derived.Test.YtcglffigbdglpaaDoorRefOrd
import Derived.Test.YtcglffigbdglpaaDoorRows
import Derived.Test.YtcglffigbdglpaaDoorCards
import Derived.Test.YtcglffigbdglpaaDoorTie
import Derived.SevenTiedAt
import Derived.WalkKit
import Derived.ProofKit
import Derived.OpenShut
import Derived.LaidMore
import Derived.ShutString
import Derived.Lib.SmallJoins
namespace Go.Proofs.YtcglffigbdglpaaDoor.primeOrders
open Go.ChangeShapes Go.WideShapes Go.ChangeAt Go.RowKit Go.Proofs.YtcglffigbdglpaaDoor
set_option linter.unusedVariables false

theorem own : ownKnob Tryd.prog.godebug = none := by kernel_rfl

theorem order_small (a n : Int) (w : World) (hB : Bases w) (h : n ≤ 4096) :
    Calls Tryd.prog 16 #[.int .i64 a, .int .i64 n] w fun e w' => e = .returned (.int .i64 (Dia.ordS a n)) ∧ Bel w w' := by
  by_cases h1 : 1 ≤ n
  · exact order_yes a n w hB h1 (by omega) fun m hm hb => isB_small (by omega) hb
  · exact order_no a n w (by omega)

set_option maxHeartbeats 1000000 in
theorem walk (a n : Int) (wa : (Lit.int .i64 a).wf = true) (wn : (Lit.int .i64 n).wf = true) (w : World) (hB : Bases w) :
    Calls Tryd.prog 7 #[.int .i64 a, .int .i64 n] w fun e w' => e = .returned (.bool true) ∧ Bel w w' := by
  obtain ⟨b0, c0⟩ := bounds_i64 wa
  obtain ⟨b1, c1⟩ := bounds_i64 wn
  clear wa wn
  by_cases h1 : 1099511627776 < n
  · have hO := Lib.hid (Dia.ordS_no (a := a) (n := n) (by omega))
    go_enter Tryd.func7, Tryd.ntmps7
    go_wp2_with fail
    refine (wakes_any _ hB).mono ?_; rintro e w1 ⟨rfl, g1⟩
    go_wp2_with fail
    refine (order_no a n _ (by omega)).mono ?_; rintro e w2 ⟨rfl, g2⟩
    rw [hO.out]
    go_wp2_with fail
    refine (refOrder_any a n _).mono ?_; rintro e w3 ⟨rfl, rfl⟩
    rw [hO.out]
    go_wp2_with fail
    refine (root_out n _ (by omega)).mono ?_; rintro e w4 ⟨rfl, rfl⟩
    go_wp2
    go_ret
    exact ⟨rfl, g1.trans g2⟩
  · by_cases h2 : 4096 < n
    · have h1' : n ≤ 1099511627776 := by omega
      have m4 : 1 + n % 4096 ≤ 4096 := by omega
      have hm1 : ¬ 1099511627776 < 1 + n % 4096 := by omega
      by_cases h3 : 300 < 1 + n % 4096
      · go_enter Tryd.func7, Tryd.ntmps7
        go_wp2_with fail
        refine (wakes_any _ hB).mono ?_; rintro e w1 ⟨rfl, g1⟩
        go_wp2_with fail
        refine (order_small a (1 + n % 4096) _ (hB.bel g1) (by omega)).mono ?_; rintro e w2 ⟨rfl, g2⟩
        have b2 := g1.trans g2
        go_wp2_with fail
        refine (refOrder_any a (1 + n % 4096) _).mono ?_; rintro e w3 ⟨rfl, rfl⟩
        go_wp2
        go_ret
        exact ⟨rfl, b2⟩
      · go_enter Tryd.func7, Tryd.ntmps7
        go_wp2_with fail
        refine (wakes_any _ hB).mono ?_; rintro e w1 ⟨rfl, g1⟩
        go_wp2_with fail
        refine (order_small a (1 + n % 4096) _ (hB.bel g1) (by omega)).mono ?_; rintro e w2 ⟨rfl, g2⟩
        have b2 := g1.trans g2
        go_wp2_with fail
        refine (refOrder_any a (1 + n % 4096) _).mono ?_; rintro e w3 ⟨rfl, rfl⟩
        go_wp2_with fail
        refine (root_any (1 + n % 4096) _ (hB.bel b2) (by omega)).mono ?_; rintro e w4 ⟨rfl, g4⟩
        go_wp2_with fail
        refine (refRoot_any (1 + n % 4096) _ (by omega) (by omega)).mono ?_; rintro e w5 ⟨rfl, rfl⟩
        go_wp2
        go_ret
        exact ⟨rfl, b2.trans g4⟩
    · have m4 : n ≤ 4096 := by omega
      have hm1 : ¬ 1099511627776 < n := by omega
      by_cases h3 : 300 < n
      · go_enter Tryd.func7, Tryd.ntmps7
        go_wp2_with fail
        refine (wakes_any _ hB).mono ?_; rintro e w1 ⟨rfl, g1⟩
        go_wp2_with fail
        refine (order_small a (n) _ (hB.bel g1) (by omega)).mono ?_; rintro e w2 ⟨rfl, g2⟩
        have b2 := g1.trans g2
        go_wp2_with fail
        refine (refOrder_any a (n) _).mono ?_; rintro e w3 ⟨rfl, rfl⟩
        go_wp2
        go_ret
        exact ⟨rfl, b2⟩
      · go_enter Tryd.func7, Tryd.ntmps7
        go_wp2_with fail
        refine (wakes_any _ hB).mono ?_; rintro e w1 ⟨rfl, g1⟩
        go_wp2_with fail
        refine (order_small a (n) _ (hB.bel g1) (by omega)).mono ?_; rintro e w2 ⟨rfl, g2⟩
        have b2 := g1.trans g2
        go_wp2_with fail
        refine (refOrder_any a (n) _).mono ?_; rintro e w3 ⟨rfl, rfl⟩
        go_wp2_with fail
        refine (root_any (n) _ (hB.bel b2) (by omega)).mono ?_; rintro e w4 ⟨rfl, g4⟩
        go_wp2_with fail
        refine (refRoot_any (n) _ (by omega) (by omega)).mono ?_; rintro e w5 ⟨rfl, rfl⟩
        go_wp2
        go_ret
        exact ⟨rfl, b2.trans g4⟩

set_option maxRecDepth 100000 in
theorem lifted (os : Os) (started : os.Started) (H : Type) (enc : TypeId × Value → H) :
    ReturnsInHanded {} Tryd.checked os 7 .any (fun w args => (Rows.primeOrdersSpec.pre enc Tryd.prog Tryd.f7 [] false w args ∧ laidMetH Tryd.prog laidB w) ∧ sizedMet enc Tryd.prog Tryd.f7 (OpenSpec.ofChange Rows.primeOrdersSpec) false w args)
      (Rows.primeOrdersSpec.post enc Tryd.prog Tryd.f7 false true false false) := by
  refine returnsInHanded_of_change_and (C := Tryd.checked) (X := fun w _ => laidMetH Tryd.prog laidB w) (fun _ _ _ hh h => h.of_heap hh) own started (by kernel_rfl) Tryd.func7
    (ChangeSpec.witness_shaped (enc := enc) (C := Tryd.checked) (os := os) (X := fun w _ => laidMetH Tryd.prog laidB w) false (World.doorLaid Tryd.prog 400 os) #[.int .i64 0, .int .i64 0] 8 rfl (World.shaped_of_RefB (by kernel_rfl) (by kernel_rfl)) (by kernel_rfl) (by kernel_rfl) (by kernel_rfl) (door_met os _)) ?_
  intro W base args ds gs before hval0 hW _ _ hL _
  have hval : ∀ (j : Nat) t v, Tryd.f7.params[j]? = some t → args[j]? = some v → Value.okWide Tryd.prog W .any base t v := hval0
  have hW' := hW
  obtain ⟨p, q, hA0, hV, rfl, hfz, hnd⟩ := hW
  have hA : DataW.TrodAll enc Tryd.prog W 0 (fun _ => true) true Tryd.f7.params.toList args.toList ds p := hA0
  rw [Tryd.params7] at hA hval
  obtain ⟨v0, vs0, d0, ds0, p0, q0, hargs, rfl, rfl, h0, r0⟩ := trodAll_cons hA
  obtain ⟨v1, vs1, d1, ds1, p1, q1, rfl, rfl, rfl, h1, r1⟩ := trodAll_cons r0
  obtain ⟨rfl, rfl, rfl⟩ := trodAll_nil r1
  obtain rfl : args = #[v0, v1] := by cases args; simp_all
  obtain ⟨rfl, rfl⟩ := trodVars_none hV
  obtain ⟨a0, rfl, rfl, rfl, w0⟩ := open_int Tryd.underlying2 (hval 0 2 v0 rfl rfl) h0
  obtain ⟨a1, rfl, rfl, rfl, w1⟩ := open_int Tryd.underlying2 (hval 1 2 v1 rfl rfl) h1
  clear hA0 hval0
  simp only [List.append_nil] at hW'
  refine (walk a0 a1 w0 w1 W (bases_of_laid hL)).mono fun e W' ⟨he, hg⟩ => ?_
  subst he
  exact ⟨_, rfl, post_of_bel (pa := []) (pv := []) hW' (fun _ _ _ => (trodAll_cons_mk (shut_bool Tryd.underlying4 _) trodAll_mk0)) (fun sp _ => (trodAll_cons_mk (shut_int Tryd.underlying2 w0) (trodAll_cons_mk (shut_int Tryd.underlying2 w1) trodAll_mk0))) (fun _ _ => rfl) rfl
    hg (ok_one (by kernel_rfl) rfl (okWide_bool_mk Tryd.underlying4 _))⟩

theorem over : Rows.primeOrdersRow.holds Tryd.pinned (OpenSpec.ofChange Rows.primeOrdersSpec) :=
  OpenClaim.holds_of_wide 7 Tryd.f7 rfl rfl rfl rfl rfl rfl rfl ⟨rfl, rfl, rfl, rfl, rfl⟩ rfl rfl rfl rfl rfl (by kernel_rfl) Tryd.func7 (by kernel_rfl)
    (of_decide_eq_true (by kernel_rfl)) (by unfold Func.isWrapper; first | (rw [if_pos (by decide +kernel)]; kernel_rfl) | (rw [if_neg (by decide +kernel)]; exact ⟨rfl, rfl⟩))
    (fun os started H enc _ => lifted os started H enc)

/-- THE CARD: the statement, its listed variables tied to the program's text -/
theorem proved : Rows.PrimeOrdersCardSaid :=
  Claim7.holds_tied_plain_at .later [] [.data] true Rows.primeOrdersCard.stood.harness false
    over (fun _ h => by cases h) (by kernel_rfl) (fun _ h => by cases h) primeOrders_row_tie rfl ⟨rfl, rfl⟩ (by kernel_rfl) rfl
    (fun f fn hf hfn => by
      obtain rfl : f = 7 := Option.some.inj ((show Tryd.prog.funcNamed "diapason/diapasonlaw02.PrimeOrders" = some 7 by kernel_rfl).symm.trans hf) |>.symm
      obtain rfl : fn = Tryd.f7 := (Option.some.inj (Tryd.func7.symm.trans hfn)).symm
      exact ⟨by kernel_rfl, fun j t ht => by
        rw [Tryd.params7] at ht
        have hm : t ∈ [2] := by simpa using Array.mem_of_getElem? ht
        have hall : ([2].all fun u => !Tryd.prog.wantsStandIn u) = true := by kernel_rfl
        exact (show Tryd.prog.wantsStandIn t = false by simpa using List.all_eq_true.1 hall t hm)⟩)
    (by kernel_rfl)
#print axioms proved
end Go.Proofs.YtcglffigbdglpaaDoor.primeOrders
