/- Of every number the factors that the program gives are primes to its own test, rising, and their product is that number; of numbers out of range there are none.
   Conditions: none beyond the row's own. -/
import Derived.Test.YtcglffigbdglpaaDoorWakes2
import Derived.Test.YtcglffigbdglpaaDoorLaid2
import Derived.BigQuiet
import Derived.Deep.QuietTactic
import Derived.Deep.CutBlock
import Derived.IntWalk
import Derived.Test.YtcglffigbdglpaaDoorRows
import Derived.Test.YtcglffigbdglpaaDoorCards
import Derived.Test.YtcglffigbdglpaaDoorTie
import Derived.SevenTiedAt
import Derived.WalkKit
import Derived.ProofKit
import Derived.OpenShut
import Derived.LaidMore
import Derived.ShutString
import Derived.Lib.SmallJoins
namespace Go.Proofs.YtcglffigbdglpaaDoor.primeBack
open Go.ChangeShapes Go.WideShapes Go.ChangeAt Go.RowKit Go.Proofs.YtcglffigbdglpaaDoor
set_option linter.unusedVariables false

theorem own : ownKnob Tryd.prog.godebug = none := by kernel_rfl

theorem exp_le {p : Int} (hp : 2 ≤ p) : ∀ e : Nat, (e : Int) ≤ p ^ e
  | 0 => by simp
  | e + 1 => by
    have ih := exp_le hp e
    have h1 : 1 ≤ p ^ e := Int.pow_pos (by omega)
    rw [Int.pow_succ]
    have : p ^ e * 2 ≤ p ^ e * p := Int.mul_le_mul_of_nonneg_left hp (by omega)
    omega
theorem is_true (n : Int) (w : World) (k : Nat) (hb : Bases w) (h : isB n = true) :
    Calls Tryd.prog 11 #[.int .i64 n] (w.drewN k) fun e w' => e = .returned (.bool true) ∧ ∃ m, w' = w.drewN m :=
  Calls.quiet_of ((is_dr n _ (hb.bel ((Bel.refl _).drewN k))).mono fun e w' ⟨he, g⟩ => ⟨by rw [he, h], g⟩)
theorem take_succ {l : List (Int × Nat)} {i : Nat} {x : Int × Nat} (h : l[i]? = some x) : Dia.fprod (l.take (i + 1)) = Dia.fprod (l.take i) * x.1 ^ x.2 := by
  rw [List.take_add_one, h, Dia.fprod_append]; simp [Dia.fprod]
theorem take_le {n : Int} {l : List (Int × Nat)} (h : IsFacB n l) (i : Nat) : 1 ≤ Dia.fprod (l.take i) ∧ Dia.fprod (l.take i) ≤ n := by
  have h2 : ∀ x ∈ l, 2 ≤ x.1 := fun x hx => isB_two (h.isb x hx)
  have h3 := fprod_pos2 (l.take i) fun x hx => h2 x (List.mem_of_mem_take hx)
  have h4 := fprod_pos2 (l.drop i) fun x hx => h2 x (List.mem_of_mem_drop hx)
  have h5 : Dia.fprod (l.take i) * Dia.fprod (l.drop i) = n := by rw [← Dia.fprod_append, List.take_append_drop, h.eq]
  have h6 : Dia.fprod (l.take i) * 1 ≤ Dia.fprod (l.take i) * Dia.fprod (l.drop i) := Int.mul_le_mul_of_nonneg_left h4 (by omega)
  exact ⟨h3, by omega⟩
theorem part_le {n : Int} {l : List (Int × Nat)} (h : IsFacB n l) {i : Nat} {x : Int × Nat} (hx : l[i]? = some x) {k : Nat} (hk : k ≤ x.2) : 1 ≤ Dia.fprod (l.take i) * x.1 ^ k ∧ Dia.fprod (l.take i) * x.1 ^ k ≤ n := by
  have x2 := isB_two (h.isb x (List.mem_of_getElem? hx))
  obtain ⟨h3, _⟩ := take_le h i
  obtain ⟨_, h4⟩ := take_le h (i + 1)
  rw [take_succ hx] at h4
  obtain ⟨j, hj⟩ : ∃ j, x.2 = k + j := ⟨x.2 - k, by omega⟩
  have p1 : 1 ≤ x.1 ^ k := Int.pow_pos (by omega)
  have p2 : 1 ≤ x.1 ^ j := Int.pow_pos (by omega)
  have h5 : 1 * 1 ≤ Dia.fprod (l.take i) * x.1 ^ k := Int.mul_le_mul h3 p1 (by omega) (by omega)
  rw [hj, Int.pow_add, ← Int.mul_assoc] at h4
  have h6 : Dia.fprod (l.take i) * x.1 ^ k * 1 ≤ Dia.fprod (l.take i) * x.1 ^ k * x.1 ^ j := Int.mul_le_mul_of_nonneg_left p2 (by omega)
  exact ⟨by omega, by omega⟩

set_option maxHeartbeats 2000000 in
theorem walk (n : Int) (wn : (Lit.int .i64 n).wf = true) (w : World) (hB : Bases w) :
    Calls Tryd.prog 6 #[.int .i64 n] w fun e w' => e = .returned (.bool true) ∧ Bel w w' := by
  obtain ⟨b0, c0⟩ := bounds_i64 wn
  clear wn
  by_cases h : n < 1 ∨ 1099511627776 < n
  · by_cases h1 : n < 1
    · go_enter Tryd.func6, Tryd.ntmps6
      go_wp2_with fail
      refine (factor_no n _ (by omega)).mono ?_; rintro e w1 ⟨rfl, rfl⟩
      go_wp2_with fail
      refine (wakes_any _ hB).mono ?_; rintro e w1 ⟨rfl, g1⟩
      go_wp2_with fail
      refine (wakes_any _ (hB.bel g1)).mono ?_; rintro e w2 ⟨rfl, g2⟩
      go_wp2
      go_ret
      exact ⟨rfl, g1.trans g2⟩
    · have h2 : 1099511627776 < n := by omega
      go_enter Tryd.func6, Tryd.ntmps6
      go_wp2_with fail
      refine (factor_no n _ (by omega)).mono ?_; rintro e w1 ⟨rfl, rfl⟩
      go_wp2_with fail
      refine (wakes_any _ hB).mono ?_; rintro e w1 ⟨rfl, g1⟩
      go_wp2_with fail
      refine (wakes_any _ (hB.bel g1)).mono ?_; rintro e w2 ⟨rfl, g2⟩
      go_wp2
      go_ret
      exact ⟨rfl, g1.trans g2⟩
  · have h1 : 1 ≤ n := by omega
    have h2 : n ≤ 1099511627776 := by omega
    have h1' : ¬ n < 1 := by omega
    have h2' : ¬ 1099511627776 < n := by omega
    clear h
    go_enter Tryd.func6, Tryd.ntmps6
    go_wp2_with fail
    refine (factor_yes n _ hB h1 h2).mono ?_; rintro e w1 ⟨v, l, rfl, hF, hown, g1⟩
    have hR1 := RowAt.of hown
    have hlen := hF.len h2
    clear hown
    go_wp2_with fail
    refine (wakes_any _ (hB.bel g1)).mono ?_; rintro e w2 ⟨rfl, g2⟩
    have b2 := g1.trans g2
    have hR := hR1.bel g2
    clear hR1
    rcases hR.form with ⟨rfl, rfl⟩ | ⟨g, cap, rfl, hg1, hg2, hc, hm, hcells⟩
    · have hn1 : n = 1 := by have := hF.eq; simpa [Dia.fprod] using this.symm
      subst hn1
      go_wp2_with fail
      go_loopw [4, 27] (fun a b wr => a = .int .i64 1 ∧ b = .int .i64 0 ∧ wr = w2) (fun _ _ _ => 0)
      case atStart => exact ⟨rfl, rfl, rfl⟩
      case round =>
        obtain ⟨rfl, rfl, rfl⟩ := hrel
        go_wp2
        go_ret
        exact ⟨rfl, b2⟩
    · go_wp2_with fail
      go_loopw [4, 27] (fun a b wr => ∃ i : Nat, i ≤ l.length ∧ a = .int .i64 (Dia.fprod (l.take i)) ∧ b = .int .i64 (i : Int) ∧ Bel w2 wr) (fun _ b _ => (l.length - (intOf b).toNat))
      case atStart => exact ⟨0, by omega, rfl, rfl, Bel.refl _⟩
      case round =>
        obtain ⟨i, hil, rfl, rfl, hb⟩ := hrel
        by_cases hi : i < l.length
        · obtain ⟨x, hx⟩ : ∃ x, l[i]? = some x := ⟨_, List.getElem?_eq_getElem hi⟩
          have hxm := List.mem_of_getElem? hx
          have x2 := isB_two (hF.isb x hxm)
          have xe := hF.pos x hxm
          have hxb := Lib.hid (hF.isb x hxm)
          obtain ⟨k0, k1⟩ := hcells i x hx
          rw [← hb.cell (by exact hg2)] at k0 k1
          obtain ⟨wo, rfl⟩ : ∃ wo : World, wo = wr := ⟨_, rfl⟩
          have hBo : Bases (wo.alloc (Obj.cells #[Value.int IntKind.i64 x.1, Value.int IntKind.i64 (x.2 : Int)] 31)) := hB.bel ((b2.trans hb).alloc _)
          have q0 : (wo.alloc (Obj.cells #[Value.int IntKind.i64 x.1, Value.int IntKind.i64 (x.2 : Int)] 31)).cell? ⟨wo.heap.size, 0, none⟩ = some (.int .i64 x.1) := by simp
          have q1 : (wo.alloc (Obj.cells #[Value.int IntKind.i64 x.1, Value.int IntKind.i64 (x.2 : Int)] 31)).cell? ⟨wo.heap.size, 1, none⟩ = some (.int .i64 (x.2 : Int)) := by simp
          go_upto_region 8 with fail
          go_cut [55] from 32 to 55 (fun b wx => b = .bool false ∧ Bel (wo.alloc (Obj.cells #[Value.int IntKind.i64 x.1, Value.int IntKind.i64 (x.2 : Int)] 31)) wx)
          case first =>
            have t1 : decide ((x.2 : Int) < 1) = false := decide_eq_false (by omega)
            by_cases hi0 : i = 0
            · subst hi0
              go_quiet ((go_at_call 11; exact is_true x.1 _ _ hBo hxb.out))
              go_wp2_with fail
              go_meet
              exact ⟨rfl, (Bel.refl _).drewN _⟩
            · obtain ⟨j, rfl⟩ : ∃ j, i = j + 1 := ⟨i - 1, by omega⟩
              obtain ⟨y, hy⟩ : ∃ y, l[j]? = some y := ⟨_, List.getElem?_eq_getElem (by omega)⟩
              obtain ⟨m0, m1⟩ := hcells j y hy
              rw [← hb.cell (by exact hg2)] at m0 m1
              have hyx : y.1 < x.1 := by
                have h3 := List.pairwise_iff_getElem.1 hF.up j (j + 1) (by omega) hi (by omega)
                rw [(List.getElem?_eq_some_iff.1 hy).2, (List.getElem?_eq_some_iff.1 hx).2] at h3
                exact h3
              have t2 : decide (x.1 ≤ y.1) = false := decide_eq_false (by omega)
              have t2' : decide (y.1 < x.1) = true := decide_eq_true hyx
              have t3 : IntKind.i64.wrap (((j + 1 : Nat) : Int) - 1) = (j : Int) := by rw [IntWalk.i64_in _ (by omega)]; omega
              have t3' : IntKind.i64.wrap ((j : Int) + 1 - 1) = (j : Int) := by rw [IntWalk.i64_in _ (by omega)]; omega
              have t3'' : IntKind.i64.wrap (j : Int) = (j : Int) := IntWalk.i64_in _ (by omega)
              have t4 : decide ((0 : Int) < ((j + 1 : Nat) : Int)) = true := decide_eq_true (by omega)
              have t4' : decide ((0 : Int) < (j : Int) + 1) = true := decide_eq_true (by omega)
              have jl : (j : Int) < (l.length : Int) := by omega
              have j0 : (0 : Int) ≤ (j : Int) := by omega
              have hgw : g < wo.heap.size := by have := hb.size; omega
              go_quiet ((go_at_call 11; exact is_true x.1 _ _ hBo hxb.out))
              go_wp2_with fail
              go_meet
              exact ⟨rfl, (Bel.refl _).drewN _⟩
          case rest =>
            obtain ⟨rfl, hbx⟩ := hcut
            have z0 : wc.cell? ⟨wo.heap.size, 0, none⟩ = some (.int .i64 x.1) := (hbx.cell (by simp)).trans q0
            have z1 : wc.cell? ⟨wo.heap.size, 1, none⟩ = some (.int .i64 (x.2 : Int)) := (hbx.cell (by simp)).trans q1
            clear q0 q1 k0 k1
            have hxe : (x.2 : Int) ≤ 1099511627776 := by
              obtain ⟨_, h4⟩ := part_le hF hx (Nat.le_refl _)
              obtain ⟨h5, _⟩ := take_le hF i
              have h6 := exp_le x2 x.2
              have h7 : 1 * x.1 ^ x.2 ≤ Dia.fprod (l.take i) * x.1 ^ x.2 := Int.mul_le_mul_of_nonneg_right h5 (by omega)
              omega
            go_wp2_with fail
            go_loopw [4, 58] (fun a b wx => ∃ k : Nat, k ≤ x.2 ∧ a = .int .i64 (Dia.fprod (l.take i) * x.1 ^ k) ∧ b = .int .i64 (k : Int) ∧ wx = wc) (fun _ b _ => (x.2 - (intOf b).toNat))
            case atStart => exact ⟨0, by omega, by simp, rfl, rfl⟩
            case round =>
              obtain ⟨k, hk, rfl, rfl, hww⟩ := hrel
              subst hww
              obtain ⟨p1, p2⟩ := part_le hF hx hk
              by_cases hkx : k < x.2
              · obtain ⟨p3, p4⟩ := part_le hF hx (show k + 1 ≤ x.2 by omega)
                rw [Int.pow_succ, ← Int.mul_assoc] at p3 p4
                go_wp2
                go_roundw
                case rel => exact ⟨k + 1, by omega, by rw [Int.pow_succ, ← Int.mul_assoc], by simp, trivial⟩
                case measure => simp [intOf]; omega
              · have hkk : k = x.2 := by omega
                have hts := Lib.hid (take_succ hx)
                subst hkk
                go_wp2
                go_roundw
                case rel => exact ⟨i + 1, by omega, by rw [hts.out], by simp, (hb.alloc _).trans hbx⟩
                case measure => simp [intOf]; omega
        · have hfin : i = l.length := by omega
          subst hfin
          have hE := Lib.hid hF.eq
          go_wp2
          go_ret
          exact ⟨ret_bool (by rw [hE.out]; simp), b2.trans hb⟩

set_option maxRecDepth 100000 in
theorem lifted (os : Os) (started : os.Started) (H : Type) (enc : TypeId × Value → H) :
    ReturnsInHanded {} Tryd.checked os 6 .any (fun w args => (Rows.primeBackSpec.pre enc Tryd.prog Tryd.f6 [] false w args ∧ laidMetH Tryd.prog laidB w) ∧ sizedMet enc Tryd.prog Tryd.f6 (OpenSpec.ofChange Rows.primeBackSpec) false w args)
      (Rows.primeBackSpec.post enc Tryd.prog Tryd.f6 false true false false) := by
  refine returnsInHanded_of_change_and (C := Tryd.checked) (X := fun w _ => laidMetH Tryd.prog laidB w) (fun _ _ _ hh h => h.of_heap hh) own started (by kernel_rfl) Tryd.func6
    (ChangeSpec.witness_shaped (enc := enc) (C := Tryd.checked) (os := os) (X := fun w _ => laidMetH Tryd.prog laidB w) false (World.doorLaid Tryd.prog 400 os) #[.int .i64 0] 8 rfl (World.shaped_of_RefB (by kernel_rfl) (by kernel_rfl)) (by kernel_rfl) (by kernel_rfl) (by kernel_rfl) (door_met os _)) ?_
  intro W base args ds gs before hval0 hW _ _ hL _
  have hval : ∀ (j : Nat) t v, Tryd.f6.params[j]? = some t → args[j]? = some v → Value.okWide Tryd.prog W .any base t v := hval0
  have hW' := hW
  obtain ⟨p, q, hA0, hV, rfl, hfz, hnd⟩ := hW
  have hA : DataW.TrodAll enc Tryd.prog W 0 (fun _ => true) true Tryd.f6.params.toList args.toList ds p := hA0
  rw [Tryd.params6] at hA hval
  obtain ⟨v0, vs0, d0, ds0, p0, q0, hargs, rfl, rfl, h0, r0⟩ := trodAll_cons hA
  obtain ⟨rfl, rfl, rfl⟩ := trodAll_nil r0
  obtain rfl : args = #[v0] := by cases args; simp_all
  obtain ⟨rfl, rfl⟩ := trodVars_none hV
  obtain ⟨a0, rfl, rfl, rfl, w0⟩ := open_int Tryd.underlying2 (hval 0 2 v0 rfl rfl) h0
  clear hA0 hval0
  simp only [List.append_nil] at hW'
  refine (walk a0 w0 W (bases_of_laid hL)).mono fun e W' ⟨he, hg⟩ => ?_
  subst he
  exact ⟨_, rfl, post_of_bel (pa := []) (pv := []) hW' (fun _ _ _ => (trodAll_cons_mk (shut_bool Tryd.underlying4 _) trodAll_mk0)) (fun sp _ => (trodAll_cons_mk (shut_int Tryd.underlying2 w0) trodAll_mk0)) (fun _ _ => rfl) rfl
    hg (ok_one (by kernel_rfl) rfl (okWide_bool_mk Tryd.underlying4 _))⟩

theorem over : Rows.primeBackRow.holds Tryd.pinned (OpenSpec.ofChange Rows.primeBackSpec) :=
  OpenClaim.holds_of_wide 6 Tryd.f6 rfl rfl rfl rfl rfl rfl rfl ⟨rfl, rfl, rfl, rfl, rfl⟩ rfl rfl rfl rfl rfl (by kernel_rfl) Tryd.func6 (by kernel_rfl)
    (of_decide_eq_true (by kernel_rfl)) (by unfold Func.isWrapper; first | (rw [if_pos (by decide +kernel)]; kernel_rfl) | (rw [if_neg (by decide +kernel)]; exact ⟨rfl, rfl⟩))
    (fun os started H enc _ => lifted os started H enc)

/-- THE CARD: the statement, its listed variables tied to the program's text -/
theorem proved : Rows.PrimeBackCardSaid :=
  Claim7.holds_tied_plain_at .later [] [.data] true Rows.primeBackCard.stood.harness false
    over (fun _ h => by cases h) (by kernel_rfl) (fun _ h => by cases h) primeBack_row_tie rfl ⟨rfl, rfl⟩ (by kernel_rfl) rfl
    (fun f fn hf hfn => by
      obtain rfl : f = 6 := Option.some.inj ((show Tryd.prog.funcNamed "diapason/diapasonlaw02.PrimeBack" = some 6 by kernel_rfl).symm.trans hf) |>.symm
      obtain rfl : fn = Tryd.f6 := (Option.some.inj (Tryd.func6.symm.trans hfn)).symm
      exact ⟨by kernel_rfl, fun j t ht => by
        rw [Tryd.params6] at ht
        have hm : t ∈ [2] := by simpa using Array.mem_of_getElem? ht
        have hall : ([2].all fun u => !Tryd.prog.wantsStandIn u) = true := by kernel_rfl
        exact (show Tryd.prog.wantsStandIn t = false by simpa using List.all_eq_true.1 hall t hm)⟩)
    (by kernel_rfl)
#print axioms proved
end Go.Proofs.YtcglffigbdglpaaDoor.primeBack
