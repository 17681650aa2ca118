/- prime.Root of primes up to 300, and of what is no prime. -/
import Derived.Test.YtcglffigbdglpaaDoorOrder
import Derived.Test.YtcglffigbdglpaaDoorSmall
namespace Go.Proofs.YtcglffigbdglpaaDoor
open Go.RowKit Dia

noncomputable def fullB (g p : Int) (l : List (Int × Nat)) : Bool := @decide (Full g p l) (Classical.propDecidable _)
theorem fullB_yes {g p : Int} {l : List (Int × Nat)} (h : Full g p l) : fullB g p l = true := by unfold fullB; exact @decide_eq_true _ (Classical.propDecidable _) h
theorem fullB_no {g p : Int} {l : List (Int × Nat)} (h : ¬ Full g p l) : fullB g p l = false := by unfold fullB; exact @decide_eq_false _ (Classical.propDecidable _) h

theorem hasFullOrder_any (g p : Int) (v : Value) (l : List (Int × Nat)) (base : Nat) (w : World) (h1 : 2 ≤ p) (h2 : p ≤ 1099511627776) (hF : IsFacB (p - 1) l) (hR : RowAt w v l base) :
    Calls Tryd.prog 30 #[.int .i64 g, .int .i64 p, v] w fun e w' => e = .returned (.bool (fullB g p l)) ∧ Bel w w' := by
  have hlen := hF.len (by omega)
  have hx2 : ∀ x ∈ l, 2 ≤ x.1 := fun x hx => isB_two (hF.isb x hx)
  rcases hR.form with ⟨rfl, rfl⟩ | ⟨b, cap, rfl, hg1, hg2, hc, hm, hcells⟩
  · have hD := Lib.hid (fullB_yes (g := g) (p := p) (l := []) fun x hx => by simp at hx)
    go_enter Tryd.func30, Tryd.ntmps30
    go_wp2_with fail
    go_loopw [11] (fun y wr => y = .int .i64 0 ∧ wr = w) (fun _ _ => 0)
    case atStart => exact ⟨rfl, rfl⟩
    case round =>
      obtain ⟨rfl, rfl⟩ := hrel
      go_wp2
      go_ret
      exact ⟨ret_bool hD.out.symm, Bel.refl _⟩
  · go_enter Tryd.func30, Tryd.ntmps30
    go_wp2_with fail
    go_loopw [11] (fun y wr => ∃ i : Nat, i ≤ l.length ∧ (∀ j, j < i → ∀ x, l[j]? = some x → (g ^ ((p - 1) / x.1).toNat) % p ≠ 1) ∧ y = .int .i64 (i : Int) ∧ Bel w wr) (fun y _ => (l.length - (intOf y).toNat))
    case atStart => exact ⟨0, by omega, fun j hj => by omega, rfl, Bel.refl _⟩
    case round =>
      obtain ⟨i, hil, hno, rfl, hb⟩ := hrel
      by_cases hi : i < l.length
      · obtain ⟨x, hx⟩ : ∃ x, l[i]? = some x := ⟨_, List.getElem?_eq_getElem hi⟩
        have hxm := List.mem_of_getElem? hx
        have x2 := hx2 x hxm
        obtain ⟨k0, k1⟩ := hcells i x hx
        rw [← hb.cell (by exact hg2)] at k0 k1
        have t0 : (x.1 == 0) = false := by rw [beq_eq_false_iff_ne]; omega
        have d0 : 0 ≤ (p - 1) / x.1 := Int.ediv_nonneg (by omega) (by omega)
        have d1 : (p - 1) / x.1 ≤ p - 1 := Int.ediv_le_self _ (by omega)
        have hP : powS g ((p - 1) / x.1) p = (g ^ ((p - 1) / x.1).toNat) % p := powS_yes (by omega) (by omega) d0
        by_cases hq : (g ^ ((p - 1) / x.1).toNat) % p = 1
        · have t2 : (powS g ((p - 1) / x.1) p == 1) = true := by rw [hP, beq_iff_eq]; exact hq
          have hD := Lib.hid (fullB_no (g := g) (p := p) (l := l) fun hf => hf x hxm hq)
          clear hq hP hno hx
          go_wp2_with fail
          refine (pow_any g ((p - 1) / x.1) p _ (by omega)).mono ?_; rintro e w5 ⟨rfl, g5⟩
          generalize powS g ((p - 1) / x.1) p = y at *
          go_wp2
          go_ret
          exact ⟨ret_bool hD.out.symm, (hb.alloc _).trans g5⟩
        · have t2 : (powS g ((p - 1) / x.1) p == 1) = false := by rw [hP, beq_eq_false_iff_ne]; exact hq
          have hN := Lib.hid (show ∀ j, j < i + 1 → ∀ x, l[j]? = some x → (g ^ ((p - 1) / x.1).toNat) % p ≠ 1 from fun j hj z hz => by
            by_cases c : j = i
            · subst c; rw [hx] at hz; cases hz; exact hq
            · exact hno j (by omega) z hz)
          clear hq hP hno hx
          go_wp2_with fail
          refine (pow_any g ((p - 1) / x.1) p _ (by omega)).mono ?_; rintro e w5 ⟨rfl, g5⟩
          generalize powS g ((p - 1) / x.1) p = y at *
          go_wp2
          go_roundw
          case rel => exact ⟨i + 1, by omega, hN.out, by simp, (hb.alloc _).trans g5⟩
          case measure => simp [intOf]; omega
      · have hD := Lib.hid (fullB_yes (g := g) (p := p) (l := l) fun x hx => by
          obtain ⟨j, hj⟩ := List.mem_iff_getElem?.1 hx
          exact hno j (by have := (List.getElem?_eq_some_iff.1 hj).1; omega) x hj)
        clear hno
        go_wp2
        go_ret
        exact ⟨ret_bool hD.out.symm, hb⟩

theorem root_out (n : Int) (w : World) (h : n < 1 ∨ 1099511627776 < n) :
    Calls Tryd.prog 18 #[.int .i64 n] w fun e w' => e = .returned (.int .i64 0) ∧ w = w' := by
  go_enter Tryd.func18, Tryd.ntmps18
  go_wp2_with fail
  refine (isFactored_no n _ h).mono ?_; rintro e w1 ⟨rfl, rfl⟩
  go_wp2
  go_ret
  exact ⟨rfl, rfl⟩

set_option maxHeartbeats 1000000 in
theorem root_any (n : Int) (w : World) (hB : Bases w) (h : n ≤ 300 ∨ 1099511627776 < n) :
    Calls Tryd.prog 18 #[.int .i64 n] w fun e w' => e = .returned (.int .i64 (rootS n)) ∧ Bel w w' := by
  by_cases h0 : n < 1 ∨ 1099511627776 < n
  · refine (root_out n w h0).mono ?_; rintro e w' ⟨rfl, rfl⟩
    refine ⟨ret_i64 (rootS_no fun k => ?_).symm, Bel.refl _⟩
    have := k.1.1; have := k.2; omega
  · have h1 : 1 ≤ n := by omega
    have h2 : n ≤ 300 := by omega
    by_cases hp : isB n = true
    · have hP := isB_small (by omega) hp
      have n2 := hP.1
      have hp := Lib.hid hp
      go_enter Tryd.func18, Tryd.ntmps18
      go_wp2_with fail
      refine (isFactored_yes n _ h1 (by omega)).mono ?_; rintro e w1 ⟨rfl, rfl⟩
      go_wp2_with fail
      refine (is_any n _ hB).mono ?_; rintro e w1 ⟨rfl, g1⟩
      rw [hp.out]
      go_wp2_with fail
      refine (factor_yes (n - 1) _ (hB.bel g1) (by omega) (by omega)).mono ?_; rintro e w2 ⟨v, l, rfl, hF, hown, g2⟩
      have hI := hF.isFac fun m hm hb => isB_small (by omega) hb
      have hR := RowAt.of hown
      obtain ⟨r, r1, r2, hr⟩ := root_ex hP h2 hI
      obtain ⟨r, ⟨r1, r2, hr⟩, hmin⟩ : ∃ r : Int, (1 ≤ r ∧ r < n ∧ Full r n l) ∧ ∀ j : Int, 1 ≤ j → j < r → ¬ Full j n l := by
        obtain ⟨m, ⟨m1, m2, hm⟩, hl⟩ := least_nat (fun k => 1 ≤ k ∧ (k : Int) < n ∧ Full k n l) r.toNat ⟨by omega, by omega, by rw [Int.toNat_of_nonneg (by omega)]; exact hr⟩
        refine ⟨m, ⟨by omega, m2, hm⟩, fun j j1 jm hf => hl j.toNat (by omega) ⟨by omega, by omega, by rw [Int.toNat_of_nonneg (by omega)]; exact hf⟩⟩
      have hroot := Lib.hid (show rootS n = r from rootS_eq hP (by omega) (Or.inl ⟨r1, r2, (Full.ord hP (by omega) r1 r2 hI).1 hr, fun k k1 kr hk => hmin k k1 kr ((Full.ord hP (by omega) k1 (by omega) hI).2 hk)⟩))
      have b2 := g1.trans g2
      have hr := Lib.hid hr
      have hmin := Lib.hid hmin
      clear hown hI
      go_wp2_with fail
      go_loopw [4] (fun y wr => ∃ g : Int, 1 ≤ g ∧ g ≤ r ∧ y = .int .i64 g ∧ Bel w2 wr) (fun y _ => (r - intOf y).toNat)
      case atStart => exact ⟨1, by omega, r1, rfl, Bel.refl _⟩
      case round =>
        obtain ⟨g, q1, q2, rfl, hb⟩ := hrel
        go_wp2_with fail
        refine (hasFullOrder_any g n v l _ _ (by omega) (by omega) hF (hR.bel hb)).mono ?_; rintro e w3 ⟨rfl, g3⟩
        by_cases hf : Full g n l
        · have : g = r := by
            refine Classical.byContradiction fun hc => hmin.out g q1 (by omega) hf
          subst this
          rw [fullB_yes hf]
          clear hf
          go_wp2
          go_ret
          exact ⟨ret_i64 hroot.out.symm, (b2.trans hb).trans g3⟩
        · have hgr : g < r := by
            refine Classical.byContradiction fun hc => hf ?_
            have : g = r := by omega
            rw [this]; exact hr.out
          rw [fullB_no hf]
          clear hf
          go_wp2
          go_roundw
          case rel => exact ⟨g + 1, by omega, by omega, rfl, hb.trans g3⟩
          case measure => simp [intOf]; omega
    · have hnp : ¬ IsP n := fun hP => hp (IsP.isB hP (by omega))
      have hroot := Lib.hid (rootS_no (p := n) fun k => hnp k.1)
      have hp := Lib.hid (Bool.eq_false_iff.2 hp)
      clear hnp
      go_enter Tryd.func18, Tryd.ntmps18
      go_wp2_with fail
      refine (isFactored_yes n _ h1 (by omega)).mono ?_; rintro e w1 ⟨rfl, rfl⟩
      go_wp2_with fail
      refine (is_any n _ hB).mono ?_; rintro e w1 ⟨rfl, g1⟩
      rw [hp.out]
      go_wp2
      go_ret
      exact ⟨ret_i64 hroot.out.symm, g1⟩
end Go.Proofs.YtcglffigbdglpaaDoor
