/- The reference's Mild (layer 3). -/
import Derived.Test.YtknlpggbaahajaaRef3e
namespace Go.Proofs.Ytknlpggbaahajaa
open Go.RowKit

/-- what is mild: by the word without its sign -/
def mildB (x : Nat) : Bool := decide (x % 9223372036854775808 = 0 ∨ (2805742567851819008 ≤ x % 9223372036854775808 ∧ x % 9223372036854775808 ≤ 6408622269748215808))

set_option maxHeartbeats 4000000 in
theorem refmild_any (x : Nat) (w : World) (hx : x < 18446744073709551616) :
    Calls Try.prog 21 #[.float .f64 x] w fun e w' => e = .returned (.bool (mildB x)) ∧ w = w' := by
  obtain ⟨y, hy⟩ : ∃ y, y = x % 9223372036854775808 := ⟨_, rfl⟩
  have hB : mildB x = decide (y = 0 ∨ (2805742567851819008 ≤ y ∧ y ≤ 6408622269748215808)) := by unfold mildB; rw [← hy]
  rw [hB]
  clear hB
  have hfin := finite_any x
  rw [← hy] at hfin
  have hlow := fun w => power_norm (-400) w (by decide) (by decide)
  have hhigh := fun w => power_norm 400 w (by decide) (by decide)
  simp only [show ((-400 + 1023) * 4503599627370496 : Int).toNat = 2805742567851819008 from rfl, show ((400 + 1023) * 4503599627370496 : Int).toNat = 6408622269748215808 from rfl] at hlow hhigh
  by_cases h0 : y = 0
  · have o0 : FloatKind.f64.format.order x 0 = some Ordering.eq := Flt.order_zero hx (by omega)
    have R := Lib.hid (decide_eq_true (p := y = 0 ∨ (2805742567851819008 ≤ y ∧ y ≤ 6408622269748215808)) (Or.inl h0))
    clear hfin hlow hhigh
    go_enter Try.func21, Try.ntmps21
    go_wp2
    go_ret
    exact ⟨ret_bool R.out.symm, rfl⟩
  by_cases h1 : y < 9218868437227405312
  · rw [decide_eq_true h1] at hfin
    have hz : y ≠ 0 := h0
    by_cases hs : x < 9223372036854775808
    · have hxy : y = x := by omega
      subst hxy
      have o0 : FloatKind.f64.format.order y 0 = some Ordering.gt := Flt.order_pos (by omega) h1
      clear hy hs hx
      by_cases c1 : y < 2805742567851819008
      · have o2 : FloatKind.f64.format.order y 2805742567851819008 = some Ordering.lt := (Flt.order_words h1 (by decide)).trans (congrArg some (Flt.cmp_lt c1))
        have R := Lib.hid (decide_eq_false (p := y = 0 ∨ (2805742567851819008 ≤ y ∧ y ≤ 6408622269748215808)) (by omega))
        clear h0 hz h1 c1
        go_enter Try.func21, Try.ntmps21
        go_wp2_with fail
        refine (hfin _).mono ?_; rintro r w1 ⟨rfl, rfl⟩
        go_wp2_with fail
        refine (hlow _).mono ?_; rintro r w1 ⟨rfl, rfl⟩
        go_wp2_with fail
        refine (hhigh _).mono ?_; rintro r w1 ⟨rfl, rfl⟩
        go_wp2
        go_ret
        exact ⟨ret_bool R.out.symm, rfl⟩
      by_cases c2 : y = 2805742567851819008
      · have o2 : FloatKind.f64.format.order y 2805742567851819008 = some Ordering.eq := (Flt.order_words h1 (by decide)).trans (congrArg some (by rw [c2]; exact Flt.cmp_eq _))
        have o3 : FloatKind.f64.format.order y 6408622269748215808 = some Ordering.lt := (Flt.order_words h1 (by decide)).trans (congrArg some (Flt.cmp_lt (by omega)))
        have R := Lib.hid (decide_eq_true (p := y = 0 ∨ (2805742567851819008 ≤ y ∧ y ≤ 6408622269748215808)) (by omega))
        clear h0 hz h1 c1 c2
        go_enter Try.func21, Try.ntmps21
        go_wp2_with fail
        refine (hfin _).mono ?_; rintro r w1 ⟨rfl, rfl⟩
        go_wp2_with fail
        refine (hlow _).mono ?_; rintro r w1 ⟨rfl, rfl⟩
        go_wp2_with fail
        refine (hhigh _).mono ?_; rintro r w1 ⟨rfl, rfl⟩
        go_wp2
        go_ret
        exact ⟨ret_bool R.out.symm, rfl⟩
      by_cases c3 : y < 6408622269748215808
      · have o2 : FloatKind.f64.format.order y 2805742567851819008 = some Ordering.gt := (Flt.order_words h1 (by decide)).trans (congrArg some (Flt.cmp_gt (by omega)))
        have o3 : FloatKind.f64.format.order y 6408622269748215808 = some Ordering.lt := (Flt.order_words h1 (by decide)).trans (congrArg some (Flt.cmp_lt c3))
        have R := Lib.hid (decide_eq_true (p := y = 0 ∨ (2805742567851819008 ≤ y ∧ y ≤ 6408622269748215808)) (by omega))
        clear h0 hz h1 c1 c2 c3
        go_enter Try.func21, Try.ntmps21
        go_wp2_with fail
        refine (hfin _).mono ?_; rintro r w1 ⟨rfl, rfl⟩
        go_wp2_with fail
        refine (hlow _).mono ?_; rintro r w1 ⟨rfl, rfl⟩
        go_wp2_with fail
        refine (hhigh _).mono ?_; rintro r w1 ⟨rfl, rfl⟩
        go_wp2
        go_ret
        exact ⟨ret_bool R.out.symm, rfl⟩
      by_cases c4 : y = 6408622269748215808
      · have o2 : FloatKind.f64.format.order y 2805742567851819008 = some Ordering.gt := (Flt.order_words h1 (by decide)).trans (congrArg some (Flt.cmp_gt (by omega)))
        have o3 : FloatKind.f64.format.order y 6408622269748215808 = some Ordering.eq := (Flt.order_words h1 (by decide)).trans (congrArg some (by rw [c4]; exact Flt.cmp_eq _))
        have R := Lib.hid (decide_eq_true (p := y = 0 ∨ (2805742567851819008 ≤ y ∧ y ≤ 6408622269748215808)) (by omega))
        clear h0 hz h1 c1 c2 c3 c4
        go_enter Try.func21, Try.ntmps21
        go_wp2_with fail
        refine (hfin _).mono ?_; rintro r w1 ⟨rfl, rfl⟩
        go_wp2_with fail
        refine (hlow _).mono ?_; rintro r w1 ⟨rfl, rfl⟩
        go_wp2_with fail
        refine (hhigh _).mono ?_; rintro r w1 ⟨rfl, rfl⟩
        go_wp2
        go_ret
        exact ⟨ret_bool R.out.symm, rfl⟩
      have o2 : FloatKind.f64.format.order y 2805742567851819008 = some Ordering.gt := (Flt.order_words h1 (by decide)).trans (congrArg some (Flt.cmp_gt (by omega)))
      have o3 : FloatKind.f64.format.order y 6408622269748215808 = some Ordering.gt := (Flt.order_words h1 (by decide)).trans (congrArg some (Flt.cmp_gt (by omega)))
      have R := Lib.hid (decide_eq_false (p := y = 0 ∨ (2805742567851819008 ≤ y ∧ y ≤ 6408622269748215808)) (by omega))
      clear h0 hz h1 c1 c2 c3 c4
      go_enter Try.func21, Try.ntmps21
      go_wp2_with fail
      refine (hfin _).mono ?_; rintro r w1 ⟨rfl, rfl⟩
      go_wp2_with fail
      refine (hlow _).mono ?_; rintro r w1 ⟨rfl, rfl⟩
      go_wp2_with fail
      refine (hhigh _).mono ?_; rintro r w1 ⟨rfl, rfl⟩
      go_wp2
      go_ret
      exact ⟨ret_bool R.out.symm, rfl⟩
    · have hxe : x = y + 9223372036854775808 := by omega
      have o0 : FloatKind.f64.format.order x 0 = some Ordering.lt := Flt.order_neg hxe (by omega) h1
      have hn : Op.negFloat .f64 x = y := by rw [neg_eq x hx, if_neg hs]; omega
      have hng := fun w => (run_neg (P := Try.prog) x w).trans (by rw [hn])
      clear hxe hn hy
      by_cases c1 : y < 2805742567851819008
      · have o2 : FloatKind.f64.format.order y 2805742567851819008 = some Ordering.lt := (Flt.order_words h1 (by decide)).trans (congrArg some (Flt.cmp_lt c1))
        have R := Lib.hid (decide_eq_false (p := y = 0 ∨ (2805742567851819008 ≤ y ∧ y ≤ 6408622269748215808)) (by omega))
        clear h0 hz h1 c1
        go_enter Try.func21, Try.ntmps21
        go_wp2_with fail
        refine (hfin _).mono ?_; rintro r w1 ⟨rfl, rfl⟩
        go_wp2_with fail
        refine (hlow _).mono ?_; rintro r w1 ⟨rfl, rfl⟩
        go_wp2_with fail
        refine (hhigh _).mono ?_; rintro r w1 ⟨rfl, rfl⟩
        go_wp2
        go_ret
        exact ⟨ret_bool R.out.symm, rfl⟩
      by_cases c2 : y = 2805742567851819008
      · have o2 : FloatKind.f64.format.order y 2805742567851819008 = some Ordering.eq := (Flt.order_words h1 (by decide)).trans (congrArg some (by rw [c2]; exact Flt.cmp_eq _))
        have o3 : FloatKind.f64.format.order y 6408622269748215808 = some Ordering.lt := (Flt.order_words h1 (by decide)).trans (congrArg some (Flt.cmp_lt (by omega)))
        have R := Lib.hid (decide_eq_true (p := y = 0 ∨ (2805742567851819008 ≤ y ∧ y ≤ 6408622269748215808)) (by omega))
        clear h0 hz h1 c1 c2
        go_enter Try.func21, Try.ntmps21
        go_wp2_with fail
        refine (hfin _).mono ?_; rintro r w1 ⟨rfl, rfl⟩
        go_wp2_with fail
        refine (hlow _).mono ?_; rintro r w1 ⟨rfl, rfl⟩
        go_wp2_with fail
        refine (hhigh _).mono ?_; rintro r w1 ⟨rfl, rfl⟩
        go_wp2
        go_ret
        exact ⟨ret_bool R.out.symm, rfl⟩
      by_cases c3 : y < 6408622269748215808
      · have o2 : FloatKind.f64.format.order y 2805742567851819008 = some Ordering.gt := (Flt.order_words h1 (by decide)).trans (congrArg some (Flt.cmp_gt (by omega)))
        have o3 : FloatKind.f64.format.order y 6408622269748215808 = some Ordering.lt := (Flt.order_words h1 (by decide)).trans (congrArg some (Flt.cmp_lt c3))
        have R := Lib.hid (decide_eq_true (p := y = 0 ∨ (2805742567851819008 ≤ y ∧ y ≤ 6408622269748215808)) (by omega))
        clear h0 hz h1 c1 c2 c3
        go_enter Try.func21, Try.ntmps21
        go_wp2_with fail
        refine (hfin _).mono ?_; rintro r w1 ⟨rfl, rfl⟩
        go_wp2_with fail
        refine (hlow _).mono ?_; rintro r w1 ⟨rfl, rfl⟩
        go_wp2_with fail
        refine (hhigh _).mono ?_; rintro r w1 ⟨rfl, rfl⟩
        go_wp2
        go_ret
        exact ⟨ret_bool R.out.symm, rfl⟩
      by_cases c4 : y = 6408622269748215808
      · have o2 : FloatKind.f64.format.order y 2805742567851819008 = some Ordering.gt := (Flt.order_words h1 (by decide)).trans (congrArg some (Flt.cmp_gt (by omega)))
        have o3 : FloatKind.f64.format.order y 6408622269748215808 = some Ordering.eq := (Flt.order_words h1 (by decide)).trans (congrArg some (by rw [c4]; exact Flt.cmp_eq _))
        have R := Lib.hid (decide_eq_true (p := y = 0 ∨ (2805742567851819008 ≤ y ∧ y ≤ 6408622269748215808)) (by omega))
        clear h0 hz h1 c1 c2 c3 c4
        go_enter Try.func21, Try.ntmps21
        go_wp2_with fail
        refine (hfin _).mono ?_; rintro r w1 ⟨rfl, rfl⟩
        go_wp2_with fail
        refine (hlow _).mono ?_; rintro r w1 ⟨rfl, rfl⟩
        go_wp2_with fail
        refine (hhigh _).mono ?_; rintro r w1 ⟨rfl, rfl⟩
        go_wp2
        go_ret
        exact ⟨ret_bool R.out.symm, rfl⟩
      have o2 : FloatKind.f64.format.order y 2805742567851819008 = some Ordering.gt := (Flt.order_words h1 (by decide)).trans (congrArg some (Flt.cmp_gt (by omega)))
      have o3 : FloatKind.f64.format.order y 6408622269748215808 = some Ordering.gt := (Flt.order_words h1 (by decide)).trans (congrArg some (Flt.cmp_gt (by omega)))
      have R := Lib.hid (decide_eq_false (p := y = 0 ∨ (2805742567851819008 ≤ y ∧ y ≤ 6408622269748215808)) (by omega))
      clear h0 hz h1 c1 c2 c3 c4
      go_enter Try.func21, Try.ntmps21
      go_wp2_with fail
      refine (hfin _).mono ?_; rintro r w1 ⟨rfl, rfl⟩
      go_wp2_with fail
      refine (hlow _).mono ?_; rintro r w1 ⟨rfl, rfl⟩
      go_wp2_with fail
      refine (hhigh _).mono ?_; rintro r w1 ⟨rfl, rfl⟩
      go_wp2
      go_ret
      exact ⟨ret_bool R.out.symm, rfl⟩
  · rw [decide_eq_false h1] at hfin
    have o0 : (FloatKind.f64.format.order x 0 == some Ordering.eq) = false := Flt.order_notfin (by omega) (by decide)
    have R := Lib.hid (decide_eq_false (p := y = 0 ∨ (2805742567851819008 ≤ y ∧ y ≤ 6408622269748215808)) (by omega))
    clear hlow hhigh
    go_enter Try.func21, Try.ntmps21
    go_wp2_with fail
    refine (hfin _).mono ?_; rintro r w1 ⟨rfl, rfl⟩
    go_wp2
    go_ret
    exact ⟨ret_bool R.out.symm, rfl⟩
end Go.Proofs.Ytknlpggbaahajaa
