/- mod.Pow is the document's power. -/
import Derived.Test.YtcglffigbdglpaaDoorMul
namespace Go.Proofs.YtcglffigbdglpaaDoor
open Go.RowKit

theorem and_one_i64 (e : Int) (h0 : 0 ≤ e) (h1 : e ≤ 9223372036854775807) : bits .and .i64 e 1 = e % 2 := by
  obtain ⟨n, rfl⟩ := Int.eq_ofNat_of_zero_le h0
  have h2 : (BitVec.ofInt 64 (n : Int)).toNat = n := by
    rw [BitVec.ofInt_natCast, BitVec.toNat_ofNat]; exact Nat.mod_eq_of_lt (by omega)
  show IntKind.i64.wrap ((BitVec.ofInt 64 (n : Int) &&& BitVec.ofInt 64 1).toNat : Int) = _
  rw [BitVec.toNat_and, h2]
  have h3 : (BitVec.ofInt 64 1).toNat = 1 := by decide
  rw [h3, Nat.and_one_is_mod, IntKind.wrap_i64]
  omega

theorem pow_dr (a e m : Int) (w : World) (he1 : e ≤ 9223372036854775807) :
    Calls Tryd.prog 21 #[.int .i64 a, .int .i64 e, .int .i64 m] w fun r w' => r = .returned (.int .i64 (powS a e m)) ∧ Dr w w' := by
  by_cases hm : 1 ≤ m ∧ m ≤ 4611686018427387904
  · obtain ⟨h1, h2⟩ := hm
    by_cases h3 : 0 ≤ e
    · rw [powS_yes h1 h2 h3]
      have hS := PowInv.start (a := a) h1 h3
      have h3' : ¬ e < 0 := by omega
      go_enter Tryd.func21, Tryd.ntmps21
      go_wp2_with fail
      refine (isModulus_yes m _ h1 h2).mono ?_; rintro r w1 ⟨rfl, rfl⟩
      go_wp2_with fail
      refine (remainder_any 1 m _ h1 h2).mono ?_; rintro r w1 ⟨rfl, rfl⟩
      go_wp2_with fail
      go_loopw [1, 7, 8] (fun x y z wr => ∃ e' p s : Int, PowInv a e m p s e' ∧ x = .int .i64 e' ∧ y = .int .i64 p ∧ z = .int .i64 s ∧ Dr w wr) (fun x _ _ _ => (intOf x).toNat)
      case atStart => exact ⟨_, _, _, hS, rfl, rfl, rfl, Dr.refl _⟩
      case round =>
        obtain ⟨e', p, s, hI, rfl, rfl, rfl, hg⟩ := hrel
        have i0 := hI.e0
        have i1 : e' ≤ 9223372036854775807 := Int.le_trans hI.e1 he1
        by_cases hp : 0 < e'
        · have ha := and_one_i64 e' i0 i1
          by_cases hb : e' % 2 = 1
          · have hN := hI.odd h1 hb
            rw [← mulS_yes h1 h2, ← mulS_yes h1 h2] at hN
            have t2 : (bits .and .i64 e' 1 == 1) = true := by rw [ha, hb]; rfl
            clear ha hb
            go_wp2_with fail
            refine (mul_dr p s m _).mono ?_; rintro r w1 ⟨rfl, hg1⟩
            go_wp2_with fail
            refine (mul_dr s s m _).mono ?_; rintro r w2 ⟨rfl, hg2⟩
            go_wp2
            go_roundw
            case rel => exact ⟨_, _, _, hN, rfl, rfl, rfl, (hg.trans hg1).trans hg2⟩
            case measure => simp [intOf]; omega
          · have hN := hI.even (by omega)
            rw [← mulS_yes h1 h2] at hN
            have t2 : (bits .and .i64 e' 1 == 1) = false := by rw [ha, beq_eq_false_iff_ne]; exact hb
            clear ha hb
            go_wp2_with fail
            refine (mul_dr s s m _).mono ?_; rintro r w2 ⟨rfl, hg2⟩
            go_wp2
            go_roundw
            case rel => exact ⟨_, _, _, hN, rfl, rfl, rfl, hg.trans hg2⟩
            case measure => simp [intOf]; omega
        · have hd := hI.done hp
          have E := Lib.hid hd; clear hd
          go_wp2
          go_ret
          exact ⟨ret_i64 E.out, hg⟩
    · rw [powS_no (by omega)]
      have h3' : e < 0 := by omega
      go_enter Tryd.func21, Tryd.ntmps21
      go_wp2_with fail
      refine (isModulus_yes m _ h1 h2).mono ?_; rintro r w1 ⟨rfl, rfl⟩
      go_wp2
      go_ret
      exact ⟨rfl, Dr.refl _⟩
  · rw [powS_no (by omega)]
    go_enter Tryd.func21, Tryd.ntmps21
    go_wp2_with fail
    refine (isModulus_no m _ (by omega)).mono ?_; rintro r w1 ⟨rfl, rfl⟩
    go_wp2
    go_ret
    exact ⟨rfl, Dr.refl _⟩

theorem pow_any (a e m : Int) (w : World) (he1 : e ≤ 9223372036854775807) :
    Calls Tryd.prog 21 #[.int .i64 a, .int .i64 e, .int .i64 m] w fun r w' => r = .returned (.int .i64 (powS a e m)) ∧ Bel w w' :=
  (pow_dr a e m w he1).mono fun _ _ ⟨h, g⟩ => ⟨h, g.bel⟩

end Go.Proofs.YtcglffigbdglpaaDoor
