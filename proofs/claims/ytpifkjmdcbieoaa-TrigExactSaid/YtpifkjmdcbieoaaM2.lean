/- Merged texts: Ref3b, Ref3c, SizeP, Fix, FixV, Near5P, SerN, Quart, SmallR, Oct5, Carry5. -/
import Derived.Test.YtpifkjmdcbieoaaM1
import Derived.StillTailTactics
import Derived.BigQuiet
import Derived.Deep.QuietTactic
import Derived.Deep.CutBlock
import Derived.IntWalk
import Derived.WalkKit
import Derived.Test.YtpifkjmdcbieoaaProg
import Derived.Deep.DeepCutAuto
/- The reference's Put and Add (layer 3): a number is added to a long one. -/
namespace Go.Proofs.Ytpifkjmdcbieoaa
open Go.RowKit

set_option maxHeartbeats 2000000 in
theorem put_any (g : Nat) (f : Nat → Int) (m e : Int) (w : World) (hf : LongAt w g f) (hm : m.natAbs < 1237940039285380274899124224) (hm2 : m.natAbs < 4611686018427387904) (he0 : -1150 ≤ e) (he1 : e ≤ 1900) (hb : ∀ i, (f i).natAbs ≤ 1152921504606846976) :
    Calls Try.prog 28 #[.pointer (some ⟨g, 0, none⟩), .int .i64 m, .int .i64 e] w fun r w' => r = .returned (.tuple #[]) ∧ ∃ f', LongAt w' g f' ∧ lval f' = lval f + m * 2 ^ (e + 1200).toNat ∧ (∀ j, (f' j - f j).natAbs ≤ 3221225472) ∧ Touch g w w' := by
  by_cases h0 : m = 0
  · subst h0
    go_enter Try.func28, Try.ntmps28
    go_wp2
    refine bodyPost_ret (results_none rfl _ _ _) rfl ?_
    exact ⟨rfl, f, hf, by simp, fun j => by simp, Touch.refl _ _⟩
  · obtain ⟨A, hA⟩ : ∃ A : Nat, e + 1200 = (A : Int) := ⟨(e + 1200).toNat, by omega⟩
    obtain ⟨k, hk⟩ : ∃ k : Nat, k = A / 30 := ⟨_, rfl⟩
    obtain ⟨s, hs⟩ : ∃ s : Nat, s = A % 30 := ⟨_, rfl⟩
    have eK : (A : Int) / 30 = (k : Int) := by omega
    have eS : (A : Int) % 30 = (s : Int) := by omega
    have hat := Lib.hid (show A = 30 * k + s by omega)
    have hs30 : s < 30 := by omega
    have hk105 : k < 105 := by omega
    obtain ⟨M, hM⟩ : ∃ M : Nat, M = m.natAbs := ⟨_, rfl⟩
    have t0 : (m == 0) = false := by rw [beq_eq_false_iff_ne]; exact h0
    clear hk hs
    by_cases hn : m < 0
    · have eU : IntKind.u64.wrap (-IntKind.u64.wrap m) = (M : Int) := by rw [IntKind.wrap_u64, IntKind.wrap_u64]; omega
      have hfin := Lib.hid (show m = -1 * (M : Int) by omega)
      have hS := PutInv.start M true A f
      have M62 : M < 4611686018427387904 := by omega
      clear hM hm hm2
      go_enter Try.func28, Try.ntmps28
      go_wp2
      rw [eS]
      go_loopw [10, 11] (fun x y wr => ∃ (f' : Nat → Int) (i u : Nat), PutInv M true A f f' i u ∧ i ≤ 3 ∧ u < 4611686018427387904 ∧ x = .int .u64 (u : Int) ∧ y = .int .i64 (i : Int) ∧ LongAt wr g f' ∧ Touch g w wr) (fun _ y _ => (3 - intOf y).toNat)
      case atStart => exact ⟨f, 0, M, hS, by omega, M62, rfl, rfl, hf, Touch.refl _ _⟩
      case round =>
        obtain ⟨f', i, u, hI, hi3, hu, rfl, rfl, hL, hB⟩ := hrel
        by_cases hi : i < 3
        · obtain ⟨P, hP⟩ : ∃ P : Nat, P = u % 1073741824 := ⟨_, rfl⟩
          have hN := hI.next_t hat.out hs30 (by omega)
          have hle := hI.le
          have eP : bits .and .u64 (u : Int) 1073741823 = (P : Int) := by rw [bits_30n u (by omega), hP]
          have hP1 : P < 1073741824 := by rw [hP]; exact Nat.mod_lt _ (by decide)
          obtain ⟨hQ1, eQ⟩ := shl_small hP1 hs30
          rw [← hP] at hN
          clear hP hI
          generalize P * 2 ^ s = Q at hN hQ1 eQ
          obtain ⟨a, b, eA, eB, ha, hb', a0, a1, b0, b1⟩ := fold hQ1
          rw [← ha, ← hb'] at hN
          clear ha hb'
          have hN := Lib.hid hN
          obtain ⟨J, hJ⟩ : ∃ J : Nat, J = k + i := ⟨_, rfl⟩
          have J109 : J < 109 := by omega
          obtain ⟨y0, y2⟩ := wrap_idx hJ (by omega)
          obtain ⟨c1, z1⟩ := hL J (by omega)
          obtain ⟨v, hv⟩ : ∃ v : Int, v = f' J := ⟨_, rfl⟩
          obtain ⟨v2, hv2⟩ : ∃ v2 : Int, v2 = f' (J + 1) := ⟨_, rfl⟩
          have bv := limb_bound hi3 (hle J) (hb J)
          have bv2 := limb_bound hi3 (hle (J + 1)) (hb (J + 1))
          rw [← hv] at c1 bv
          rw [← hv2] at bv2
          have y1 : IntKind.i64.wrap (v + -a) = v + -a := wrap_sum bv (by omega)
          have y3 : IntKind.i64.wrap (v2 + -b) = v2 + -b := wrap_sum bv2 (by omega)
          have J0 : (0 : Int) ≤ (J : Int) := by omega
          have J1 : (J : Int) < 110 := by omega
          have J2 : (J : Int) + 1 < 110 := by omega
          have J3 : (0 : Int) ≤ (J : Int) + 1 := by omega
          have J4 : ((J : Int) + 1).toNat = J + 1 := by omega
          have hfin2 := Lib.hid (show PutInv M true A f (upd (upd f' J (v + -a)) (J + 1) (v2 + -b)) (i + 1) (u / 1073741824) from by
            have h5 := hN.out
            rw [← hJ, ← hv, upd_other f' (v + -a) (show J + 1 ≠ J by omega), ← hv2] at h5
            exact h5)
          have hv2H := Lib.hid hv2
          clear hJ hv hv2 hle bv bv2 hN
          go_upto_region 19 with fail
          go_still_tail 17, (by kernel_rfl)
          change wpList _ _ _ _ _ wr.drew
          have hL2 : LongAt wr.drew g f' := hL
          have hB2 : Touch g w wr.drew := hB.drew
          have c2 : wr.drew.cell? ⟨g, J, none⟩ = some (.int .i64 v) := c1
          have z2 : wr.drew.frozen? ⟨g, J, none⟩ = false := z1
          clear hL hB c1 z1
          generalize wr.drew = w2 at hL2 hB2 c2 z2 ⊢
          go_upto_region 20 with fail
          have hL3 := hL2.put (k := J) (by omega) (v + -a)
          have hB3 : Touch g w (w2.setCell ⟨g, J, none⟩ (.int .i64 (v + -a))) := hB2.setCell rfl _
          obtain ⟨c3, z3⟩ := hL3 (J + 1) (by omega)
          rw [upd_other f' (v + -a) (show J + 1 ≠ J by omega), ← hv2H.out] at c3
          clear hL2 hB2 c2 z2
          generalize w2.setCell ⟨g, J, none⟩ (.int .i64 (v + -a)) = w3 at hL3 hB3 c3 z3 ⊢
          go_still_tail 19, (by kernel_rfl)
          change wpList _ _ _ _ _ w3.drew
          have hL4 : LongAt w3.drew g (upd f' J (v + -a)) := hL3
          have hB4 : Touch g w w3.drew := hB3.drew
          have c4 : w3.drew.cell? ⟨g, J + 1, none⟩ = some (.int .i64 v2) := c3
          have z4 : w3.drew.frozen? ⟨g, J + 1, none⟩ = false := z3
          clear hL3 hB3 c3 z3
          generalize w3.drew = w4 at hL4 hB4 c4 z4 ⊢
          have hL5 := hL4.put (k := J + 1) (by omega) (v2 + -b)
          have hB5 : Touch g w (w4.setCell ⟨g, J + 1, none⟩ (.int .i64 (v2 + -b))) := hB4.setCell rfl _
          go_wp2
          go_roundw
          case rel =>
            exact ⟨_, i + 1, u / 1073741824, hfin2.out, by omega, by omega, rfl, by simp, hL5, hB5⟩
          case measure => simp [intOf]; omega
        · have h3 : i = 3 := by omega
          subst h3
          have hv := hI.val
          have hM3 := Lib.hid (Nat.mod_eq_of_lt (show M < 2 ^ (30 * 3) from Nat.lt_of_lt_of_le M62 (by decide)))
          rw [hM3.out, if_pos rfl, ← hfin.out] at hv
          have hv := Lib.hid hv
          have hle := hI.le
          clear hI
          go_wp2
          go_end0
          exact ⟨rfl, f', hL, by rw [show (e + 1200).toNat = A from by omega]; exact hv.out, hle, hB⟩
    · have eU : IntKind.u64.wrap m = (M : Int) := by rw [IntKind.wrap_u64]; omega
      have hfin := Lib.hid (show m = 1 * (M : Int) by omega)
      have hS := PutInv.start M false A f
      have M62 : M < 4611686018427387904 := by omega
      clear hM hm hm2
      go_enter Try.func28, Try.ntmps28
      go_wp2
      go_loopw [10, 11] (fun x y wr => ∃ (f' : Nat → Int) (i u : Nat), PutInv M false A f f' i u ∧ i ≤ 3 ∧ u < 4611686018427387904 ∧ x = .int .u64 (u : Int) ∧ y = .int .i64 (i : Int) ∧ LongAt wr g f' ∧ Touch g w wr) (fun _ y _ => (3 - intOf y).toNat)
      case atStart => exact ⟨f, 0, M, hS, by omega, M62, rfl, rfl, hf, Touch.refl _ _⟩
      case round =>
        obtain ⟨f', i, u, hI, hi3, hu, rfl, rfl, hL, hB⟩ := hrel
        by_cases hi : i < 3
        · obtain ⟨P, hP⟩ : ∃ P : Nat, P = u % 1073741824 := ⟨_, rfl⟩
          have hN := hI.next_f hat.out hs30 (by omega)
          have hle := hI.le
          have eP : bits .and .u64 (u : Int) 1073741823 = (P : Int) := by rw [bits_30n u (by omega), hP]
          have hP1 : P < 1073741824 := by rw [hP]; exact Nat.mod_lt _ (by decide)
          obtain ⟨hQ1, eQ⟩ := shl_small hP1 hs30
          rw [← hP] at hN
          clear hP hI
          generalize P * 2 ^ s = Q at hN hQ1 eQ
          obtain ⟨a, b, eA, eB, ha, hb', a0, a1, b0, b1⟩ := fold hQ1
          rw [← ha, ← hb'] at hN
          clear ha hb'
          have hN := Lib.hid hN
          obtain ⟨J, hJ⟩ : ∃ J : Nat, J = k + i := ⟨_, rfl⟩
          have J109 : J < 109 := by omega
          obtain ⟨y0, y2⟩ := wrap_idx hJ (by omega)
          obtain ⟨c1, z1⟩ := hL J (by omega)
          obtain ⟨v, hv⟩ : ∃ v : Int, v = f' J := ⟨_, rfl⟩
          obtain ⟨v2, hv2⟩ : ∃ v2 : Int, v2 = f' (J + 1) := ⟨_, rfl⟩
          have bv := limb_bound hi3 (hle J) (hb J)
          have bv2 := limb_bound hi3 (hle (J + 1)) (hb (J + 1))
          rw [← hv] at c1 bv
          rw [← hv2] at bv2
          have y1 : IntKind.i64.wrap (v + a) = v + a := wrap_sum bv (by omega)
          have y3 : IntKind.i64.wrap (v2 + b) = v2 + b := wrap_sum bv2 (by omega)
          have J0 : (0 : Int) ≤ (J : Int) := by omega
          have J1 : (J : Int) < 110 := by omega
          have J2 : (J : Int) + 1 < 110 := by omega
          have J3 : (0 : Int) ≤ (J : Int) + 1 := by omega
          have J4 : ((J : Int) + 1).toNat = J + 1 := by omega
          have hfin2 := Lib.hid (show PutInv M false A f (upd (upd f' J (v + a)) (J + 1) (v2 + b)) (i + 1) (u / 1073741824) from by
            have h5 := hN.out
            rw [← hJ, ← hv, upd_other f' (v + a) (show J + 1 ≠ J by omega), ← hv2] at h5
            exact h5)
          have hv2H := Lib.hid hv2
          clear hJ hv hv2 hle bv bv2 hN
          go_upto_region 19 with fail
          go_still_tail 17, (by kernel_rfl)
          change wpList _ _ _ _ _ wr.drew
          have hL2 : LongAt wr.drew g f' := hL
          have hB2 : Touch g w wr.drew := hB.drew
          have c2 : wr.drew.cell? ⟨g, J, none⟩ = some (.int .i64 v) := c1
          have z2 : wr.drew.frozen? ⟨g, J, none⟩ = false := z1
          clear hL hB c1 z1
          generalize wr.drew = w2 at hL2 hB2 c2 z2 ⊢
          go_upto_region 20 with fail
          have hL3 := hL2.put (k := J) (by omega) (v + a)
          have hB3 : Touch g w (w2.setCell ⟨g, J, none⟩ (.int .i64 (v + a))) := hB2.setCell rfl _
          obtain ⟨c3, z3⟩ := hL3 (J + 1) (by omega)
          rw [upd_other f' (v + a) (show J + 1 ≠ J by omega), ← hv2H.out] at c3
          clear hL2 hB2 c2 z2
          generalize w2.setCell ⟨g, J, none⟩ (.int .i64 (v + a)) = w3 at hL3 hB3 c3 z3 ⊢
          go_still_tail 19, (by kernel_rfl)
          change wpList _ _ _ _ _ w3.drew
          have hL4 : LongAt w3.drew g (upd f' J (v + a)) := hL3
          have hB4 : Touch g w w3.drew := hB3.drew
          have c4 : w3.drew.cell? ⟨g, J + 1, none⟩ = some (.int .i64 v2) := c3
          have z4 : w3.drew.frozen? ⟨g, J + 1, none⟩ = false := z3
          clear hL3 hB3 c3 z3
          generalize w3.drew = w4 at hL4 hB4 c4 z4 ⊢
          have hL5 := hL4.put (k := J + 1) (by omega) (v2 + b)
          have hB5 : Touch g w (w4.setCell ⟨g, J + 1, none⟩ (.int .i64 (v2 + b))) := hB4.setCell rfl _
          go_wp2
          go_roundw
          case rel =>
            exact ⟨_, i + 1, u / 1073741824, hfin2.out, by omega, by omega, rfl, by simp, hL5, hB5⟩
          case measure => simp [intOf]; omega
        · have h3 : i = 3 := by omega
          subst h3
          have hv := hI.val
          have hM3 := Lib.hid (Nat.mod_eq_of_lt (show M < 2 ^ (30 * 3) from Nat.lt_of_lt_of_le M62 (by decide)))
          rw [hM3.out, if_neg (by decide), ← hfin.out] at hv
          have hv := Lib.hid hv
          have hle := hI.le
          clear hI
          go_wp2
          go_end0
          exact ⟨rfl, f', hL, by rw [show (e + 1200).toNat = A from by omega]; exact hv.out, hle, hB⟩
end Go.Proofs.Ytpifkjmdcbieoaa

/- The reference's Add and Zero (layer 3). -/
namespace Go.Proofs.Ytpifkjmdcbieoaa
open Go.RowKit

theorem pA_small (x : Nat) : (pM x).natAbs < 4611686018427387904 ∧ (pM x).natAbs < 1237940039285380274899124224 := by
  have := pA_lt x
  rw [pM_abs]; omega
/-- a finite float is added: in units of 2^-1200 -/
theorem add_any (g : Nat) (f : Nat → Int) (x : Nat) (n : Int) (w : World) (hx : Flt.Num x n) (hf : LongAt w g f) (hb : ∀ i, (f i).natAbs ≤ 1152921504606846976) :
    Calls Try.prog 29 #[.pointer (some ⟨g, 0, none⟩), .float .f64 x] w fun r w' => r = .returned (.tuple #[]) ∧ ∃ f', LongAt w' g f' ∧ lval f' = lval f + n * 2 ^ 126 ∧ (∀ j, (f' j - f j).natAbs ≤ 3221225472) ∧ Touch g w w' := by
  have hp := num_parts hx
  have h1 := pE_ge x
  have h2 := pE_le hx.fin
  obtain ⟨h3, h4⟩ := pA_small x
  have hval := Lib.hid (show pM x * 2 ^ (pE x + 1200).toNat = n * 2 ^ 126 from by
    rw [hp, show (pE x + 1200).toNat = (pE x + 1074).toNat + 126 from by omega, Int.pow_add, Int.mul_assoc])
  clear hp
  go_enter Try.func29, Try.ntmps29
  go_wp2_with fail
  refine (parts_any x _).mono ?_; rintro r w1 ⟨rfl, rfl⟩
  go_wp2_with fail
  refine (put_any g f (pM x) (pE x) _ hf h4 h3 (by omega) (by omega) hb).mono ?_; rintro r w1 ⟨rfl, f', k1, k2, k3, k4⟩
  have k2 := Lib.hid k2
  go_wp2
  go_end0
  exact ⟨rfl, f', k1, by rw [k2.out, hval.out], k3, k4⟩

theorem bits_30i (v : Int) : bits .and .i64 v 1073741823 = v % 1073741824 := by
  have h2 : (BitVec.ofInt 64 v).toNat = (v % 18446744073709551616).toNat := by rw [BitVec.toNat_ofInt]; rfl
  show IntKind.i64.wrap ((BitVec.ofInt 64 v &&& BitVec.ofInt 64 1073741823).toNat : Int) = _
  have h3 : (BitVec.ofInt 64 1073741823).toNat = 2 ^ 30 - 1 := by decide
  rw [BitVec.toNat_and, h2, h3, Nat.and_two_pow_sub_one_eq_mod, IntKind.wrap_i64]
  omega
theorem lsum_tail (f : Nat → Int) (k : Nat) : ∀ n, k ≤ n → ∃ t, lsum f n = lsum f k + t * 2 ^ (30 * k)
  | 0, h => ⟨0, by have : k = 0 := by omega
                   subst this; simp⟩
  | n + 1, h => by
    by_cases c : k = n + 1
    · exact ⟨0, by rw [c]; simp⟩
    · obtain ⟨t, ht⟩ := lsum_tail f k n (by omega)
      refine ⟨t + f n * 2 ^ (30 * (n - k)), ?_⟩
      show lsum f n + f n * 2 ^ (30 * n) = _
      rw [ht, Int.add_mul, Int.mul_assoc (f n), ← Int.pow_add, show 30 * (n - k) + 30 * k = 30 * n from by omega, Int.add_assoc]
/-- the carry -/
structure ZInv (f : Nat → Int) (i : Nat) (c : Int) : Prop where
  eq : lsum f i = c * 2 ^ (30 * i)
theorem ZInv.next {f : Nat → Int} {i : Nat} {c : Int} (h : ZInv f i c) (hm : (f i + c) % 1073741824 = 0) : ZInv f (i + 1) ((f i + c) / 1073741824) := by
  refine ⟨?_⟩
  show lsum f i + f i * 2 ^ (30 * i) = _
  have h1 : f i + c = (f i + c) / 1073741824 * 1073741824 := by omega
  rw [h.eq, ← Int.add_mul, Int.add_comm c, show 30 * (i + 1) = 30 + 30 * i from by omega, Int.pow_add, ← Int.mul_assoc]
  exact congrArg (· * (2 : Int) ^ (30 * i)) h1
theorem ZInv.no {f : Nat → Int} {i : Nat} {c : Int} (h : ZInv f i c) (hi : i < 110) (hm : (f i + c) % 1073741824 ≠ 0) : lval f ≠ 0 := by
  intro hz
  obtain ⟨t, ht⟩ := lsum_tail f (i + 1) 110 (by omega)
  have h1 : lsum f (i + 1) = (f i + c) * 2 ^ (30 * i) := by
    show lsum f i + f i * 2 ^ (30 * i) = _
    rw [h.eq, ← Int.add_mul, Int.add_comm c]
  have hz' : lsum f 110 = 0 := by rw [← lval_eq]; exact hz
  rw [ht, h1, show 30 * (i + 1) = 30 + 30 * i from by omega, Int.pow_add, ← Int.mul_assoc, ← Int.add_mul] at hz'
  rcases Int.mul_eq_zero.1 hz' with h2 | h2
  · have e30 : (2 : Int) ^ 30 = 1073741824 := rfl
    rw [e30] at h2
    omega
  · exact absurd h2 (Int.ne_of_gt (Int.pow_pos (by decide)))
theorem ZInv.done {f : Nat → Int} {c : Int} (h : ZInv f 110 c) : decide (lval f = 0) = (c == 0) := by
  have e : lval f = c * 2 ^ (30 * 110) := by rw [lval_eq]; exact h.eq
  by_cases hc : c = 0
  · subst hc
    exact decide_eq_true (by rw [e, Int.zero_mul])
  · have h1 : lval f ≠ 0 := by
      rw [e]
      intro hz
      rcases Int.mul_eq_zero.1 hz with h2 | h2
      · exact hc h2
      · exact absurd h2 (Int.ne_of_gt (Int.pow_pos (by decide)))
    rw [decide_eq_false h1]; symm; rw [beq_eq_false_iff_ne]; exact hc

end Go.Proofs.Ytpifkjmdcbieoaa

/- The digits of a long number: carries, the digits turned, how many bits. Over whole numbers. No program is named here. -/
namespace Go.Proofs.Ytpifkjmdcbieoaa
open Go.RowKit

theorem two_i (k : Nat) : (0 : Int) < 2 ^ k := Int.pow_pos (by decide)
/-- digits from 0 to 2^30 - 1, up to n -/
def Digs (d : Nat → Int) (n : Nat) : Prop := ∀ j, j < n → 0 ≤ d j ∧ d j < 1073741824
theorem Digs.sum {d : Nat → Int} : ∀ {n : Nat}, Digs d n → 0 ≤ lsum d n ∧ lsum d n < 2 ^ (30 * n)
  | 0, _ => by simp [lsum]
  | n + 1, h => by
    obtain ⟨h1, h2⟩ := Digs.sum (n := n) fun j hj => h j (by omega)
    obtain ⟨d1, d2⟩ := h n (by omega)
    show 0 ≤ lsum d n + d n * 2 ^ (30 * n) ∧ lsum d n + d n * 2 ^ (30 * n) < 2 ^ (30 * (n + 1))
    have e : (2 : Int) ^ (30 * (n + 1)) = 1073741824 * 2 ^ (30 * n) := by
      rw [show 30 * (n + 1) = 30 + 30 * n from by omega, Int.pow_add]; rfl
    have hp := two_i (30 * n)
    obtain ⟨P, hP⟩ : ∃ P, P = (2 : Int) ^ (30 * n) := ⟨_, rfl⟩
    rw [e]
    rw [← hP] at h2 hp ⊢
    have b1 : 0 ≤ d n * P := Int.mul_nonneg d1 (by omega)
    have b2 : d n * P ≤ 1073741823 * P := Int.mul_le_mul_of_nonneg_right (by omega) (by omega)
    omega
theorem Digs.upd {d : Nat → Int} {n : Nat} {v : Int} (h : Digs d n) (hv : 0 ≤ v ∧ v < 1073741824) : Digs (upd d n v) (n + 1) := by
  intro j hj
  by_cases c : j = n
  · subst c; rw [upd_same]; exact hv
  · rw [upd_other d v c]; exact h j (by omega)
theorem lsum_upd_ge (d : Nat → Int) (v : Int) {n k : Nat} (h : n ≤ k) : lsum (upd d k v) n = lsum d n :=
  lsum_congr n fun i hi => upd_other d v (by omega)

/-- the first loop: digits and a carry -/
structure CarInv (f d : Nat → Int) (i : Nat) (c : Int) : Prop where
  digs : Digs d i
  eq : lsum f i = lsum d i + c * 2 ^ (30 * i)
theorem CarInv.start (f d : Nat → Int) : CarInv f d 0 0 := ⟨fun j hj => by omega, by simp [lsum]⟩
theorem CarInv.next {f d : Nat → Int} {i : Nat} {c v : Int} (h : CarInv f d i c) (hv : v = f i + c) : CarInv f (upd d i (v % 1073741824)) (i + 1) (v / 1073741824) := by
  refine ⟨h.digs.upd (by omega), ?_⟩
  show lsum f i + f i * 2 ^ (30 * i) = lsum (upd d i (v % 1073741824)) i + upd d i (v % 1073741824) i * 2 ^ (30 * i) + _
  rw [upd_same, lsum_upd_ge d _ (Nat.le_refl i), h.eq, show 30 * (i + 1) = 30 + 30 * i from by omega, Int.pow_add]
  have e : f i + c = v % 1073741824 + v / 1073741824 * 1073741824 := by omega
  have e30 : (2 : Int) ^ 30 = 1073741824 := rfl
  rw [e30, ← Int.mul_assoc, Int.add_assoc, Int.add_assoc, ← Int.add_mul, ← Int.add_mul]
  have : c + f i = v % 1073741824 + v / 1073741824 * 1073741824 := by omega
  rw [this]
/-- the second loop: the digits turned, and one more; what is not yet turned stands as it was -/
structure TurInv (d e : Nat → Int) (i : Nat) (m : Int) : Prop where
  digs : Digs e i
  rest : ∀ j, i ≤ j → e j = d j
  eq : lsum e i + m * 2 ^ (30 * i) = 2 ^ (30 * i) - lsum d i
  m : m = 0 ∨ m = 1
theorem TurInv.start (d : Nat → Int) : TurInv d d 0 1 := ⟨fun j hj => by omega, fun _ _ => rfl, by simp [lsum], Or.inr rfl⟩
theorem TurInv.next {d e : Nat → Int} {i : Nat} {m v : Int} (h : TurInv d e i m) (hd : 0 ≤ d i ∧ d i < 1073741824) (hv : v = 1073741823 - d i + m) : TurInv d (upd e i (v % 1073741824)) (i + 1) (v / 1073741824) := by
  have hm := h.m
  refine ⟨h.digs.upd (by omega), fun j hj => ?_, ?_, by omega⟩
  · rw [upd_other e _ (by omega)]; exact h.rest j (by omega)
  · show lsum (upd e i (v % 1073741824)) i + upd e i (v % 1073741824) i * 2 ^ (30 * i) + _ = _ - (lsum d i + d i * 2 ^ (30 * i))
    rw [upd_same, lsum_upd_ge e _ (Nat.le_refl i), show 30 * (i + 1) = 30 + 30 * i from by omega, Int.pow_add]
    have e30 : (2 : Int) ^ 30 = 1073741824 := rfl
    have h1 := h.eq
    obtain ⟨P, hP⟩ : ∃ P, P = (2 : Int) ^ (30 * i) := ⟨_, rfl⟩
    rw [← hP] at h1 ⊢
    rw [e30]
    have e2 : v % 1073741824 * P + v / 1073741824 * (1073741824 * P) = (1073741823 - d i + m) * P := by
      rw [← Int.mul_assoc, ← Int.add_mul]
      congr 1; omega
    have e3 : (1073741823 - d i + m) * P = 1073741823 * P - d i * P + m * P := by rw [Int.add_mul, Int.sub_mul]
    omega
/-- how many bits a number has, less 1200 -/
def SizeIs (v : Nat) (k : Int) : Prop := (v = 0 ∧ k = -1200) ∨ ∃ n : Nat, k = (n : Int) - 1200 ∧ 1 ≤ n ∧ 2 ^ (n - 1) ≤ v ∧ v < 2 ^ n
theorem SizeIs.le {v n : Nat} {k : Int} (h : SizeIs v k) (hv : v < 2 ^ n) : k ≤ (n : Int) - 1200 := by
  rcases h with ⟨_, h⟩ | ⟨m, h1, h2, h3, h4⟩
  · omega
  · have := Flt.two_lt (Nat.lt_of_le_of_lt h3 hv)
    omega
/-- zeros from the top down to i -/
theorem lsum_zeros {d : Nat → Int} {i : Nat} : ∀ n, i ≤ n → (∀ j, i ≤ j → j < n → d j = 0) → lsum d n = lsum d i
  | 0, h, _ => by have : i = 0 := by omega
                  subst this; rfl
  | n + 1, h, hz => by
    by_cases c : i = n + 1
    · subst c; rfl
    · show lsum d n + d n * _ = _
      rw [hz n (by omega) (by omega), Int.zero_mul, Int.add_zero]
      exact lsum_zeros n (by omega) fun j h1 h2 => hz j h1 (by omega)
theorem size_at {d : Nat → Int} {i j : Nat} {v : Nat} (hd : Digs d 110) (hi : i < 110) (hz : ∀ j, i + 1 ≤ j → j < 110 → d j = 0) (hv : (v : Int) = lsum d 110) (hj : 1 ≤ j) (h1 : (2 : Int) ^ (j - 1) ≤ d i) (h2 : d i < 2 ^ j) : SizeIs v (30 * (i : Int) - 1200 + (j : Int)) := by
  refine Or.inr ⟨30 * i + j, by omega, by omega, ?_⟩
  have e := lsum_zeros (d := d) (i := i + 1) 110 (by omega) hz
  obtain ⟨b1, b2⟩ := Digs.sum (d := d) (n := i) fun j hj => hd j (by omega)
  have e2 : lsum d 110 = lsum d i + d i * 2 ^ (30 * i) := e
  have hp := two_i (30 * i)
  obtain ⟨P, hP⟩ : ∃ P, P = (2 : Int) ^ (30 * i) := ⟨_, rfl⟩
  rw [← hP] at e2 b2 hp
  have k1 : (2 : Int) ^ (j - 1) * P ≤ d i * P := Int.mul_le_mul_of_nonneg_right h1 (by omega)
  have k2 : (d i + 1) * P ≤ 2 ^ j * P := Int.mul_le_mul_of_nonneg_right (by omega) (by omega)
  rw [Int.add_mul, Int.one_mul] at k2
  have p1 : ((2 ^ (30 * i + j - 1) : Nat) : Int) = 2 ^ (j - 1) * P := by
    rw [hP, ← Int.pow_add, pw, show j - 1 + 30 * i = 30 * i + j - 1 from by omega]
  have p2 : ((2 ^ (30 * i + j) : Nat) : Int) = 2 ^ j * P := by
    rw [hP, ← Int.pow_add, pw, show j + 30 * i = 30 * i + j from by omega]
  constructor
  · have : ((2 ^ (30 * i + j - 1) : Nat) : Int) ≤ (v : Int) := by rw [p1]; omega
    exact Int.ofNat_le.1 this
  · have : (v : Int) < ((2 ^ (30 * i + j) : Nat) : Int) := by rw [p2]; omega
    exact Int.ofNat_lt.1 this
/-- the sign, from the last carry -/
def bigE : Nat := 30 * 110
noncomputable def bigP : Nat := Classical.choose (⟨2 ^ bigE, rfl⟩ : ∃ v, v = 2 ^ bigE)
theorem bigP_eq : bigP = 2 ^ bigE := Classical.choose_spec (⟨2 ^ bigE, rfl⟩ : ∃ v, v = 2 ^ bigE)
theorem CarInv.done {f d : Nat → Int} {c : Int} (h : CarInv f d 110 c) (hb : (lval f).natAbs < bigP) : (c = 0 ∧ lsum d 110 = lval f) ∨ (c ≠ 0 ∧ lsum d 110 = lval f + (bigP : Int) ∧ lval f < 0) := by
  rw [bigP_eq] at hb ⊢
  have h1 := h.eq
  rw [pw bigE]
  rw [← lval_eq] at h1
  obtain ⟨b1, b2⟩ := h.digs.sum
  have e : (2 : Int) ^ (30 * 110) = 2 ^ bigE := rfl
  rw [e] at h1 b2
  have hp := two_i bigE
  have hpn : ((2 ^ bigE : Nat) : Int) = 2 ^ bigE := pw bigE
  obtain ⟨P, hP⟩ : ∃ P, P = (2 : Int) ^ bigE := ⟨_, rfl⟩
  have hb' : ((lval f).natAbs : Int) < P := by rw [hP, ← hpn]; exact Int.ofNat_lt.2 hb
  rw [← hP] at h1 b2 hp ⊢
  by_cases c0 : c = 0
  · left
    refine ⟨c0, ?_⟩
    rw [c0, Int.zero_mul] at h1; omega
  · right
    have c1 : c = -1 := by
      rcases Int.lt_trichotomy c (-1) with k | k | k
      · have : c * P ≤ (-2) * P := Int.mul_le_mul_of_nonneg_right (by omega) (by omega)
        omega
      · exact k
      · have : 1 * P ≤ c * P := Int.mul_le_mul_of_nonneg_right (by omega) (by omega)
        omega
    rw [c1] at h1
    exact ⟨c0, by omega, by omega⟩
theorem TurInv.done {f d e : Nat → Int} {m : Int} (h : TurInv d e 110 m) (hd : lsum d 110 = lval f + (bigP : Int)) (hneg : lval f < 0) (hb : (lval f).natAbs < bigP) : lsum e 110 = ((lval f).natAbs : Nat) := by
  rw [bigP_eq] at hb hd
  rw [pw bigE] at hd
  have h1 := h.eq
  have e' : (2 : Int) ^ (30 * 110) = 2 ^ bigE := rfl
  rw [e', hd] at h1
  obtain ⟨b1, b2⟩ := h.digs.sum
  have hp := two_i bigE
  have hpn : ((2 ^ bigE : Nat) : Int) = 2 ^ bigE := pw bigE
  obtain ⟨P, hP⟩ : ∃ P, P = (2 : Int) ^ bigE := ⟨_, rfl⟩
  have hb' : ((lval f).natAbs : Int) < P := by rw [hP, ← hpn]; exact Int.ofNat_lt.2 hb
  rw [← hP] at h1 hp
  rcases h.m with k | k
  · rw [k, Int.zero_mul] at h1; omega
  · rw [k, Int.one_mul] at h1; omega
end Go.Proofs.Ytpifkjmdcbieoaa

/- Numbers of five limbs of 30 bits by value, as the reference of layer 5 has them. -/
namespace Go.Proofs.Ytpifkjmdcbieoaa
open Go.RowKit

/-- n integers in a block -/
def CellsAt (n : Nat) (w : World) (g : Nat) (f : Nat → Int) : Prop := ∀ i, i < n → w.cell? ⟨g, i, none⟩ = some (.int .i64 (f i)) ∧ w.frozen? ⟨g, i, none⟩ = false
section
variable {n : Nat} {w w' : World} {g : Nat} {f : Nat → Int}
theorem CellsAt.lt (h : CellsAt n w g f) (hn : 0 < n) : g < w.heap.size := World.block_lt_of_cell? w _ (h 0 hn).1
theorem CellsAt.bel (h : CellsAt n w g f) (hB : Bel w w') (hg : g < w.heap.size) : CellsAt n w' g f := fun i hi => ⟨(hB.cell (p := ⟨g, i, none⟩) hg).trans (h i hi).1, (hB.frozen (p := ⟨g, i, none⟩) hg).trans (h i hi).2⟩
theorem CellsAt.dr (h : CellsAt n w g f) : CellsAt n w.drew g f := h
theorem CellsAt.put (h : CellsAt n w g f) {k : Nat} (hk : k < n) (v : Int) : CellsAt n (w.setCell ⟨g, k, none⟩ (.int .i64 v)) g (upd f k v) := by
  intro i hi
  refine ⟨?_, by rw [World.frozen?_setCell]; exact (h i hi).2⟩
  by_cases c : i = k
  · subst c
    rw [upd_same]
    exact World.cell?_setCell_same' w _ _ (by rw [(h i hi).1]; rfl)
  · rw [upd_other f v c, World.cell?_setCell_other]
    · exact (h i hi).1
    · intro e
      cases e
      exact c rfl
theorem CellsAt.so (h : CellsAt n w g f) {X k : Nat} (hX : g ≠ X) (v : Value) : CellsAt n (w.setCell ⟨X, k, none⟩ v) g f := by
  intro i hi
  refine ⟨?_, by rw [World.frozen?_setCell]; exact (h i hi).2⟩
  rw [World.cell?_setCell_other]
  · exact (h i hi).1
  · intro e
    cases e
    exact hX rfl
theorem CellsAt.congr {f' : Nat → Int} (h : CellsAt n w g f) (e : ∀ i, i < n → f i = f' i) : CellsAt n w g f' := fun i hi => by rw [← e i hi]; exact h i hi
end
/-- five limbs as a value -/
def V5 (f : Nat → Int) : Value := .agg #[.int .i64 (f 0), .int .i64 (f 1), .int .i64 (f 2), .int .i64 (f 3), .int .i64 (f 4)]
theorem five_new (w : World) (f : Nat → Int) (t : TypeId) (N : Nat) (h : N = w.heap.size) : CellsAt 5 (w.alloc (.cells #[.int .i64 (f 0), .int .i64 (f 1), .int .i64 (f 2), .int .i64 (f 3), .int .i64 (f 4)] t)) N f := by
  subst h
  intro i hi
  refine ⟨?_, frozen_of_row _ _ i _ t (heap_alloc_new w _)⟩
  rw [World.cell?_alloc_new]
  match i, hi with
  | 0, _ => rfl
  | 1, _ => rfl
  | 2, _ => rfl
  | 3, _ => rfl
  | 4, _ => rfl
theorem five_zero (w : World) (t : TypeId) (N : Nat) (h : N = w.heap.size) : CellsAt 5 (w.alloc (.cells #[.int .i64 0, .int .i64 0, .int .i64 0, .int .i64 0, .int .i64 0] t)) N (fun _ => 0) := five_new w (fun _ => 0) t N h
theorem V5_congr {f g : Nat → Int} (h : ∀ i, i < 5 → f i = g i) : V5 f = V5 g := by
  unfold V5
  rw [h 0 (by decide), h 1 (by decide), h 2 (by decide), h 3 (by decide), h 4 (by decide)]
/-- the worlds between the five stores -/
structure Mid5 (w : World) (R : Nat) (v : Nat → Int) : Prop where
  c0 : ∃ x, w.cell? ⟨R, 0, none⟩ = some (.int .i64 x)
  z0 : w.frozen? ⟨R, 0, none⟩ = false
  c1 : ∃ x, (w.setCell ⟨R, 0, none⟩ (.int .i64 (v 0))).cell? ⟨R, 1, none⟩ = some (.int .i64 x)
  z1 : (w.setCell ⟨R, 0, none⟩ (.int .i64 (v 0))).frozen? ⟨R, 1, none⟩ = false
  c2 : ∃ x, ((w.setCell ⟨R, 0, none⟩ (.int .i64 (v 0))).setCell ⟨R, 1, none⟩ (.int .i64 (v 1))).cell? ⟨R, 2, none⟩ = some (.int .i64 x)
  z2 : ((w.setCell ⟨R, 0, none⟩ (.int .i64 (v 0))).setCell ⟨R, 1, none⟩ (.int .i64 (v 1))).frozen? ⟨R, 2, none⟩ = false
  c3 : ∃ x, (((w.setCell ⟨R, 0, none⟩ (.int .i64 (v 0))).setCell ⟨R, 1, none⟩ (.int .i64 (v 1))).setCell ⟨R, 2, none⟩ (.int .i64 (v 2))).cell? ⟨R, 3, none⟩ = some (.int .i64 x)
  z3 : (((w.setCell ⟨R, 0, none⟩ (.int .i64 (v 0))).setCell ⟨R, 1, none⟩ (.int .i64 (v 1))).setCell ⟨R, 2, none⟩ (.int .i64 (v 2))).frozen? ⟨R, 3, none⟩ = false
  c4 : ∃ x, ((((w.setCell ⟨R, 0, none⟩ (.int .i64 (v 0))).setCell ⟨R, 1, none⟩ (.int .i64 (v 1))).setCell ⟨R, 2, none⟩ (.int .i64 (v 2))).setCell ⟨R, 3, none⟩ (.int .i64 (v 3))).cell? ⟨R, 4, none⟩ = some (.int .i64 x)
  z4 : ((((w.setCell ⟨R, 0, none⟩ (.int .i64 (v 0))).setCell ⟨R, 1, none⟩ (.int .i64 (v 1))).setCell ⟨R, 2, none⟩ (.int .i64 (v 2))).setCell ⟨R, 3, none⟩ (.int .i64 (v 3))).frozen? ⟨R, 4, none⟩ = false
def set5 (w : World) (R : Nat) (v : Nat → Int) : World := ((((w.setCell ⟨R, 0, none⟩ (.int .i64 (v 0))).setCell ⟨R, 1, none⟩ (.int .i64 (v 1))).setCell ⟨R, 2, none⟩ (.int .i64 (v 2))).setCell ⟨R, 3, none⟩ (.int .i64 (v 3))).setCell ⟨R, 4, none⟩ (.int .i64 (v 4))
theorem CellsAt.mid {w : World} {R : Nat} {f : Nat → Int} (h : CellsAt 5 w R f) (v : Nat → Int) : Mid5 w R v := by
  have h0 := h.put (k := 0) (by decide) (v 0)
  have h1 := h0.put (k := 1) (by decide) (v 1)
  have h2 := h1.put (k := 2) (by decide) (v 2)
  have h3 := h2.put (k := 3) (by decide) (v 3)
  exact ⟨⟨_, (h 0 (by decide)).1⟩, (h 0 (by decide)).2, ⟨_, (h0 1 (by decide)).1⟩, (h0 1 (by decide)).2, ⟨_, (h1 2 (by decide)).1⟩, (h1 2 (by decide)).2, ⟨_, (h2 3 (by decide)).1⟩, (h2 3 (by decide)).2, ⟨_, (h3 4 (by decide)).1⟩, (h3 4 (by decide)).2⟩
theorem CellsAt.set {w : World} {R : Nat} {f : Nat → Int} (h : CellsAt 5 w R f) (v : Nat → Int) : CellsAt 5 (set5 w R v) R v := by
  have h0 := h.put (k := 0) (by decide) (v 0)
  have h1 := h0.put (k := 1) (by decide) (v 1)
  have h2 := h1.put (k := 2) (by decide) (v 2)
  have h3 := h2.put (k := 3) (by decide) (v 3)
  have h4 := h3.put (k := 4) (by decide) (v 4)
  refine h4.congr fun i hi => ?_
  match i, hi with
  | 0, _ => rfl
  | 1, _ => rfl
  | 2, _ => rfl
  | 3, _ => rfl
  | 4, _ => rfl
theorem Bel.set5 {a w : World} {R : Nat} (h : Bel a w) (hR : a.heap.size ≤ R) (v : Nat → Int) : Bel a (set5 w R v) :=
  ((((h.setCell (p := ⟨R, 0, none⟩) hR _).setCell (p := ⟨R, 1, none⟩) hR _).setCell (p := ⟨R, 2, none⟩) hR _).setCell (p := ⟨R, 3, none⟩) hR _).setCell (p := ⟨R, 4, none⟩) hR _
theorem CellsAt.so5 {n : Nat} {w : World} {g : Nat} {f : Nat → Int} (h : CellsAt n w g f) {X : Nat} (hX : g ≠ X) (v : Nat → Int) : CellsAt n (set5 w X v) g f := ((((h.so hX _).so hX _).so hX _).so hX _).so hX _
/-- the five stores at once -/
theorem run_store5 (P : Program) {t : TypeId} {w : World} {R : Nat} {f : Nat → Int} (h : CellsAt 5 w R f) (v : Nat → Int) (hrun : ∀ w, Mid5 w R v → (Instr.storeAt t (.pointer (some ⟨R, 0, none⟩)) (V5 v)).run P w = .ok () (set5 w R v)) : (Instr.storeAt t (.pointer (some ⟨R, 0, none⟩)) (V5 v)).run P w = .ok () (set5 w R v) := hrun w (h.mid v)
theorem store_fixed {w : World} {R : Nat} {v : Nat → Int} (h : Mid5 w R v) : (Instr.storeAt 37 (.pointer (some ⟨R, 0, none⟩)) (V5 v)).run Try.prog w = .ok () (set5 w R v) := by
  obtain ⟨⟨x0, c0⟩, z0, ⟨x1, c1⟩, z1, ⟨x2, c2⟩, z2, ⟨x3, c3⟩, z3, ⟨x4, c4⟩, z4⟩ := h
  unfold V5 set5
  simp [go_sem, c0, z0, c1, z1, c2, z2, c3, z3, c4, z4]
theorem load_fixed {w : World} {R : Nat} {v : Nat → Int} (h : CellsAt 5 w R v) : (Instr.loadAt 37 (.pointer (some ⟨R, 0, none⟩))).run Try.prog w = .ok (V5 v) w := by
  have c0 := (h 0 (by decide)).1
  have c1 := (h 1 (by decide)).1
  have c2 := (h 2 (by decide)).1
  have c3 := (h 3 (by decide)).1
  have c4 := (h 4 (by decide)).1
  unfold V5
  simp [go_sem, c0, c1, c2, c3, c4]
end Go.Proofs.Ytpifkjmdcbieoaa

/- Numbers of five limbs by what they are worth. No program is named here. -/
namespace Go.Proofs.Ytpifkjmdcbieoaa
open Go.RowKit

/-- digits of 30 bits, the last one any -/
def fixD (v : Nat) (j : Nat) : Int := match j with
  | 0 => ((v % 1073741824 : Nat) : Int)
  | 1 => ((v / 1073741824 % 1073741824 : Nat) : Int)
  | 2 => ((v / 1073741824 / 1073741824 % 1073741824 : Nat) : Int)
  | 3 => ((v / 1073741824 / 1073741824 / 1073741824 % 1073741824 : Nat) : Int)
  | _ => ((v / 1073741824 / 1073741824 / 1073741824 / 1073741824 : Nat) : Int)
/-- a number as a value -/
def FV (v : Nat) : Value := V5 (fixD v)
theorem lsum5 (d : Nat → Int) : lsum d 5 = d 0 + 1073741824 * (d 1 + 1073741824 * (d 2 + 1073741824 * (d 3 + 1073741824 * d 4))) := by
  have e1 : (2 : Int) ^ (30 * 1) = 1073741824 := by decide
  have e2 : (2 : Int) ^ (30 * 2) = 1073741824 * 1073741824 := by decide
  have e3 : (2 : Int) ^ (30 * 3) = 1073741824 * 1073741824 * 1073741824 := by decide
  have e4 : (2 : Int) ^ (30 * 4) = 1073741824 * 1073741824 * 1073741824 * 1073741824 := by decide
  show 0 + d 0 * 2 ^ (30 * 0) + d 1 * 2 ^ (30 * 1) + d 2 * 2 ^ (30 * 2) + d 3 * 2 ^ (30 * 3) + d 4 * 2 ^ (30 * 4) = _
  rw [e1, e2, e3, e4, Nat.mul_zero, Int.pow_zero]
  omega
theorem fix_of {d : Nat → Int} {v : Nat} (hd : Digs d 4) (h : lsum d 5 = (v : Int)) : V5 d = FV v := by
  rw [lsum5] at h
  obtain ⟨a0, a1⟩ := hd 0 (by decide)
  obtain ⟨b0, b1⟩ := hd 1 (by decide)
  obtain ⟨c0, c1⟩ := hd 2 (by decide)
  obtain ⟨e0, e1⟩ := hd 3 (by decide)
  have k1 : ((v / 1073741824 : Nat) : Int) = d 1 + 1073741824 * (d 2 + 1073741824 * (d 3 + 1073741824 * d 4)) := by omega
  have k2 : ((v / 1073741824 / 1073741824 : Nat) : Int) = d 2 + 1073741824 * (d 3 + 1073741824 * d 4) := by omega
  have k3 : ((v / 1073741824 / 1073741824 / 1073741824 : Nat) : Int) = d 3 + 1073741824 * d 4 := by omega
  have k4 : ((v / 1073741824 / 1073741824 / 1073741824 / 1073741824 : Nat) : Int) = d 4 := by omega
  refine V5_congr fun i hi => ?_
  match i, hi with
  | 0, _ => show d 0 = ((v % 1073741824 : Nat) : Int); omega
  | 1, _ => show d 1 = ((v / 1073741824 % 1073741824 : Nat) : Int); omega
  | 2, _ => show d 2 = ((v / 1073741824 / 1073741824 % 1073741824 : Nat) : Int); omega
  | 3, _ => show d 3 = ((v / 1073741824 / 1073741824 / 1073741824 % 1073741824 : Nat) : Int); omega
  | 4, _ => show d 4 = ((v / 1073741824 / 1073741824 / 1073741824 / 1073741824 : Nat) : Int); omega
theorem fixD_sum (v : Nat) : lsum (fixD v) 5 = (v : Int) := by
  rw [lsum5]
  show ((v % 1073741824 : Nat) : Int) + 1073741824 * (((v / 1073741824 % 1073741824 : Nat) : Int) + 1073741824 * (((v / 1073741824 / 1073741824 % 1073741824 : Nat) : Int) + 1073741824 * (((v / 1073741824 / 1073741824 / 1073741824 % 1073741824 : Nat) : Int) + 1073741824 * ((v / 1073741824 / 1073741824 / 1073741824 / 1073741824 : Nat) : Int)))) = _
  omega
theorem fixD_digs (v : Nat) : Digs (fixD v) 4 := by
  intro j hj
  match j, hj with
  | 0, _ => show 0 ≤ ((v % 1073741824 : Nat) : Int) ∧ ((v % 1073741824 : Nat) : Int) < 1073741824; omega
  | 1, _ => show 0 ≤ ((v / 1073741824 % 1073741824 : Nat) : Int) ∧ ((v / 1073741824 % 1073741824 : Nat) : Int) < 1073741824; omega
  | 2, _ => show 0 ≤ ((v / 1073741824 / 1073741824 % 1073741824 : Nat) : Int) ∧ ((v / 1073741824 / 1073741824 % 1073741824 : Nat) : Int) < 1073741824; omega
  | 3, _ => show 0 ≤ ((v / 1073741824 / 1073741824 / 1073741824 % 1073741824 : Nat) : Int) ∧ ((v / 1073741824 / 1073741824 / 1073741824 % 1073741824 : Nat) : Int) < 1073741824; omega
/-- what a number below 2^150 has in its last limb -/
theorem fixD_le {v : Nat} (h : v < 1427247692705959881058285969449495136382746624) (j : Nat) : 0 ≤ fixD v j ∧ fixD v j < 1073741824 := by
  match j with
  | 0 => show 0 ≤ ((v % 1073741824 : Nat) : Int) ∧ ((v % 1073741824 : Nat) : Int) < 1073741824; omega
  | 1 => show 0 ≤ ((v / 1073741824 % 1073741824 : Nat) : Int) ∧ ((v / 1073741824 % 1073741824 : Nat) : Int) < 1073741824; omega
  | 2 => show 0 ≤ ((v / 1073741824 / 1073741824 % 1073741824 : Nat) : Int) ∧ ((v / 1073741824 / 1073741824 % 1073741824 : Nat) : Int) < 1073741824; omega
  | 3 => show 0 ≤ ((v / 1073741824 / 1073741824 / 1073741824 % 1073741824 : Nat) : Int) ∧ ((v / 1073741824 / 1073741824 / 1073741824 % 1073741824 : Nat) : Int) < 1073741824; omega
  | (_ + 4) => show 0 ≤ ((v / 1073741824 / 1073741824 / 1073741824 / 1073741824 : Nat) : Int) ∧ ((v / 1073741824 / 1073741824 / 1073741824 / 1073741824 : Nat) : Int) < 1073741824; omega
end Go.Proofs.Ytpifkjmdcbieoaa

/- The reference's series (layer 5) in whole numbers. No program is named here. -/
namespace Go.Proofs.Ytpifkjmdcbieoaa
open Go.RowKit

/-- 1, in units of 2^-120 -/
def one120 : Nat := 1329227995784915872903807060280344576
def eighthN : Nat := 192994332 + 1073741824 * (320018826 + 1073741824 * (571903011 + 1073741824 * 843314856))
def termN (X : Nat) : Nat → Nat
  | 0 => one120
  | i + 1 => termN X i * X / 2 ^ 120 / (i + 1)
def sumN (X r : Nat) : Nat → Nat
  | 0 => 0
  | i + 1 => sumN X r i + (if i % 4 = r then termN X i else 0)
def cosN (X : Nat) : Nat := sumN X 0 32 - sumN X 2 32
def sinN (X : Nat) : Nat := sumN X 1 32 - sumN X 3 32
theorem one120_eq : one120 = 2 ^ 120 := by decide
theorem termN_next {X : Nat} (hX : X ≤ one120) (i : Nat) : termN X (i + 1) ≤ termN X i := by
  show termN X i * X / 2 ^ 120 / (i + 1) ≤ termN X i
  refine Nat.le_trans (Nat.div_le_self _ _) ?_
  rw [one120_eq] at hX
  refine Nat.div_le_of_le_mul ?_
  rw [Nat.mul_comm]
  exact Nat.mul_le_mul_right _ hX
theorem termN_le {X : Nat} (hX : X ≤ one120) : ∀ i, termN X i ≤ one120
  | 0 => Nat.le_refl _
  | i + 1 => Nat.le_trans (termN_next hX i) (termN_le hX i)
theorem sumN_le {X : Nat} (hX : X ≤ one120) (r : Nat) : ∀ i, sumN X r i ≤ i * one120
  | 0 => by simp [sumN]
  | i + 1 => by
    show sumN X r i + (if i % 4 = r then termN X i else 0) ≤ (i + 1) * one120
    have h1 := sumN_le hX r i
    have h2 := termN_le hX i
    rw [Nat.add_mul, Nat.one_mul]
    by_cases c : i % 4 = r
    · rw [if_pos c]; omega
    · rw [if_neg c]; omega
theorem sumN_at (X i : Nat) : sumN X (i % 4) (i + 1) = sumN X (i % 4) i + termN X i := by
  show _ + (if i % 4 = i % 4 then termN X i else 0) = _
  rw [if_pos rfl]
theorem sumN_other (X : Nat) {i r : Nat} (h : r ≠ i % 4) : sumN X r (i + 1) = sumN X r i := by
  show _ + (if i % 4 = r then termN X i else 0) = _
  rw [if_neg (fun e => h e.symm), Nat.add_zero]
theorem sumN_pair {X : Nat} (hX : X ≤ one120) (r : Nat) (hr : r < 2) : ∀ k, sumN X (r + 2) (4 * k) ≤ sumN X r (4 * k)
  | 0 => Nat.le_refl _
  | k + 1 => by
    have ih := sumN_pair hX r hr k
    have t0 := termN_next hX (4 * k)
    have t1 : termN X (4 * k + 2) ≤ termN X (4 * k + 1) := termN_next hX (4 * k + 1)
    have t2 : termN X (4 * k + 3) ≤ termN X (4 * k + 2) := termN_next hX (4 * k + 2)
    have e : ∀ s, sumN X s (4 * (k + 1)) = sumN X s (4 * k) + (if 4 * k % 4 = s then termN X (4 * k) else 0) + (if (4 * k + 1) % 4 = s then termN X (4 * k + 1) else 0) + (if (4 * k + 2) % 4 = s then termN X (4 * k + 2) else 0) + (if (4 * k + 3) % 4 = s then termN X (4 * k + 3) else 0) := fun s => rfl
    rw [e, e, show 4 * k % 4 = 0 from by omega, show (4 * k + 1) % 4 = 1 from by omega, show (4 * k + 2) % 4 = 2 from by omega, show (4 * k + 3) % 4 = 3 from by omega]
    have : r = 0 ∨ r = 1 := by omega
    rcases this with rfl | rfl
    · have ih : sumN X 2 (4 * k) ≤ sumN X 0 (4 * k) := ih
      simp
      omega
    · have ih : sumN X 3 (4 * k) ≤ sumN X 1 (4 * k) := ih
      simp
      omega
end Go.Proofs.Ytpifkjmdcbieoaa

/- The reference's whole numbers beside the series over the rationals (layer 5). No program is named here. -/
namespace Go.Proofs.Ytpifkjmdcbieoaa

/-- a whole number of units of 2^-120 -/
def xR (X : Nat) : Rat := (X : Rat) / (one120 : Rat)
theorem oneR_pos : (0 : Rat) < (one120 : Rat) := by exact_mod_cast (show 0 < one120 by decide)
theorem xR_mul (X : Nat) : xR X * (one120 : Rat) = (X : Rat) := by
  have := oneR_pos
  unfold xR; grind
theorem term_step {X T T' c : Nat} (hc : 0 < c) (h : T' = T * X / 2 ^ 120 / c) : (T' : Rat) * ((one120 : Rat) * (c : Rat)) ≤ (T : Rat) * (X : Rat) ∧ (T : Rat) * (X : Rat) ≤ ((T' : Rat) + 1) * ((one120 : Rat) * (c : Rat)) := by
  have hp : 0 < one120 * c := Nat.mul_pos (by decide) hc
  rw [Nat.div_div_eq_div_mul, ← one120_eq] at h
  have h1 : T' * (one120 * c) ≤ T * X := by rw [h]; exact Nat.div_mul_le_self _ _
  have h2 : T * X ≤ (T' + 1) * (one120 * c) := by rw [h]; exact Nat.le_of_lt (Nat.lt_of_lt_of_eq (Nat.lt_mul_div_succ _ hp) (Nat.mul_comm _ _))
  constructor
  · exact_mod_cast h1
  · exact_mod_cast h2
theorem term_near {X : Nat} (hX : X ≤ one120) : ∀ i, 0 ≤ tR (xR X) i * (one120 : Rat) - (termN X i : Rat) ∧ tR (xR X) i * (one120 : Rat) - (termN X i : Rat) ≤ 2
  | 0 => by
    show 0 ≤ 1 * (one120 : Rat) - (one120 : Rat) ∧ 1 * (one120 : Rat) - (one120 : Rat) ≤ 2
    constructor <;> grind
  | i + 1 => by
    obtain ⟨a, b⟩ := term_near hX i
    have b0 : i = 0 → tR (xR X) i * (one120 : Rat) - (termN X i : Rat) = 0 := by
      rintro rfl
      show 1 * (one120 : Rat) - (one120 : Rat) = 0
      grind
    obtain ⟨s1, s2⟩ := term_step (X := X) (T := termN X i) (T' := termN X (i + 1)) (c := i + 1) (Nat.succ_pos i) rfl
    have hx := xR_mul X
    have hu := oneR_pos
    have hr := tR_succ (xR X) i
    have cc : ((i + 1 : Nat) : Rat) = (i : Rat) + 1 := by exact_mod_cast rfl
    rw [cc] at s1 s2
    have hi := natR i
    have hX' : (X : Rat) ≤ (one120 : Rat) := by exact_mod_cast hX
    have hX0 := natR X
    have hi1 : i = 0 ∨ (1 : Rat) ≤ (i : Rat) := by
      rcases Nat.eq_zero_or_pos i with h | h
      · exact Or.inl h
      · exact Or.inr (by exact_mod_cast h)
    generalize (one120 : Rat) = u at *
    generalize (termN X i : Rat) = T at *
    generalize (termN X (i + 1) : Rat) = T' at *
    generalize tR (xR X) i = p at *
    generalize tR (xR X) (i + 1) = p' at *
    generalize xR X = x at *
    generalize (X : Rat) = Y at *
    have hcu : 0 < ((i : Rat) + 1) * u := Rat.mul_pos (by grind) hu
    have key : (((i : Rat) + 1) * u) * (p' * u - T') = (p * u - T) * Y + (T * Y - T' * (u * ((i : Rat) + 1))) := by grind
    have k1 := Rat.mul_nonneg (a := p * u - T) (b := Y) a hX0
    constructor
    · exact nonneg_of hcu (by grind)
    · have k2 : (p * u - T) * Y ≤ u * ((i : Rat) + 1) := by
        rcases hi1 with h | h
        · rw [b0 h]
          have := Rat.mul_nonneg (a := u) (b := (i : Rat) + 1) (by grind) (by grind)
          grind
        · have m1 := Rat.mul_nonneg (a := 2 - (p * u - T)) (b := Y) (by grind) hX0
          have m2 := Rat.mul_nonneg (a := u) (b := (i : Rat) - 1) (by grind) (by grind)
          grind
      have := nonneg_of hcu (d := 2 - (p' * u - T')) (by grind)
      grind
def ifR (p : Prop) [Decidable p] : Rat := if p then 1 else 0
theorem eR_ifs : ∀ k, eR false k = ifR (k % 4 = 0) - ifR (k % 4 = 2) ∧ eR true k = ifR (k % 4 = 1) - ifR (k % 4 = 3)
  | 0 => by simp only [eR, ifR]; constructor <;> grind
  | k + 1 => by
    obtain ⟨h1, h2⟩ := eR_ifs k
    simp only [eR]
    rw [h1, h2]
    have : k % 4 = 0 ∨ k % 4 = 1 ∨ k % 4 = 2 ∨ k % 4 = 3 := by omega
    rcases this with h | h | h | h
    · have h' : (k + 1) % 4 = 1 := by omega
      simp only [ifR, h, h']; constructor <;> grind
    · have h' : (k + 1) % 4 = 2 := by omega
      simp only [ifR, h, h']; constructor <;> grind
    · have h' : (k + 1) % 4 = 3 := by omega
      simp only [ifR, h, h']; constructor <;> grind
    · have h' : (k + 1) % 4 = 0 := by omega
      simp only [ifR, h, h']; constructor <;> grind
theorem sumN_ifs (X r : Nat) : ∀ n, (sumN X r n : Rat) = sumR (fun k => ifR (k % 4 = r) * (termN X k : Rat)) n
  | 0 => by show ((0 : Nat) : Rat) = 0; exact_mod_cast rfl
  | n + 1 => by
    have e : ((sumN X r (n + 1) : Nat) : Rat) = (sumN X r n : Rat) + (if n % 4 = r then (termN X n : Rat) else 0) := by
      show ((sumN X r n + (if n % 4 = r then termN X n else 0) : Nat) : Rat) = _
      split
      · exact_mod_cast rfl
      · exact_mod_cast rfl
    rw [e, sumN_ifs X r n]
    show _ = sumR _ n + _
    unfold ifR
    split <;> grind
theorem sumN_two (X r s n : Nat) : (sumN X r n : Rat) - (sumN X s n : Rat) = sumR (fun k => (ifR (k % 4 = r) - ifR (k % 4 = s)) * (termN X k : Rat)) n := by
  rw [sumN_ifs, sumN_ifs, ← sumR_sub]
  exact sumR_congr _ fun i _ => by grind
theorem cosN_eq {X : Nat} (hX : X ≤ one120) : (cosN X : Rat) = sumR (fun k => eR false k * (termN X k : Rat)) 32 := by
  have h : sumN X 2 32 ≤ sumN X 0 32 := sumN_pair hX 0 (by decide) 8
  have e : (cosN X : Rat) = (sumN X 0 32 : Rat) - (sumN X 2 32 : Rat) := by
    have : cosN X + sumN X 2 32 = sumN X 0 32 := Nat.sub_add_cancel h
    have q : (cosN X : Rat) + (sumN X 2 32 : Rat) = (sumN X 0 32 : Rat) := by exact_mod_cast this
    grind
  rw [e, sumN_two]
  exact sumR_congr _ fun i _ => by rw [(eR_ifs i).1]
theorem sinN_eq {X : Nat} (hX : X ≤ one120) : (sinN X : Rat) = sumR (fun k => eR true k * (termN X k : Rat)) 32 := by
  have h : sumN X 3 32 ≤ sumN X 1 32 := sumN_pair hX 1 (by decide) 8
  have e : (sinN X : Rat) = (sumN X 1 32 : Rat) - (sumN X 3 32 : Rat) := by
    have : sinN X + sumN X 3 32 = sumN X 1 32 := Nat.sub_add_cancel h
    have q : (sinN X : Rat) + (sumN X 3 32 : Rat) = (sumN X 1 32 : Rat) := by exact_mod_cast this
    grind
  rw [e, sumN_two]
  exact sumR_congr _ fun i _ => by rw [(eR_ifs i).2]
theorem sumR_const (a : Rat) : ∀ n, sumR (fun _ => a) n = (n : Rat) * a
  | 0 => by show (0 : Rat) = ((0 : Nat) : Rat) * a; have : ((0 : Nat) : Rat) = 0 := by exact_mod_cast rfl
            rw [this]; grind
  | n + 1 => by
    show sumR _ n + a = _
    have : ((n + 1 : Nat) : Rat) = (n : Rat) + 1 := by exact_mod_cast rfl
    rw [sumR_const a n, this]; grind
/-- 32 terms, and those in whole numbers -/
theorem series_near {X : Nat} (hX : X ≤ one120) (b : Bool) : -64 ≤ sumR (fun k => eR b k * tR (xR X) k) 32 * (one120 : Rat) - sumR (fun k => eR b k * (termN X k : Rat)) 32 ∧ sumR (fun k => eR b k * tR (xR X) k) 32 * (one120 : Rat) - sumR (fun k => eR b k * (termN X k : Rat)) 32 ≤ 64 := by
  have e : sumR (fun k => eR b k * tR (xR X) k) 32 * (one120 : Rat) = sumR (fun k => (one120 : Rat) * (eR b k * tR (xR X) k)) 32 := by rw [sumR_mul]; grind
  rw [e, ← sumR_sub]
  have := sumR_within (f := fun k => (one120 : Rat) * (eR b k * tR (xR X) k) - eR b k * (termN X k : Rat)) (g := fun _ => 2) 32 (fun i _ => by
    obtain ⟨a1, a2⟩ := term_near hX i
    obtain ⟨b1, b2⟩ := eR_one b i
    have := within_mul b1 b2 (a := eR b i) (b := tR (xR X) i * (one120 : Rat) - (termN X i : Rat)) (B := 2) (by grind) a2
    constructor <;> grind)
  rw [sumR_const] at this
  have z : ((32 : Nat) : Rat) = 32 := by exact_mod_cast rfl
  rw [z] at this
  constructor <;> grind
/-- the terms from the 32nd on -/
theorem tail32 {x : Rat} (h1 : -1 ≤ x) (h2 : x ≤ 1) (b : Bool) : -16 ≤ (sumR (fun k => eR b k * tR x k) 100 - sumR (fun k => eR b k * tR x k) 32) * (one120 : Rat) ∧ (sumR (fun k => eR b k * tR x k) 100 - sumR (fun k => eR b k * tR x k) 32) * (one120 : Rat) ≤ 16 := by
  have row := tail_row (f := fun k => eR b k * tR x k) (g := tR ((1 : Nat) : Rat)) (fun i => by
    have z : ((1 : Nat) : Rat) = 1 := by exact_mod_cast rfl
    obtain ⟨a1, a2⟩ := tR_within (X := ((1 : Nat) : Rat)) (x := x) (by rw [z]; exact h1) (by rw [z]; exact h2) i
    obtain ⟨b1, b2⟩ := eR_one b i
    have := within_mul b1 b2 a1 a2
    grind) 32 68
  have q1 := hN_eq 1 99
  have q2 := hN_eq 1 31
  have f1 : (0 : Rat) < (facN 99 : Rat) := by exact_mod_cast facN_pos 99
  have f2 : (0 : Rat) < (facN 31 : Rat) := by exact_mod_cast facN_pos 31
  have hb : (one120 * (hN 1 99 * facN 31)).ble (one120 * (hN 1 31 * facN 99) + 16 * (facN 99 * facN 31)) = true := by decide +kernel
  have hb := Nat.le_of_ble_eq_true hb
  have hq : (one120 : Rat) * ((hN 1 99 : Rat) * (facN 31 : Rat)) ≤ (one120 : Rat) * ((hN 1 31 : Rat) * (facN 99 : Rat)) + 16 * ((facN 99 : Rat) * (facN 31 : Rat)) := by exact_mod_cast hb
  rw [← q1, ← q2] at hq
  have hu := oneR_pos
  have row : -(sumR (tR ((1 : Nat) : Rat)) (99 + 1) - sumR (tR ((1 : Nat) : Rat)) (31 + 1)) ≤ sumR (fun k => eR b k * tR x k) 100 - sumR (fun k => eR b k * tR x k) 32 ∧ sumR (fun k => eR b k * tR x k) 100 - sumR (fun k => eR b k * tR x k) 32 ≤ sumR (tR ((1 : Nat) : Rat)) (99 + 1) - sumR (tR ((1 : Nat) : Rat)) (31 + 1) := row
  generalize sumR (tR ((1 : Nat) : Rat)) (99 + 1) = A at *
  generalize sumR (tR ((1 : Nat) : Rat)) (31 + 1) = B at *
  generalize sumR (fun k => eR b k * tR x k) 100 - sumR (fun k => eR b k * tR x k) 32 = D at *
  generalize (one120 : Rat) = u at *
  generalize (facN 99 : Rat) = f at *
  generalize (facN 31 : Rat) = g at *
  have hfg := Rat.mul_pos f1 f2
  have k := nonneg_of hfg (d := 16 - u * (A - B)) (by grind)
  have r1 := Rat.mul_nonneg (a := (A - B) - D) (b := u) (by grind) (by grind)
  have r2 := Rat.mul_nonneg (a := (A - B) + D) (b := u) (by grind) (by grind)
  constructor <;> grind
theorem xR_le {X : Nat} (hX : X ≤ one120) : xR X ≤ 1 ∧ 0 ≤ xR X := by
  have h := xR_mul X
  have hu := oneR_pos
  have h1 : (X : Rat) ≤ (one120 : Rat) := by exact_mod_cast hX
  have h0 := natR X
  constructor
  · have := nonneg_of hu (d := 1 - xR X) (by grind)
    grind
  · exact nonneg_of hu (by grind)
/-- the reference's cosine, in units of 2^-120, is within 80 of the series -/
theorem cosN_near {X : Nat} (hX : X ≤ one120) : -80 ≤ cR 100 (xR X) * (one120 : Rat) - (cosN X : Rat) ∧ cR 100 (xR X) * (one120 : Rat) - (cosN X : Rat) ≤ 80 := by
  obtain ⟨a, b⟩ := series_near hX false
  obtain ⟨x1, x0⟩ := xR_le hX
  obtain ⟨c, d⟩ := tail32 (x := xR X) (by grind) x1 false
  rw [cosN_eq hX]
  unfold cR
  constructor <;> grind
theorem sinN_near {X : Nat} (hX : X ≤ one120) : -80 ≤ sR 100 (xR X) * (one120 : Rat) - (sinN X : Rat) ∧ sR 100 (xR X) * (one120 : Rat) - (sinN X : Rat) ≤ 80 := by
  obtain ⟨a, b⟩ := series_near hX true
  obtain ⟨x1, x0⟩ := xR_le hX
  obtain ⟨c, d⟩ := tail32 (x := xR X) (by grind) x1 true
  rw [sinN_eq hX]
  unfold sR
  constructor <;> grind
end Go.Proofs.Ytpifkjmdcbieoaa

/- Quarters of a turn, by the series over the rationals (layer 5). No program is named here. -/
namespace Go.Proofs.Ytpifkjmdcbieoaa

/-- the series of cosine and sine -/
def cosR (x : Rat) : Rat := cR 100 x
def sinR (x : Rat) : Rat := sR 100 x
/-- 2^120 -/
def uR : Rat := (one120 : Rat)
/-- within e units of 2^-120 -/
structure InU (e a b : Rat) : Prop where
  lo : -e ≤ (a - b) * uR
  hi : (a - b) * uR ≤ e
theorem uR_pos : 0 < uR := oneR_pos
theorem uR_big : 1000000 ≤ uR := by
  have : ((1000000 : Nat) : Rat) ≤ (one120 : Rat) := by exact_mod_cast (show 1000000 ≤ one120 by decide)
  have z : ((1000000 : Nat) : Rat) = 1000000 := by exact_mod_cast rfl
  rw [z] at this
  exact this
theorem rest_u : restR 100 7 * uR ≤ 1 := by
  have h := rest100
  have z : ((7 : Nat) : Rat) = 7 := by exact_mod_cast rfl
  rw [z] at h
  have k : ((2 ^ 130 : Nat) : Rat) = 1024 * uR := by
    have : 2 ^ 130 = 1024 * one120 := by decide
    rw [this]; unfold uR; exact_mod_cast rfl
  rw [k] at h
  have := uR_pos
  generalize restR 100 7 = r at *
  by_cases c : 0 ≤ r * uR
  · grind
  · grind
theorem InU.of_less {r a b : Rat} (k : r * uR ≤ 1) (h : -r ≤ a - b ∧ a - b ≤ r) : InU 1 a b := by
  have hu := uR_pos
  have m1 := Rat.mul_nonneg (a := r - (a - b)) (b := uR) (by grind) (by grind)
  have m2 := Rat.mul_nonneg (a := r + (a - b)) (b := uR) (by grind) (by grind)
  exact ⟨by grind, by grind⟩
theorem cos_add {x y : Rat} (h1 : -7 ≤ x) (h2 : x ≤ 7) (h3 : -7 ≤ y) (h4 : y ≤ 7) : InU 1 (cosR x * cosR y - sinR x * sinR y) (cosR (x + y)) :=
  InU.of_less rest_u (cR_add 100 h1 h2 h3 h4)
theorem sin_add {x y : Rat} (h1 : -7 ≤ x) (h2 : x ≤ 7) (h3 : -7 ≤ y) (h4 : y ≤ 7) : InU 1 (sinR x * cosR y + cosR x * sinR y) (sinR (x + y)) :=
  InU.of_less rest_u (sR_add 100 h1 h2 h3 h4)
theorem cos_neg (x : Rat) : cosR (-x) = cosR x := cR_neg 100 x
theorem sin_neg (x : Rat) : sinR (-x) = - sinR x := sR_neg 100 x
theorem cos_zero : cosR 0 = 1 := cR_zero 99
theorem sin_zero : sinR 0 = 0 := sR_zero 99
theorem circle {x : Rat} (h1 : -7 ≤ x) (h2 : x ≤ 7) : InU 1 (cosR x * cosR x + sinR x * sinR x) 1 := by
  have h := cos_add h1 h2 (y := -x) (by grind) (by grind)
  rw [cos_neg, sin_neg, show x + -x = 0 from by grind, cos_zero] at h
  obtain ⟨a, b⟩ := h
  exact ⟨by grind, by grind⟩
theorem sq_within {a b : Rat} (h : a * a + b * b ≤ 121 / 100) : -(11 / 10) ≤ a ∧ a ≤ 11 / 10 := by
  have hb : 0 ≤ b * b := by
    by_cases c : 0 ≤ b
    · exact Rat.mul_nonneg c c
    · have := Rat.mul_nonneg (a := -b) (b := -b) (by grind) (by grind)
      grind
  constructor
  · by_cases c : -(11 / 10) ≤ a
    · exact c
    · have := Rat.mul_pos (a := -(11 / 10) - a) (b := -(11 / 10) - a) (by grind) (by grind)
      grind
  · by_cases c : a ≤ 11 / 10
    · exact c
    · have := Rat.mul_pos (a := a - 11 / 10) (b := a - 11 / 10) (by grind) (by grind)
      grind
theorem InU.flat {e a b : Rat} (h : InU e a b) (he : e ≤ 10000) : -(1 / 100) ≤ a - b ∧ a - b ≤ 1 / 100 := by
  obtain ⟨l, r⟩ := h
  have hu := uR_big
  constructor
  · by_cases c : -(1 / 100) ≤ a - b
    · exact c
    · have := Rat.mul_nonneg (a := -(1 / 100) - (a - b)) (b := uR - 1000000) (by grind) (by grind)
      grind
  · by_cases c : a - b ≤ 1 / 100
    · exact c
    · have := Rat.mul_nonneg (a := (a - b) - 1 / 100) (b := uR - 1000000) (by grind) (by grind)
      grind
theorem cos_le {x : Rat} (h1 : -7 ≤ x) (h2 : x ≤ 7) : -(11 / 10) ≤ cosR x ∧ cosR x ≤ 11 / 10 := by
  have h := (circle h1 h2).flat (by grind)
  exact sq_within (b := sinR x) (by grind)
theorem sin_le {x : Rat} (h1 : -7 ≤ x) (h2 : x ≤ 7) : -(11 / 10) ≤ sinR x ∧ sinR x ≤ 11 / 10 := by
  have h := (circle h1 h2).flat (by grind)
  exact sq_within (b := cosR x) (by grind)
/-- an eighth of a turn -/
def eighthR : Rat := xR eighthN
theorem eighth_one : eighthN ≤ one120 := by decide
theorem eighth_le : eighthR ≤ 4 / 5 ∧ 0 ≤ eighthR := by
  refine ⟨?_, (xR_le eighth_one).2⟩
  have h := xR_mul eighthN
  have q : (5 : Rat) * (eighthN : Rat) ≤ 4 * (one120 : Rat) := by exact_mod_cast (show 5 * eighthN ≤ 4 * one120 by decide)
  have hu := oneR_pos
  have := nonneg_of hu (d := 4 / 5 - xR eighthN) (by grind)
  unfold eighthR
  grind
theorem cos_eighth : cosN eighthN = 939906129562517623222788173740722880 := by decide +kernel
theorem sin_eighth : sinN eighthN = 939906129562517623222788173740722878 := by decide +kernel
/-- a quarter of a turn -/
def quartR : Rat := eighthR + eighthR
theorem quart_le : quartR ≤ 8 / 5 ∧ 0 ≤ quartR := by
  have := eighth_le
  unfold quartR
  constructor <;> grind
theorem cosE : -80 ≤ cosR eighthR * uR - 939906129562517623222788173740722880 ∧ cosR eighthR * uR - 939906129562517623222788173740722880 ≤ 80 := by
  have h := cosN_near eighth_one
  rw [cos_eighth] at h
  have z : ((939906129562517623222788173740722880 : Nat) : Rat) = 939906129562517623222788173740722880 := by exact_mod_cast rfl
  rw [z] at h
  exact h
theorem sinE : -80 ≤ sinR eighthR * uR - 939906129562517623222788173740722878 ∧ sinR eighthR * uR - 939906129562517623222788173740722878 ≤ 80 := by
  have h := sinN_near eighth_one
  rw [sin_eighth] at h
  have z : ((939906129562517623222788173740722878 : Nat) : Rat) = 939906129562517623222788173740722878 := by exact_mod_cast rfl
  rw [z] at h
  exact h
theorem uR_val : uR = 1329227995784915872903807060280344576 := by
  unfold uR
  have : one120 = 1329227995784915872903807060280344576 := rfl
  rw [this]
  exact_mod_cast rfl
theorem cos_quart : InU 400 (cosR quartR) 0 := by
  obtain ⟨e1, e0⟩ := eighth_le
  have h := cos_add (x := eighthR) (y := eighthR) (by grind) (by grind) (by grind) (by grind)
  have a1 := cosE
  have b1 := sinE
  have c1 := cos_le (x := eighthR) (by grind) (by grind)
  have s1 := sin_le (x := eighthR) (by grind) (by grind)
  obtain ⟨h1, h2⟩ := h
  have hu := uR_pos
  unfold quartR
  generalize cosR (eighthR + eighthR) = q at *
  generalize cosR eighthR = c at *
  generalize sinR eighthR = s at *
  have e : (c * c - s * s) * uR = (c * uR - s * uR) * (c + s) := by grind
  have m := within_mul (a := c * uR - s * uR) (b := c + s) (A := 162) (B := 22 / 10) (by grind) (by grind) (by grind) (by grind)
  constructor <;> grind
theorem two_near {P Q : Rat} (h1 : -80 ≤ P - 939906129562517623222788173740722880) (h2 : P - 939906129562517623222788173740722880 ≤ 80) (h3 : -80 ≤ Q - 939906129562517623222788173740722878) (h4 : Q - 939906129562517623222788173740722878 ≤ 80) :
    -(300 * 1329227995784915872903807060280344576) ≤ 2 * (P * Q) - 1329227995784915872903807060280344576 * 1329227995784915872903807060280344576 ∧ 2 * (P * Q) - 1329227995784915872903807060280344576 * 1329227995784915872903807060280344576 ≤ 300 * 1329227995784915872903807060280344576 := by
  have m := within_mul (a := P - 939906129562517623222788173740722880) (b := Q - 939906129562517623222788173740722878) (A := 80) (B := 80) h1 h2 h3 h4
  constructor <;> grind
theorem sin_quart : InU 400 (sinR quartR) 1 := by
  obtain ⟨e1, e0⟩ := eighth_le
  have h := sin_add (x := eighthR) (y := eighthR) (by grind) (by grind) (by grind) (by grind)
  have a1 := cosE
  have b1 := sinE
  have c1 := cos_le (x := eighthR) (by grind) (by grind)
  have s1 := sin_le (x := eighthR) (by grind) (by grind)
  obtain ⟨h1, h2⟩ := h
  have hu := uR_pos
  have hv := uR_val
  unfold quartR
  generalize sinR (eighthR + eighthR) = q at *
  generalize cosR eighthR = c at *
  generalize sinR eighthR = s at *
  -- c u = R + i, s u = R - 2 + j
  have e : (2 * (s * c) - 1) * uR * uR = 2 * ((c * uR) * (s * uR)) - uR * uR := by grind
  have m := two_near a1.1 a1.2 b1.1 b1.2
  rw [← hv] at m
  have k : -(300 * uR) ≤ (2 * (s * c) - 1) * uR * uR ∧ (2 * (s * c) - 1) * uR * uR ≤ 300 * uR := by
    rw [e]; exact m
  clear m e a1 b1 hv
  have k1 := nonneg_of hu (d := 300 - (2 * (s * c) - 1) * uR) (by grind)
  have k2 := nonneg_of hu (d := 300 + (2 * (s * c) - 1) * uR) (by grind)
  constructor <;> grind
/-- a quarter further -/
theorem quart_step {x : Rat} (h1 : -7 ≤ x) (h2 : x ≤ 7) : InU 900 (cosR (quartR + x)) (- sinR x) ∧ InU 900 (sinR (quartR + x)) (cosR x) := by
  obtain ⟨q1, q0⟩ := quart_le
  obtain ⟨a1, a2⟩ := cos_add (x := quartR) (y := x) (by grind) (by grind) h1 h2
  obtain ⟨b1, b2⟩ := sin_add (x := quartR) (y := x) (by grind) (by grind) h1 h2
  obtain ⟨c1, c2⟩ := cos_le h1 h2
  obtain ⟨s1, s2⟩ := sin_le h1 h2
  obtain ⟨d1, d2⟩ := cos_quart
  obtain ⟨e1, e2⟩ := sin_quart
  generalize cosR (quartR + x) = C at *
  generalize sinR (quartR + x) = S at *
  generalize cosR quartR = g at *
  generalize sinR quartR = f at *
  generalize cosR x = c at *
  generalize sinR x = s at *
  have m1 := within_mul (a := (g - 0) * uR) (b := c) (A := 400) (B := 11 / 10) d1 d2 c1 c2
  have m2 := within_mul (a := (g - 0) * uR) (b := s) (A := 400) (B := 11 / 10) d1 d2 s1 s2
  have m3 := within_mul (a := (f - 1) * uR) (b := c) (A := 400) (B := 11 / 10) e1 e2 c1 c2
  have m4 := within_mul (a := (f - 1) * uR) (b := s) (A := 400) (B := 11 / 10) e1 e2 s1 s2
  refine ⟨⟨?_, ?_⟩, ⟨?_, ?_⟩⟩ <;> grind
def rotC : Nat → Rat → Rat → Rat
  | 0, c, _ => c
  | 1, _, s => -s
  | 2, c, _ => -c
  | 3, _, s => s
  | _, c, _ => c
def rotS : Nat → Rat → Rat → Rat
  | 0, _, s => s
  | 1, c, _ => c
  | 2, _, s => -s
  | 3, c, _ => -c
  | _, _, s => s
theorem InU.trans {e f a b c : Rat} (h : InU e a b) (k : InU f b c) : InU (e + f) a c := by
  obtain ⟨h1, h2⟩ := h
  obtain ⟨k1, k2⟩ := k
  constructor <;> grind
theorem InU.neg {e a b : Rat} (h : InU e a b) : InU e (-a) (-b) := by
  obtain ⟨h1, h2⟩ := h
  constructor <;> grind
theorem InU.symm {e a b : Rat} (h : InU e a b) : InU e b a := by
  obtain ⟨h1, h2⟩ := h
  constructor <;> grind
theorem InU.mono {e f a b : Rat} (h : InU e a b) (k : e ≤ f) : InU f a b := by
  obtain ⟨h1, h2⟩ := h
  constructor <;> grind
theorem InU.refl (a : Rat) : InU 0 a a := by constructor <;> grind
theorem quarts {x : Rat} (h1 : -1 ≤ x) (h2 : x ≤ 1) : ∀ h : Nat, h ≤ 4 → InU (900 * (h : Rat)) (cosR (quartR * (h : Rat) + x)) (rotC h (cosR x) (sinR x)) ∧ InU (900 * (h : Rat)) (sinR (quartR * (h : Rat) + x)) (rotS h (cosR x) (sinR x))
  | 0, _ => by
    have z : ((0 : Nat) : Rat) = 0 := by exact_mod_cast rfl
    rw [z, show quartR * 0 + x = x from by grind, show (900 * 0 : Rat) = 0 from by grind]
    exact ⟨InU.refl _, InU.refl _⟩
  | h + 1, hh => by
    obtain ⟨i1, i2⟩ := quarts h1 h2 h (by omega)
    have z : ((h + 1 : Nat) : Rat) = (h : Rat) + 1 := by exact_mod_cast rfl
    have h3 : (h : Rat) ≤ 3 := by
      have : h ≤ 3 := by omega
      have q : (h : Rat) ≤ ((3 : Nat) : Rat) := by exact_mod_cast this
      have z3 : ((3 : Nat) : Rat) = 3 := by exact_mod_cast rfl
      rw [z3] at q; exact q
    have h0 := natR h
    obtain ⟨q1, q0⟩ := quart_le
    have m1 := Rat.mul_nonneg (a := quartR) (b := (h : Rat)) q0 h0
    have m2 := Rat.mul_nonneg (a := 8 / 5 - quartR) (b := (h : Rat)) (by grind) h0
    obtain ⟨s1, s2⟩ := quart_step (x := quartR * (h : Rat) + x) (by grind) (by grind)
    rw [z, show quartR * ((h : Rat) + 1) + x = quartR + (quartR * (h : Rat) + x) from by grind]
    have t1 := (s1.trans i2.neg).mono (f := 900 * ((h : Rat) + 1)) (by grind)
    have t2 := (s2.trans i1).mono (f := 900 * ((h : Rat) + 1)) (by grind)
    have : h = 0 ∨ h = 1 ∨ h = 2 ∨ h = 3 := by omega
    rcases this with rfl | rfl | rfl | rfl
    · exact ⟨t1, t2⟩
    · exact ⟨t1, t2⟩
    · refine ⟨?_, t2⟩
      have e : -rotS 2 (cosR x) (sinR x) = sinR x := by show - -sinR x = sinR x; grind
      rw [e] at t1; exact t1
    · refine ⟨?_, t2⟩
      have e : -rotS 3 (cosR x) (sinR x) = cosR x := by show - -cosR x = cosR x; grind
      rw [e] at t1; exact t1
/-- a whole turn -/
def turnR : Rat := quartR * 4
theorem turn_cos : InU 3600 (cosR turnR) 1 ∧ InU 3600 (sinR turnR) 0 := by
  obtain ⟨a, b⟩ := quarts (x := 0) (by grind) (by grind) 4 (Nat.le_refl 4)
  have z : ((4 : Nat) : Rat) = 4 := by exact_mod_cast rfl
  rw [z, show quartR * 4 + 0 = turnR from by unfold turnR; grind, cos_zero, sin_zero] at a
  rw [z, show quartR * 4 + 0 = turnR from by unfold turnR; grind, cos_zero, sin_zero] at b
  exact ⟨a.mono (by grind), b.mono (by grind)⟩
end Go.Proofs.Ytpifkjmdcbieoaa

/- Near points have near cosines and sines (layer 5). No program is named here. -/
namespace Go.Proofs.Ytpifkjmdcbieoaa

theorem tR_small {d : Rat} (h0 : 0 ≤ d) (h1 : d ≤ 1) : ∀ k, 0 ≤ tR 1 k ∧ 0 ≤ tR d k ∧ tR d k ≤ tR 1 k ∧ tR d (k + 1) ≤ d * tR 1 (k + 1)
  | 0 => by
    have a := tR_succ d 0
    have b := tR_succ 1 0
    have z : ((0 : Nat) : Rat) = 0 := by exact_mod_cast rfl
    rw [z] at a b
    have e0 : ∀ x, tR x 0 = 1 := fun _ => rfl
    rw [e0] at a b
    rw [e0, e0]
    have a' : tR d (0 + 1) = d := by grind
    have b' : tR 1 (0 + 1) = 1 := by grind
    rw [a', b']
    refine ⟨by grind, by grind, by grind, by grind⟩
  | k + 1 => by
    obtain ⟨i1, i2, i3, i4⟩ := tR_small h0 h1 k
    have a := tR_succ d k
    have b := tR_succ 1 k
    have a2 := tR_succ d (k + 1)
    have b2 := tR_succ 1 (k + 1)
    have hk := natR k
    have cc : ((k + 1 : Nat) : Rat) = (k : Rat) + 1 := by exact_mod_cast rfl
    rw [cc] at a2 b2
    have hc : (0 : Rat) < (k : Rat) + 1 := by grind
    have hc2 : (0 : Rat) < (k : Rat) + 1 + 1 := by grind
    have m := Rat.mul_nonneg i2 h0
    have p1 : 0 ≤ tR 1 (k + 1) := nonneg_of hc (by grind)
    have p2 : 0 ≤ tR d (k + 1) := nonneg_of hc (by grind)
    have m1 := Rat.mul_nonneg (a := 1 - d) (b := tR 1 (k + 1)) (by grind) p1
    have p3 : tR d (k + 1) ≤ tR 1 (k + 1) := by grind
    have m2 := Rat.mul_nonneg (a := tR 1 (k + 1) - tR d (k + 1)) (b := d) (by grind) h0
    have b3 : ((k : Rat) + 1 + 1) * (d * tR 1 (k + 1 + 1)) = tR 1 (k + 1) * d := by
      have : ((k : Rat) + 1 + 1) * (d * tR 1 (k + 1 + 1)) = d * (((k : Rat) + 1 + 1) * tR 1 (k + 1 + 1)) := by grind
      rw [this, b2]; grind
    have e3 : ((k : Rat) + 1 + 1) * (d * tR 1 (k + 1 + 1) - tR d (k + 1 + 1)) = (tR 1 (k + 1) - tR d (k + 1)) * d := by
      have : ((k : Rat) + 1 + 1) * (d * tR 1 (k + 1 + 1) - tR d (k + 1 + 1)) = ((k : Rat) + 1 + 1) * (d * tR 1 (k + 1 + 1)) - ((k : Rat) + 1 + 1) * tR d (k + 1 + 1) := by grind
      rw [this, b3, a2]; grind
    have p4 := nonneg_of hc2 (d := d * tR 1 (k + 1 + 1) - tR d (k + 1 + 1)) (by rw [e3]; exact m2)
    exact ⟨p1, p2, p3, by grind⟩
theorem tail_small {d : Rat} (h0 : 0 ≤ d) (h1 : d ≤ 1) : ∀ n, sumR (tR d) (n + 1) - 1 ≤ d * (sumR (tR 1) (n + 1) - 1)
  | 0 => by show ((0 : Rat) + 1) - 1 ≤ d * (((0 : Rat) + 1) - 1); grind
  | n + 1 => by
    have ih := tail_small h0 h1 n
    have h := (tR_small h0 h1 n).2.2.2
    show (sumR (tR d) (n + 1) + tR d (n + 1)) - 1 ≤ d * ((sumR (tR 1) (n + 1) + tR 1 (n + 1)) - 1)
    grind
theorem sum_one : sumR (tR 1) (99 + 1) ≤ 3 := by
  have q := hN_eq 1 99
  have f := facN_pos 99
  have hf : (0 : Rat) < (facN 99 : Rat) := by exact_mod_cast f
  have hb : (hN 1 99).ble (3 * facN 99) = true := by decide +kernel
  have hq : (hN 1 99 : Rat) ≤ 3 * (facN 99 : Rat) := by exact_mod_cast (Nat.le_of_ble_eq_true hb)
  have z : ((1 : Nat) : Rat) = 1 := by exact_mod_cast rfl
  rw [z] at q
  rw [← q] at hq
  generalize sumR (tR 1) (99 + 1) = S at *
  generalize (facN 99 : Rat) = g at *
  have := nonneg_of hf (d := 3 - S) (by grind)
  grind
theorem small_any {d : Rat} (h0 : 0 ≤ d) (h1 : d ≤ 1) (b : Bool) : -(2 * d) ≤ sumR (fun k => eR b k * tR d k) (99 + 1) - eR b 0 ∧ sumR (fun k => eR b k * tR d k) (99 + 1) - eR b 0 ≤ 2 * d := by
  have row := tail_row (f := fun k => eR b k * tR d k) (g := tR d) (fun i => by
    have p := (tR_small h0 h1 i).2.1
    obtain ⟨b1, b2⟩ := eR_one b i
    have := within_mul (a := eR b i) (b := tR d i) (A := 1) (B := tR d i) (by grind) b2 (by grind) (by grind)
    constructor <;> grind) 1 99
  have t := tail_small h0 h1 99
  have s := sum_one
  have e1 : ∀ f : Nat → Rat, sumR f 1 = f 0 := fun f => by show (0 : Rat) + f 0 = f 0; grind
  rw [e1, e1, show 1 + 99 = 99 + 1 from rfl] at row
  have z : tR d 0 = 1 := rfl
  rw [z] at row
  generalize sumR (fun k => eR b k * tR d k) (99 + 1) = A at *
  generalize sumR (tR d) (99 + 1) = B at *
  generalize sumR (tR 1) (99 + 1) = C at *
  have m := Rat.mul_nonneg (a := d) (b := 3 - C) h0 (by grind)
  constructor <;> grind
theorem cos_small {d : Rat} (h0 : 0 ≤ d) (h1 : d ≤ 1) : -(2 * d) ≤ cosR d - 1 ∧ cosR d - 1 ≤ 2 * d := small_any h0 h1 false
theorem sin_small {d : Rat} (h0 : 0 ≤ d) (h1 : d ≤ 1) : -(2 * d) ≤ sinR d ∧ sinR d ≤ 2 * d := by
  have h : -(2 * d) ≤ sinR d - 0 ∧ sinR d - 0 ≤ 2 * d := small_any h0 h1 true
  constructor <;> grind
/-- a unit further on -/
theorem near_points {x d : Rat} (h1 : -1 ≤ x) (h2 : x ≤ 1) (d0 : 0 ≤ d) (d1 : d * uR ≤ 1) : InU 6 (cosR (x + d)) (cosR x) ∧ InU 6 (sinR (x + d)) (sinR x) := by
  have hb := uR_big
  have hd : d ≤ 1 := by
    by_cases c : d ≤ 1
    · exact c
    · have := Rat.mul_nonneg (a := d - 1) (b := uR - 1) (by grind) (by grind)
      grind
  obtain ⟨a1, a2⟩ := cos_add (x := x) (y := d) (by grind) (by grind) (by grind) (by grind)
  obtain ⟨b1, b2⟩ := sin_add (x := x) (y := d) (by grind) (by grind) (by grind) (by grind)
  obtain ⟨c1, c2⟩ := cos_le (x := x) (by grind) (by grind)
  obtain ⟨s1, s2⟩ := sin_le (x := x) (by grind) (by grind)
  obtain ⟨p1, p2⟩ := cos_small d0 hd
  obtain ⟨q1, q2⟩ := sin_small d0 hd
  have hu := uR_pos
  have k1 := Rat.mul_nonneg (a := 2 * d - (cosR d - 1)) (b := uR) (by grind) (by grind)
  have k2 := Rat.mul_nonneg (a := 2 * d + (cosR d - 1)) (b := uR) (by grind) (by grind)
  have k3 := Rat.mul_nonneg (a := 2 * d - sinR d) (b := uR) (by grind) (by grind)
  have k4 := Rat.mul_nonneg (a := 2 * d + sinR d) (b := uR) (by grind) (by grind)
  generalize cosR (x + d) = C at *
  generalize sinR (x + d) = S at *
  generalize cosR x = c at *
  generalize sinR x = s at *
  generalize cosR d = g at *
  generalize sinR d = f at *
  have m1 := within_mul (a := (g - 1) * uR) (b := c) (A := 2) (B := 11 / 10) (by grind) (by grind) c1 c2
  have m2 := within_mul (a := (g - 1) * uR) (b := s) (A := 2) (B := 11 / 10) (by grind) (by grind) s1 s2
  have m3 := within_mul (a := f * uR) (b := c) (A := 2) (B := 11 / 10) (by grind) (by grind) c1 c2
  have m4 := within_mul (a := f * uR) (b := s) (A := 2) (B := 11 / 10) (by grind) (by grind) s1 s2
  refine ⟨⟨?_, ?_⟩, ⟨?_, ?_⟩⟩ <;> grind
end Go.Proofs.Ytpifkjmdcbieoaa

/- The reference's Octant (layer 5). -/
namespace Go.Proofs.Ytpifkjmdcbieoaa
open Go.RowKit

/-- k by n, 0 or more -/
def octQ (k n : Int) : Int := k % n
def octO (k n : Int) : Int := 8 * octQ k n / n
def octR (k n : Int) : Int := if octO k n % 2 = 0 then 8 * octQ k n - octO k n * n else (octO k n + 1) * n - 8 * octQ k n
theorem octQ_of {k n : Int} (hn : 0 < n) : octQ k n = (if k.tmod n < 0 then k.tmod n + n else k.tmod n) := by
  unfold octQ
  rcases Int.lt_or_le k 0 with h | h
  · have e : k.tmod n = -((-k) % n) := by
      rw [← Int.tmod_eq_emod_of_nonneg (by omega : 0 ≤ -k), Int.neg_tmod, Int.neg_neg]
    have h0 := Int.emod_nonneg (-k) (by omega : n ≠ 0)
    have h1 := Int.emod_lt_of_pos (-k) hn
    rw [e]
    by_cases c : (-k) % n = 0
    · rw [c]
      have : n ∣ k := Int.dvd_neg.1 (Int.dvd_of_emod_eq_zero c)
      rw [Int.emod_eq_zero_of_dvd this]
      simp
    · rw [if_pos (by omega)]
      have hk := Int.mul_ediv_add_emod (-k) n
      generalize (-k) / n = D at hk
      generalize (-k) % n = m at hk h0 h1 c
      have e2 : k = (-m + n) + n * (-D - 1) := by
        rw [Int.mul_sub, Int.mul_neg, Int.mul_one]
        omega
      rw [e2, Int.add_mul_emod_self_left]
      exact Int.emod_eq_of_lt (by omega) (by omega)
  · rw [Int.tmod_eq_emod_of_nonneg h, if_neg (by have := Int.emod_nonneg k (by omega : n ≠ 0); omega)]
theorem octQ_range {k n : Int} (hn : 0 < n) : 0 ≤ octQ k n ∧ octQ k n < n := ⟨Int.emod_nonneg _ (by omega), Int.emod_lt_of_pos _ hn⟩
theorem octO_range {k n : Int} (hn : 0 < n) : 0 ≤ octO k n ∧ octO k n < 8 := by
  obtain ⟨h1, h2⟩ := octQ_range (k := k) hn
  unfold octO
  exact ⟨Int.ediv_nonneg (by omega) (by omega), Int.ediv_lt_of_lt_mul hn (by omega)⟩
/-- the octant, found by going up -/
theorem octO_of {k n : Int} (hn : 0 < n) {o M : Int} (h1 : o * n ≤ 8 * octQ k n) (hM : M = (o + 1) * n) (h2 : 8 * octQ k n < M) : o = octO k n := by
  unfold octO
  rw [hM] at h2
  exact ((Int.ediv_eq_iff_of_pos hn).2 ⟨h1, by rwa [Int.add_mul, Int.one_mul] at h2⟩).symm
set_option maxHeartbeats 2000000 in
theorem roct_bad (k n : Int) (w : World) (h : ¬ (1 ≤ n ∧ n ≤ 1099511627776)) :
    Calls Try.prog 11 #[.int .i64 k, .int .i64 n] w fun r w' => r = .returned (.tuple #[.int .i64 (-1), .int .i64 0]) ∧ w = w' := by
  by_cases c : n < 1
  · have d1 : decide (n < 1) = true := decide_eq_true c
    clear c h
    go_enter Try.func11, Try.ntmps11
    go_wp2
    go_ret2
    exact ⟨rfl, rfl⟩
  · have d1 : decide (n < 1) = false := decide_eq_false c
    have d2 : decide (1099511627776 < n) = true := decide_eq_true (by omega)
    clear c h
    go_enter Try.func11, Try.ntmps11
    go_wp2
    go_ret2
    exact ⟨rfl, rfl⟩
theorem wrap_fits {x : Int} (h : x.natAbs ≤ 4611686018427387904) : wrap64 x = x := by unfold wrap64; omega
set_option maxHeartbeats 4000000 in
theorem roct_any (k n : Int) (w : World) (hn : 1 ≤ n ∧ n ≤ 1099511627776) :
    Calls Try.prog 11 #[.int .i64 k, .int .i64 n] w fun r w' => r = .returned (.tuple #[.int .i64 (octO k n), .int .i64 (octR k n)]) ∧ w = w' := by
  have hq := octQ_of (k := k) (n := n) (by omega)
  obtain ⟨q0, q1⟩ := octQ_range (k := k) (n := n) (by omega)
  have hO := Lib.hid (fun (o M : Int) => octO_of (k := k) (n := n) (o := o) (M := M) (by omega))
  have hR : octR k n = (if octO k n % 2 = 0 then 8 * octQ k n - octO k n * n else (octO k n + 1) * n - 8 * octQ k n) := rfl
  have hRH := Lib.hid hR
  obtain ⟨q, hqq⟩ : ∃ q, q = octQ k n := ⟨_, rfl⟩
  rw [← hqq] at hq q0 q1
  have hqH := Lib.hid hqq
  have d1 : decide (n < 1) = false := decide_eq_false (by omega)
  have d2 : decide (1099511627776 < n) = false := decide_eq_false (by omega)
  have n0 : (n == 0) = false := by rw [beq_eq_false_iff_ne]; omega
  obtain ⟨m, hm⟩ : ∃ m, m = k.tmod n := ⟨_, rfl⟩
  rw [← hm] at hq
  have hm2 : m < n ∧ -n < m := by rw [hm]; exact ⟨Int.tmod_lt_of_pos _ (by omega), by have := Int.lt_tmod_of_pos k (show 0 < n by omega); omega⟩
  clear hqq hR
  have hm' : k.tmod n = m := hm.symm
  by_cases c0 : m < 0
  · have d3 : decide (m < 0) = true := decide_eq_true c0
    have hq2 : m + n = q := by rw [hq, if_pos c0]
    have q1' := q1
    clear c0 hm hq
    go_enter Try.func11, Try.ntmps11
    go_wp2
    clear hm2 d3 d1 d2 q1' hm'
    go_loopw [7] (fun x wr => ∃ o : Nat, o ≤ 7 ∧ x = .int .i64 (o : Int) ∧ (o : Int) * n ≤ 8 * q ∧ wr = w) (fun x _ => (8 - intOf x).toNat)
    case atStart => exact ⟨0, by omega, by simp, by simp; omega, rfl⟩
    case round =>
      obtain ⟨o, ho, rfl, hle, rfl⟩ := hrel
      obtain ⟨M, hM⟩ : ∃ M : Int, M = ((o : Int) + 1) * n := ⟨_, rfl⟩
      have bM : 0 ≤ M ∧ M ≤ 8796093022208 := by
        rw [hM]
        refine ⟨Int.mul_nonneg (by omega) (by omega), ?_⟩
        have h1 : ((o : Int) + 1) * n ≤ 8 * n := Int.mul_le_mul_of_nonneg_right (by omega) (by omega)
        omega
      have e1 : wrap64 (((o : Int) + 1) * n) = M := by rw [← hM]; exact wrap_fits (by omega)
      by_cases c : M ≤ 8 * q
      · have dM : decide (M ≤ 8 * q) = true := decide_eq_true c
        have ho6 : o < 7 := by
          refine Classical.byContradiction fun hc => ?_
          have h7 : o = 7 := by omega
          subst h7
          have : ((7 : Nat) : Int) + 1 = 8 := rfl
          rw [this] at hM
          omega
        have hle' : ((o + 1 : Nat) : Int) * n ≤ 8 * q := by
          rw [show ((o + 1 : Nat) : Int) = (o : Int) + 1 from by omega, ← hM]
          exact c
        clear hM bM hle c
        go_wp2
        go_roundw
        case rel => exact ⟨o + 1, by omega, by simp, hle', trivial⟩
        case measure => simp [intOf]; omega
      · have dM : decide (M ≤ 8 * q) = false := decide_eq_false c
        have hoO := hO.out (o : Int) M (by rw [← hqH.out]; exact hle) hM (by rw [← hqH.out]; omega)
        obtain ⟨P, hP⟩ : ∃ P : Int, P = (o : Int) * n := ⟨_, rfl⟩
        have bP : 0 ≤ P ∧ P ≤ 8 * q := by rw [hP]; exact ⟨Int.mul_nonneg (by omega) (by omega), hle⟩
        have e2 : wrap64 ((o : Int) * n) = P := by rw [← hP]; exact wrap_fits (by omega)
        have hR := hRH.out
        rw [← hoO, ← hM, ← hP, ← hqH.out] at hR
        have hfin := Lib.hid (And.intro hoO hR)
        clear hoO hR hM hP hle c
        by_cases ev : o % 2 = 0
        · have t2 : ((o : Int).tmod 2 == 0) = true := by rw [beq_iff_eq, Int.tmod_eq_emod_of_nonneg (by omega)]; omega
          go_wp2
          go_ret2
          have h1 := hfin.out.1
          have h2 := hfin.out.2
          rw [if_pos (by omega)] at h2
          exact ⟨by rw [← h1, h2]; rfl, rfl⟩
        · have t2 : ((o : Int).tmod 2 == 0) = false := by rw [beq_eq_false_iff_ne, Int.tmod_eq_emod_of_nonneg (by omega)]; omega
          go_wp2
          go_ret2
          have h1 := hfin.out.1
          have h2 := hfin.out.2
          rw [if_neg (by omega)] at h2
          exact ⟨by rw [← h1, h2]; rfl, rfl⟩
  · have d3 : decide (m < 0) = false := decide_eq_false c0
    have hq2 : m = q := by rw [hq, if_neg c0]
    rw [hq2] at hm' d3
    have q1' := q1
    clear c0 hm hq hq2
    go_enter Try.func11, Try.ntmps11
    go_wp2
    clear hm2 d3 d1 d2 q1' hm'
    go_loopw [7] (fun x wr => ∃ o : Nat, o ≤ 7 ∧ x = .int .i64 (o : Int) ∧ (o : Int) * n ≤ 8 * q ∧ wr = w) (fun x _ => (8 - intOf x).toNat)
    case atStart => exact ⟨0, by omega, by simp, by simp; omega, rfl⟩
    case round =>
      obtain ⟨o, ho, rfl, hle, rfl⟩ := hrel
      obtain ⟨M, hM⟩ : ∃ M : Int, M = ((o : Int) + 1) * n := ⟨_, rfl⟩
      have bM : 0 ≤ M ∧ M ≤ 8796093022208 := by
        rw [hM]
        refine ⟨Int.mul_nonneg (by omega) (by omega), ?_⟩
        have h1 : ((o : Int) + 1) * n ≤ 8 * n := Int.mul_le_mul_of_nonneg_right (by omega) (by omega)
        omega
      have e1 : wrap64 (((o : Int) + 1) * n) = M := by rw [← hM]; exact wrap_fits (by omega)
      by_cases c : M ≤ 8 * q
      · have dM : decide (M ≤ 8 * q) = true := decide_eq_true c
        have ho6 : o < 7 := by
          refine Classical.byContradiction fun hc => ?_
          have h7 : o = 7 := by omega
          subst h7
          have : ((7 : Nat) : Int) + 1 = 8 := rfl
          rw [this] at hM
          omega
        have hle' : ((o + 1 : Nat) : Int) * n ≤ 8 * q := by
          rw [show ((o + 1 : Nat) : Int) = (o : Int) + 1 from by omega, ← hM]
          exact c
        clear hM bM hle c
        go_wp2
        go_roundw
        case rel => exact ⟨o + 1, by omega, by simp, hle', trivial⟩
        case measure => simp [intOf]; omega
      · have dM : decide (M ≤ 8 * q) = false := decide_eq_false c
        have hoO := hO.out (o : Int) M (by rw [← hqH.out]; exact hle) hM (by rw [← hqH.out]; omega)
        obtain ⟨P, hP⟩ : ∃ P : Int, P = (o : Int) * n := ⟨_, rfl⟩
        have bP : 0 ≤ P ∧ P ≤ 8 * q := by rw [hP]; exact ⟨Int.mul_nonneg (by omega) (by omega), hle⟩
        have e2 : wrap64 ((o : Int) * n) = P := by rw [← hP]; exact wrap_fits (by omega)
        have hR := hRH.out
        rw [← hoO, ← hM, ← hP, ← hqH.out] at hR
        have hfin := Lib.hid (And.intro hoO hR)
        clear hoO hR hM hP hle c
        by_cases ev : o % 2 = 0
        · have t2 : ((o : Int).tmod 2 == 0) = true := by rw [beq_iff_eq, Int.tmod_eq_emod_of_nonneg (by omega)]; omega
          go_wp2
          go_ret2
          have h1 := hfin.out.1
          have h2 := hfin.out.2
          rw [if_pos (by omega)] at h2
          exact ⟨by rw [← h1, h2]; rfl, rfl⟩
        · have t2 : ((o : Int).tmod 2 == 0) = false := by rw [beq_eq_false_iff_ne, Int.tmod_eq_emod_of_nonneg (by omega)]; omega
          go_wp2
          go_ret2
          have h1 := hfin.out.1
          have h2 := hfin.out.2
          rw [if_neg (by omega)] at h2
          exact ⟨by rw [← h1, h2]; rfl, rfl⟩
theorem octR_range {k n : Int} (hn : 0 < n) : 0 ≤ octR k n ∧ octR k n ≤ n := by
  have h1 := Int.mul_ediv_add_emod (8 * octQ k n) n
  have h2 := Int.emod_nonneg (8 * octQ k n) (by omega : n ≠ 0)
  have h3 := Int.emod_lt_of_pos (8 * octQ k n) hn
  unfold octR
  have e : octO k n = 8 * octQ k n / n := rfl
  rw [← e] at h1
  rw [Int.mul_comm] at h1
  rw [Int.add_mul, Int.one_mul]
  generalize octO k n * n = P at h1 ⊢
  generalize 8 * octQ k n % n = r at h1 h2 h3
  by_cases c : octO k n % 2 = 0
  · rw [if_pos c]; omega
  · rw [if_neg c]; omega
end Go.Proofs.Ytpifkjmdcbieoaa

/- The reference's carry (layer 5). -/
namespace Go.Proofs.Ytpifkjmdcbieoaa
open Go.RowKit

set_option maxHeartbeats 2000000 in
theorem carry_raw (f : Nat → Int) (w : World) (hb : ∀ i, i < 5 → (f i).natAbs ≤ 2305843009213693952) :
    Calls Try.prog 50 #[.agg #[.int .i64 (f 0), .int .i64 (f 1), .int .i64 (f 2), .int .i64 (f 3), .int .i64 (f 4)]] w fun r w' => ∃ d, r = .returned (V5 d) ∧ Digs d 4 ∧ lsum d 5 = lsum f 5 ∧ Bel w w' := by
  have hs : ∀ (w : World) (R : Nat) (v : Nat → Int), Mid5 w R v → (Instr.storeAt 37 (.pointer (some ⟨R, 0, none⟩)) (V5 v)).run Try.prog w = .ok () (set5 w R v) := fun w R v h => store_fixed h
  have t1 := (five_new w f 37 _ rfl)
  have t2 := five_zero (w.alloc (.cells #[.int .i64 (f 0), .int .i64 (f 1), .int .i64 (f 2), .int .i64 (f 3), .int .i64 (f 4)] 37)) 37 (w.heap.size + 1) (by simp)
  have t1 := t1.bel ((Bel.refl _).alloc (.cells #[.int .i64 0, .int .i64 0, .int .i64 0, .int .i64 0, .int .i64 0] 37)) (by simp)
  have hB := ((Bel.refl w).alloc (.cells #[.int .i64 (f 0), .int .i64 (f 1), .int .i64 (f 2), .int .i64 (f 3), .int .i64 (f 4)] 37)).alloc (.cells #[.int .i64 0, .int .i64 0, .int .i64 0, .int .i64 0, .int .i64 0] 37)
  go_enter Try.func50, Try.ntmps50
  go_wp2
  generalize hw1 : (w.alloc (.cells #[.int .i64 (f 0), .int .i64 (f 1), .int .i64 (f 2), .int .i64 (f 3), .int .i64 (f 4)] 37)).alloc (.cells #[.int .i64 0, .int .i64 0, .int .i64 0, .int .i64 0, .int .i64 0] 37) = w1 at t1 t2 hB ⊢
  obtain ⟨A, hA⟩ : ∃ A, A = w.heap.size := ⟨_, rfl⟩
  rw [← hA] at t1 t2 ⊢
  have hAw := Lib.hid (And.intro (Nat.le_of_eq hA.symm) (show w.heap.size ≤ A + 1 by omega))
  clear hw1 hA hs
  go_loopw [3, 4, 5] (fun a b _ wr => ∃ (c : Int) (i : Nat) (d : Nat → Int), CarInv f d i c ∧ (∀ j, i ≤ j → d j = f j) ∧ i ≤ 4 ∧ c.natAbs ≤ 4294967296 ∧ a = .int .i64 c ∧ b = .int .i64 (i : Int) ∧ CellsAt 5 wr A d ∧ CellsAt 5 wr (A + 1) (fun _ => 0) ∧ Bel w wr) (fun _ b _ _ => (4 - intOf b).toNat)
  case atStart => exact ⟨0, 0, f, CarInv.start f _, fun _ _ => rfl, by omega, by decide, rfl, by simp, t1, t2, hB⟩
  case round =>
    obtain ⟨c, i, d, hI, hd, hi, hc, rfl, rfl, hL, hR, hB⟩ := hrel
    by_cases hlt : i < 4
    · obtain ⟨c1, z1⟩ := hL i (by omega)
      obtain ⟨v, hv⟩ : ∃ v : Int, v = f i := ⟨_, rfl⟩
      have bv := hb i (by omega)
      rw [hd i (Nat.le_refl i), ← hv] at c1
      rw [← hv] at bv
      have hN := hI.next (v := v + c) (by rw [hv])
      have eA : bits .and .i64 (v + c) 1073741823 = (v + c) % 1073741824 := bits_30i _
      obtain ⟨D, hD⟩ : ∃ D, D = (v + c) % 1073741824 := ⟨_, rfl⟩
      rw [← hD] at eA hN
      have hNH := Lib.hid hN
      have hL2 := hL.put (show i < 5 by omega) D
      have hR2 := hR.so (X := A) (k := i) (by omega) (.int .i64 D)
      have hB2 := hB.setCell (p := ⟨A, i, none⟩) hAw.out.1 (.int .i64 D)
      have hd2 := Lib.hid (show ∀ j, i + 1 ≤ j → upd d i D j = f j from fun j hj => by rw [upd_other d D (by omega)]; exact hd j (by omega))
      clear hN hI hv hD hL hd hR hB
      go_wp2
      go_roundw
      case rel => exact ⟨_, i + 1, _, hNH.out, hd2.out, by omega, by omega, rfl, by simp, hL2, hR2, hB2⟩
      case measure => simp [intOf]; omega
    · have h4 : i = 4 := by omega
      subst h4
      have hD4 := hI.digs
      have hE := hI.eq
      have b4 := hb 4 (by decide)
      have e4 := hd 4 (Nat.le_refl 4)
      obtain ⟨v, hv⟩ : ∃ v : Int, v = f 4 := ⟨_, rfl⟩
      rw [← hv] at e4 b4
      obtain ⟨c4, z4⟩ := hL 4 (by decide)
      rw [e4] at c4
      have hL2 := hL.put (k := 4) (by decide) (v + c)
      obtain ⟨g0, _⟩ := hL2 0 (by decide)
      obtain ⟨g1, _⟩ := hL2 1 (by decide)
      obtain ⟨g2, _⟩ := hL2 2 (by decide)
      obtain ⟨g3, _⟩ := hL2 3 (by decide)
      obtain ⟨g4, _⟩ := hL2 4 (by decide)
      have hR2 := hR.so (X := A) (k := 4) (by omega) (.int .i64 (v + c))
      have hB2 := hB.setCell (p := ⟨A, 4, none⟩) hAw.out.1 (.int .i64 (v + c))
      obtain ⟨D, hD⟩ : ∃ D, D = upd d 4 (v + c) := ⟨_, rfl⟩
      rw [← hD] at g0 g1 g2 g3 g4
      have e4' : D 4 = v + c := by rw [hD]; exact upd_same ..
      rw [e4'] at g4
      obtain ⟨⟨x0, y0⟩, z0, ⟨x1, y1⟩, z1, ⟨x2, y2⟩, z2, ⟨x3, y3⟩, z3, ⟨x4, y4⟩, z4'⟩ := hR2.mid D
      have hfin : Digs D 4 ∧ lsum D 5 = lsum f 5 := by
        refine ⟨fun j hj => ?_, ?_⟩
        · rw [hD, upd_other d _ (by omega)]; exact hD4 j hj
        · show lsum D 4 + D 4 * _ = lsum f 4 + f 4 * _
          rw [e4', hE, ← hv, hD, lsum_upd_ge d _ (Nat.le_refl 4), Int.add_mul]
          generalize (2 : Int) ^ (30 * 4) = P
          omega
      have hfinH := Lib.hid hfin
      have hset := hR2.set D
      obtain ⟨s0, _⟩ := hset 0 (by decide)
      obtain ⟨s1, _⟩ := hset 1 (by decide)
      obtain ⟨s2, _⟩ := hset 2 (by decide)
      obtain ⟨s3, _⟩ := hset 3 (by decide)
      obtain ⟨s4, _⟩ := hset 4 (by decide)
      have hB3 := hB2.set5 hAw.out.2 D
      unfold set5 at s0 s1 s2 s3 s4 hB3
      rw [e4'] at s0 s1 s2 s3 s4 hB3
      have hDH := Lib.hid e4'
      clear hD hfin hset hR2 hB2 hL2 hE hI hd hL hR hB hv e4 e4'
      go_wp2
      refine bodyPost_ret (by simp [results, go_sem, s0, s1, s2, s3, s4]; try rfl) rfl ?_
      exact ⟨D, by unfold V5; rw [hDH.out], hfinH.out.1, hfinH.out.2, hB3⟩
end Go.Proofs.Ytpifkjmdcbieoaa
