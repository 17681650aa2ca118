/- The reference's Put and Add (layer 3): a number is added to a long one. -/
import Derived.Test.YtknlpggbaahajaaRef3a
import Derived.Test.YtknlpggbaahajaaLong
import Derived.Test.YtknlpggbaahajaaPutF
import Derived.StillTailTactics
import Derived.BigQuiet
import Derived.Deep.QuietTactic
import Derived.Deep.CutBlock
import Derived.IntWalk
namespace Go.Proofs.Ytknlpggbaahajaa
open Go.RowKit

set_option maxHeartbeats 2000000 in
theorem put_any (g : Nat) (f : Nat → Int) (m e : Int) (w : World) (hf : LongAt w g f) (hm : m.natAbs < 1237940039285380274899124224) (hm2 : m.natAbs < 4611686018427387904) (he0 : -1150 ≤ e) (he1 : e ≤ 1900) (hb : ∀ i, (f i).natAbs ≤ 1152921504606846976) :
    Calls Try.prog 28 #[.pointer (some ⟨g, 0, none⟩), .int .i64 m, .int .i64 e] w fun r w' => r = .returned (.tuple #[]) ∧ ∃ f', LongAt w' g f' ∧ lval f' = lval f + m * 2 ^ (e + 1200).toNat ∧ (∀ j, (f' j - f j).natAbs ≤ 3221225472) ∧ Below g w w' := by
  by_cases h0 : m = 0
  · subst h0
    go_enter Try.func28, Try.ntmps28
    go_wp2
    refine bodyPost_ret (results_none rfl _ _ _) rfl ?_
    exact ⟨rfl, f, hf, by simp, fun j => by simp, Below.refl _ _⟩
  · obtain ⟨A, hA⟩ : ∃ A : Nat, e + 1200 = (A : Int) := ⟨(e + 1200).toNat, by omega⟩
    obtain ⟨k, hk⟩ : ∃ k : Nat, k = A / 30 := ⟨_, rfl⟩
    obtain ⟨s, hs⟩ : ∃ s : Nat, s = A % 30 := ⟨_, rfl⟩
    have eK : (A : Int) / 30 = (k : Int) := by omega
    have eS : (A : Int) % 30 = (s : Int) := by omega
    have hat := Lib.hid (show A = 30 * k + s by omega)
    have hs30 : s < 30 := by omega
    have hk105 : k < 105 := by omega
    obtain ⟨M, hM⟩ : ∃ M : Nat, M = m.natAbs := ⟨_, rfl⟩
    have t0 : (m == 0) = false := by rw [beq_eq_false_iff_ne]; exact h0
    clear hk hs
    by_cases hn : m < 0
    · have eU : IntKind.u64.wrap (-IntKind.u64.wrap m) = (M : Int) := by rw [IntKind.wrap_u64, IntKind.wrap_u64]; omega
      have hfin := Lib.hid (show m = -1 * (M : Int) by omega)
      have hS := PutInv.start M true A f
      have M62 : M < 4611686018427387904 := by omega
      clear hM hm hm2
      go_enter Try.func28, Try.ntmps28
      go_wp2
      rw [eS]
      go_loopw [10, 11] (fun x y wr => ∃ (f' : Nat → Int) (i u : Nat), PutInv M true A f f' i u ∧ i ≤ 3 ∧ u < 4611686018427387904 ∧ x = .int .u64 (u : Int) ∧ y = .int .i64 (i : Int) ∧ LongAt wr g f' ∧ Below g w wr) (fun _ y _ => (3 - intOf y).toNat)
      case atStart => exact ⟨f, 0, M, hS, by omega, M62, rfl, rfl, hf, Below.refl _ _⟩
      case round =>
        obtain ⟨f', i, u, hI, hi3, hu, rfl, rfl, hL, hB⟩ := hrel
        by_cases hi : i < 3
        · obtain ⟨P, hP⟩ : ∃ P : Nat, P = u % 1073741824 := ⟨_, rfl⟩
          have hN := hI.next_t hat.out hs30 (by omega)
          have hle := hI.le
          have eP : bits .and .u64 (u : Int) 1073741823 = (P : Int) := by rw [bits_30n u (by omega), hP]
          have hP1 : P < 1073741824 := by rw [hP]; exact Nat.mod_lt _ (by decide)
          obtain ⟨hQ1, eQ⟩ := shl_small hP1 hs30
          rw [← hP] at hN
          clear hP hI
          generalize P * 2 ^ s = Q at hN hQ1 eQ
          obtain ⟨a, b, eA, eB, ha, hb', a0, a1, b0, b1⟩ := fold hQ1
          rw [← ha, ← hb'] at hN
          clear ha hb'
          have hN := Lib.hid hN
          obtain ⟨J, hJ⟩ : ∃ J : Nat, J = k + i := ⟨_, rfl⟩
          have J109 : J < 109 := by omega
          obtain ⟨y0, y2⟩ := wrap_idx hJ (by omega)
          obtain ⟨c1, z1⟩ := hL J (by omega)
          obtain ⟨v, hv⟩ : ∃ v : Int, v = f' J := ⟨_, rfl⟩
          obtain ⟨v2, hv2⟩ : ∃ v2 : Int, v2 = f' (J + 1) := ⟨_, rfl⟩
          have bv := limb_bound hi3 (hle J) (hb J)
          have bv2 := limb_bound hi3 (hle (J + 1)) (hb (J + 1))
          rw [← hv] at c1 bv
          rw [← hv2] at bv2
          have y1 : IntKind.i64.wrap (v + -a) = v + -a := wrap_sum bv (by omega)
          have y3 : IntKind.i64.wrap (v2 + -b) = v2 + -b := wrap_sum bv2 (by omega)
          have J0 : (0 : Int) ≤ (J : Int) := by omega
          have J1 : (J : Int) < 110 := by omega
          have J2 : (J : Int) + 1 < 110 := by omega
          have J3 : (0 : Int) ≤ (J : Int) + 1 := by omega
          have J4 : ((J : Int) + 1).toNat = J + 1 := by omega
          have hfin2 := Lib.hid (show PutInv M true A f (upd (upd f' J (v + -a)) (J + 1) (v2 + -b)) (i + 1) (u / 1073741824) from by
            have h5 := hN.out
            rw [← hJ, ← hv, upd_other f' (v + -a) (show J + 1 ≠ J by omega), ← hv2] at h5
            exact h5)
          have hv2H := Lib.hid hv2
          clear hJ hv hv2 hle bv bv2 hN
          go_upto_region 19 with fail
          go_still_tail 17, (by kernel_rfl)
          change wpList _ _ _ _ _ wr.drew
          have hL2 : LongAt wr.drew g f' := hL
          have hB2 : Below g w wr.drew := hB.drew
          have c2 : wr.drew.cell? ⟨g, J, none⟩ = some (.int .i64 v) := c1
          have z2 : wr.drew.frozen? ⟨g, J, none⟩ = false := z1
          clear hL hB c1 z1
          generalize wr.drew = w2 at hL2 hB2 c2 z2 ⊢
          go_upto_region 20 with fail
          have hL3 := hL2.put (k := J) (by omega) (v + -a)
          have hB3 : Below g w (w2.setCell ⟨g, J, none⟩ (.int .i64 (v + -a))) := hB2.setCell (Nat.le_refl _) _
          obtain ⟨c3, z3⟩ := hL3 (J + 1) (by omega)
          rw [upd_other f' (v + -a) (show J + 1 ≠ J by omega), ← hv2H.out] at c3
          clear hL2 hB2 c2 z2
          generalize w2.setCell ⟨g, J, none⟩ (.int .i64 (v + -a)) = w3 at hL3 hB3 c3 z3 ⊢
          go_still_tail 19, (by kernel_rfl)
          change wpList _ _ _ _ _ w3.drew
          have hL4 : LongAt w3.drew g (upd f' J (v + -a)) := hL3
          have hB4 : Below g w w3.drew := hB3.drew
          have c4 : w3.drew.cell? ⟨g, J + 1, none⟩ = some (.int .i64 v2) := c3
          have z4 : w3.drew.frozen? ⟨g, J + 1, none⟩ = false := z3
          clear hL3 hB3 c3 z3
          generalize w3.drew = w4 at hL4 hB4 c4 z4 ⊢
          have hL5 := hL4.put (k := J + 1) (by omega) (v2 + -b)
          have hB5 : Below g w (w4.setCell ⟨g, J + 1, none⟩ (.int .i64 (v2 + -b))) := hB4.setCell (Nat.le_refl _) _
          go_wp2
          go_roundw
          case rel =>
            exact ⟨_, i + 1, u / 1073741824, hfin2.out, by omega, by omega, rfl, by simp, hL5, hB5⟩
          case measure => simp [intOf]; omega
        · have h3 : i = 3 := by omega
          subst h3
          have hv := hI.val
          have hM3 := Lib.hid (Nat.mod_eq_of_lt (show M < 2 ^ (30 * 3) from Nat.lt_of_lt_of_le M62 (by decide)))
          rw [hM3.out, if_pos rfl, ← hfin.out] at hv
          have hv := Lib.hid hv
          have hle := hI.le
          clear hI
          go_wp2
          go_end0
          exact ⟨rfl, f', hL, by rw [show (e + 1200).toNat = A from by omega]; exact hv.out, hle, hB⟩
    · have eU : IntKind.u64.wrap m = (M : Int) := by rw [IntKind.wrap_u64]; omega
      have hfin := Lib.hid (show m = 1 * (M : Int) by omega)
      have hS := PutInv.start M false A f
      have M62 : M < 4611686018427387904 := by omega
      clear hM hm hm2
      go_enter Try.func28, Try.ntmps28
      go_wp2
      go_loopw [10, 11] (fun x y wr => ∃ (f' : Nat → Int) (i u : Nat), PutInv M false A f f' i u ∧ i ≤ 3 ∧ u < 4611686018427387904 ∧ x = .int .u64 (u : Int) ∧ y = .int .i64 (i : Int) ∧ LongAt wr g f' ∧ Below g w wr) (fun _ y _ => (3 - intOf y).toNat)
      case atStart => exact ⟨f, 0, M, hS, by omega, M62, rfl, rfl, hf, Below.refl _ _⟩
      case round =>
        obtain ⟨f', i, u, hI, hi3, hu, rfl, rfl, hL, hB⟩ := hrel
        by_cases hi : i < 3
        · obtain ⟨P, hP⟩ : ∃ P : Nat, P = u % 1073741824 := ⟨_, rfl⟩
          have hN := hI.next_f hat.out hs30 (by omega)
          have hle := hI.le
          have eP : bits .and .u64 (u : Int) 1073741823 = (P : Int) := by rw [bits_30n u (by omega), hP]
          have hP1 : P < 1073741824 := by rw [hP]; exact Nat.mod_lt _ (by decide)
          obtain ⟨hQ1, eQ⟩ := shl_small hP1 hs30
          rw [← hP] at hN
          clear hP hI
          generalize P * 2 ^ s = Q at hN hQ1 eQ
          obtain ⟨a, b, eA, eB, ha, hb', a0, a1, b0, b1⟩ := fold hQ1
          rw [← ha, ← hb'] at hN
          clear ha hb'
          have hN := Lib.hid hN
          obtain ⟨J, hJ⟩ : ∃ J : Nat, J = k + i := ⟨_, rfl⟩
          have J109 : J < 109 := by omega
          obtain ⟨y0, y2⟩ := wrap_idx hJ (by omega)
          obtain ⟨c1, z1⟩ := hL J (by omega)
          obtain ⟨v, hv⟩ : ∃ v : Int, v = f' J := ⟨_, rfl⟩
          obtain ⟨v2, hv2⟩ : ∃ v2 : Int, v2 = f' (J + 1) := ⟨_, rfl⟩
          have bv := limb_bound hi3 (hle J) (hb J)
          have bv2 := limb_bound hi3 (hle (J + 1)) (hb (J + 1))
          rw [← hv] at c1 bv
          rw [← hv2] at bv2
          have y1 : IntKind.i64.wrap (v + a) = v + a := wrap_sum bv (by omega)
          have y3 : IntKind.i64.wrap (v2 + b) = v2 + b := wrap_sum bv2 (by omega)
          have J0 : (0 : Int) ≤ (J : Int) := by omega
          have J1 : (J : Int) < 110 := by omega
          have J2 : (J : Int) + 1 < 110 := by omega
          have J3 : (0 : Int) ≤ (J : Int) + 1 := by omega
          have J4 : ((J : Int) + 1).toNat = J + 1 := by omega
          have hfin2 := Lib.hid (show PutInv M false A f (upd (upd f' J (v + a)) (J + 1) (v2 + b)) (i + 1) (u / 1073741824) from by
            have h5 := hN.out
            rw [← hJ, ← hv, upd_other f' (v + a) (show J + 1 ≠ J by omega), ← hv2] at h5
            exact h5)
          have hv2H := Lib.hid hv2
          clear hJ hv hv2 hle bv bv2 hN
          go_upto_region 19 with fail
          go_still_tail 17, (by kernel_rfl)
          change wpList _ _ _ _ _ wr.drew
          have hL2 : LongAt wr.drew g f' := hL
          have hB2 : Below g w wr.drew := hB.drew
          have c2 : wr.drew.cell? ⟨g, J, none⟩ = some (.int .i64 v) := c1
          have z2 : wr.drew.frozen? ⟨g, J, none⟩ = false := z1
          clear hL hB c1 z1
          generalize wr.drew = w2 at hL2 hB2 c2 z2 ⊢
          go_upto_region 20 with fail
          have hL3 := hL2.put (k := J) (by omega) (v + a)
          have hB3 : Below g w (w2.setCell ⟨g, J, none⟩ (.int .i64 (v + a))) := hB2.setCell (Nat.le_refl _) _
          obtain ⟨c3, z3⟩ := hL3 (J + 1) (by omega)
          rw [upd_other f' (v + a) (show J + 1 ≠ J by omega), ← hv2H.out] at c3
          clear hL2 hB2 c2 z2
          generalize w2.setCell ⟨g, J, none⟩ (.int .i64 (v + a)) = w3 at hL3 hB3 c3 z3 ⊢
          go_still_tail 19, (by kernel_rfl)
          change wpList _ _ _ _ _ w3.drew
          have hL4 : LongAt w3.drew g (upd f' J (v + a)) := hL3
          have hB4 : Below g w w3.drew := hB3.drew
          have c4 : w3.drew.cell? ⟨g, J + 1, none⟩ = some (.int .i64 v2) := c3
          have z4 : w3.drew.frozen? ⟨g, J + 1, none⟩ = false := z3
          clear hL3 hB3 c3 z3
          generalize w3.drew = w4 at hL4 hB4 c4 z4 ⊢
          have hL5 := hL4.put (k := J + 1) (by omega) (v2 + b)
          have hB5 : Below g w (w4.setCell ⟨g, J + 1, none⟩ (.int .i64 (v2 + b))) := hB4.setCell (Nat.le_refl _) _
          go_wp2
          go_roundw
          case rel =>
            exact ⟨_, i + 1, u / 1073741824, hfin2.out, by omega, by omega, rfl, by simp, hL5, hB5⟩
          case measure => simp [intOf]; omega
        · have h3 : i = 3 := by omega
          subst h3
          have hv := hI.val
          have hM3 := Lib.hid (Nat.mod_eq_of_lt (show M < 2 ^ (30 * 3) from Nat.lt_of_lt_of_le M62 (by decide)))
          rw [hM3.out, if_neg (by decide), ← hfin.out] at hv
          have hv := Lib.hid hv
          have hle := hI.le
          clear hI
          go_wp2
          go_end0
          exact ⟨rfl, f', hL, by rw [show (e + 1200).toNat = A from by omega]; exact hv.out, hle, hB⟩
end Go.Proofs.Ytknlpggbaahajaa
