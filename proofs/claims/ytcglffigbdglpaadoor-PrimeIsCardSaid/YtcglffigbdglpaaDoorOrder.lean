/- prime.Order: where the test takes only primes for primes, the order. -/
import Derived.Test.YtcglffigbdglpaaDoorCount
import Derived.Test.YtcglffigbdglpaaDoorGcd
namespace Go.Proofs.YtcglffigbdglpaaDoor
open Go.RowKit Dia

theorem order_no (a n : Int) (w : World) (h : n < 1 ∨ 1099511627776 < n) :
    Calls Tryd.prog 16 #[.int .i64 a, .int .i64 n] w fun e w' => e = .returned (.int .i64 (ordS a n)) ∧ Bel w w' := by
  have hO := Lib.hid (ordS_no (a := a) h)
  go_enter Tryd.func16, Tryd.ntmps16
  go_wp2_with fail
  refine (isFactored_no n _ h).mono ?_; rintro e w1 ⟨rfl, rfl⟩
  go_wp2
  go_ret
  exact ⟨ret_i64 hO.out.symm, Bel.refl _⟩

set_option maxHeartbeats 1000000 in
theorem order_yes (a n : Int) (w : World) (hB : Bases w) (h1 : 1 ≤ n) (h2 : n ≤ 1099511627776) (hs : ∀ m, m ≤ n → isB m = true → IsP m) :
    Calls Tryd.prog 16 #[.int .i64 a, .int .i64 n] w fun e w' => e = .returned (.int .i64 (ordS a n)) ∧ Bel w w' := by
  have hms : mulS a 1 n = a % n := by rw [mulS_yes h1 (by omega), Int.mul_one]
  have r0 := Int.emod_nonneg a (by omega : n ≠ 0)
  have r1 := Int.emod_lt_of_pos a (by omega : 0 < n)
  have hgs : gcdS (a % n) n = (Int.gcd (a % n) n : Int) := gcdS_yes r0 (by omega)
  by_cases hg : (Int.gcd (a % n) n : Int) = 1
  · obtain ⟨e, he⟩ := ord_exists a n
    have hO := Lib.hid (ordS_eq h1 h2 he)
    have he := Lib.hid he
    have t0 : (gcdS (a % n) n != 1) = false := by rw [hgs, bne_eq_false_iff_eq]; exact hg
    have hms := Lib.hid hms
    have hg := Lib.hid hg
    clear hgs
    go_enter Tryd.func16, Tryd.ntmps16
    go_wp2_with fail
    refine (isFactored_yes n _ h1 h2).mono ?_; rintro e w1 ⟨rfl, rfl⟩
    go_wp2_with fail
    refine (mul_any a 1 n _).mono ?_; rintro e w1 ⟨rfl, g1⟩
    rw [hms.out]
    go_wp2_with fail
    refine (gcd_any (a % n) n _ (by omega) (by omega)).mono ?_; rintro e w2 ⟨rfl, g2⟩
    go_wp2_with fail
    have b2 := g1.trans g2
    refine (countOfCoprimes_any n _ (hB.bel b2) h1 h2).mono ?_; rintro e w3 ⟨⟨l0, hF0, rfl⟩, g3⟩
    have b3 := b2.trans g3
    have hI0 := hF0.isFac hs
    have hN1 := psi_pos l0 fun x hx => isB_two (hF0.isb x hx)
    have hN2 := psi_le hF0
    have hE := euler_mod hI0 hg.out
    obtain ⟨N, hN⟩ : ∃ N, N = psi l0 := ⟨_, rfl⟩
    rw [← hN] at hN1 hN2 hE ⊢
    clear hI0 hF0 hN
    go_wp2_with fail
    refine (factor_yes N _ (hB.bel b3) hN1 (by omega)).mono ?_; rintro e w4 ⟨v, l, rfl, hF, hown, g4⟩
    have b4 := b3.trans g4
    have hI := Lib.hid (hF.isFac fun m hm hb => hs m (by omega) hb)
    have hlen := hF.len (by omega)
    have hR := RowAt.of hown
    obtain ⟨e1, k0, hS⟩ := RedInv.start (l := l) he.out hN1 hE
    have hx2 : ∀ x ∈ l, 2 ≤ x.1 := fun x hx => isB_two (hF.isb x hx)
    clear hown hE
    rcases hR.form with ⟨rfl, rfl⟩ | ⟨g, cap, rfl, hg1, hg2, hc, hm, hcells⟩
    · have hD := Lib.hid (hS.done hI.out (by simp))
      go_wp2_with fail
      go_loopw [5, 24] (fun x y wr => x = .int .i64 N ∧ y = .int .i64 0 ∧ wr = w4) (fun _ _ _ => 0)
      case atStart => exact ⟨rfl, rfl, rfl⟩
      case round =>
        obtain ⟨rfl, rfl, rfl⟩ := hrel
        go_wp2
        go_ret
        exact ⟨ret_i64 (hD.out.trans hO.out.symm), b4⟩
    · go_wp2_with fail
      go_loopw [5, 24] (fun x y wr => ∃ (o k : Int) (i : Nat), RedInv N e o k l i ∧ x = .int .i64 o ∧ y = .int .i64 (i : Int) ∧ Bel w4 wr) (fun _ y _ => (l.length - (intOf y).toNat))
      case atStart => exact ⟨N, k0, 0, hS, rfl, rfl, Bel.refl _⟩
      case round =>
        obtain ⟨o, k, i, hC, rfl, rfl, hb⟩ := hrel
        by_cases hi : i < l.length
        · obtain ⟨x, hx⟩ : ∃ x, l[i]? = some x := ⟨_, List.getElem?_eq_getElem hi⟩
          have hxm := List.mem_of_getElem? hx
          have x2 := hx2 x hxm
          have xN := (hF.le hxm).2
          obtain ⟨k0, k1⟩ := hcells i x hx
          rw [← hb.cell (by exact hg2)] at k0 k1
          have t0 : (x.1 == 0) = false := by rw [beq_eq_false_iff_ne]; omega
          have one : (1 : Int) % n = 1 := Int.emod_eq_of_lt (by omega) (by omega)
          have hx := Lib.hid hx
          obtain ⟨wo, rfl⟩ : ∃ wo : World, wo = wr := ⟨_, rfl⟩
          go_wp2_with fail
          go_loopw [5] (fun y wx => ∃ o k : Int, RedInv N e o k l i ∧ y = .int .i64 o ∧ Bel (wo.alloc (Obj.cells #[Value.int IntKind.i64 x.1, Value.int IntKind.i64 (x.2 : Int)] 31)) wx) (fun y _ => (intOf y).toNat)
          case atStart => exact ⟨o, k, hC, rfl, Bel.refl _⟩
          case round =>
            obtain ⟨o, k, hC, rfl, hbx⟩ := hrel
            have o1 := hC.o1
            have oN := hC.o_le
            have q0 : wr.cell? ⟨wo.heap.size, 0, none⟩ = some (.int .i64 x.1) := (hbx.cell (by simp)).trans (by simp)
            by_cases hd : o % x.1 = 0
            · have t1 : (o % x.1 == 0) = true := by rw [beq_iff_eq]; exact hd
              have hd := Lib.hid hd
              have d0 : 0 ≤ o / x.1 := Int.ediv_nonneg (by omega) (by omega)
              have d1 : o / x.1 ≤ o := Int.ediv_le_self _ (by omega)
              have hP : powS a (o / x.1) n = (a ^ (o / x.1).toNat) % n := powS_yes h1 (by omega) d0
              go_wp2_with fail
              refine (pow_any a (o / x.1) n _ (by omega)).mono ?_; rintro e w5 ⟨rfl, g5⟩
              have hby := hbx.trans g5
              by_cases hq : (a ^ (o / x.1).toNat) % n = 1
              · have t2 : (powS a (o / x.1) n == 1) = true := by rw [hP, beq_iff_eq]; exact hq
                obtain ⟨⟨k', hN'⟩, l1, l2⟩ := hC.take he.out e1 x2 hd.out (by rw [one]; exact hq)
                have q1 : w5.cell? ⟨wo.heap.size, 0, none⟩ = some (.int .i64 x.1) := (hby.cell (by simp)).trans (by simp)
                clear hq hP
                generalize powS a (o / x.1) n = y at *
                go_wp2
                go_roundw
                case rel => exact ⟨_, _, hN', rfl, hby⟩
                case measure => simp [intOf]; omega
              · have t2 : (powS a (o / x.1) n == 1) = false := by rw [hP, beq_eq_false_iff_ne]; exact hq
                have hN' := hC.next he.out e1 hx.out x2 fun hc => hq (by rw [one] at hc; exact hc.2)
                clear hq hP
                generalize powS a (o / x.1) n = y at *
                go_wp2
                go_roundw
                case rel => exact ⟨_, _, i + 1, hN', rfl, by simp, (hb.alloc _).trans hby⟩
                case measure => simp [intOf]; omega
            · have t1 : (o % x.1 == 0) = false := by rw [beq_eq_false_iff_ne]; exact hd
              have hN' := hC.next he.out e1 hx.out x2 fun hc => hd hc.1
              clear hd
              go_wp2
              go_roundw
              case rel => exact ⟨_, _, i + 1, hN', rfl, by simp, (hb.alloc _).trans hbx⟩
              case measure => simp [intOf]; omega
        · have hD := Lib.hid (hC.done hI.out hi)
          go_wp2
          go_ret
          exact ⟨ret_i64 (hD.out.trans hO.out.symm), b4.trans hb⟩
  · have hO := Lib.hid (ordS_eq h1 h2 (ord_none h1 hg))
    have t0 : (gcdS (a % n) n != 1) = true := by rw [hgs, bne_iff_ne]; exact hg
    have hms := Lib.hid hms
    clear hg hgs
    go_enter Tryd.func16, Tryd.ntmps16
    go_wp2_with fail
    refine (isFactored_yes n _ h1 h2).mono ?_; rintro e w1 ⟨rfl, rfl⟩
    go_wp2_with fail
    refine (mul_any a 1 n _).mono ?_; rintro e w1 ⟨rfl, g1⟩
    rw [hms.out]
    go_wp2_with fail
    refine (gcd_any (a % n) n _ (by omega) (by omega)).mono ?_; rintro e w2 ⟨rfl, g2⟩
    go_wp2
    go_ret
    exact ⟨ret_i64 hO.out.symm, g1.trans g2⟩
end Go.Proofs.YtcglffigbdglpaaDoor
