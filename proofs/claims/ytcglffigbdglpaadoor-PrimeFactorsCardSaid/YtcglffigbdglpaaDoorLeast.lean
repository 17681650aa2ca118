/- prime.leastDivisor. -/
import Derived.Test.YtcglffigbdglpaaDoorIs
import Derived.Test.YtcglffigbdglpaaDoorFacB
namespace Go.Proofs.YtcglffigbdglpaaDoor
open Go.RowKit Dia

theorem leastDivisor_any (m d : Int) (w : World) (hb : Bases w) (hm : 2 ≤ m) (hm2 : m ≤ 1099511627776) (hI : LeastInv m d d) :
    Calls Tryd.prog 25 #[.int .i64 m, .int .i64 d] w fun e w' => ∃ L, e = .returned (.int .i64 L) ∧ LeastOf m d L ∧ Bel w w' := by
  by_cases hp : isB m = true
  · have hL := Lib.hid (hI.prime hm (by omega) hp)
    have HP := Lib.hid hp; clear hp
    go_enter Tryd.func25, Tryd.ntmps25
    go_wp2_with fail
    refine (is_any m _ hb).mono ?_; rintro e w1 ⟨rfl, g1⟩
    rw [HP.out]
    go_wp2
    go_ret
    exact ⟨_, rfl, hL.out, g1⟩
  · have HP := Lib.hid (Bool.eq_false_iff.2 hp)
    clear hp
    go_enter Tryd.func25, Tryd.ntmps25
    go_wp2_with fail
    refine (is_any m _ hb).mono ?_; rintro e w1 ⟨rfl, g1⟩
    rw [HP.out]
    go_wp2
    go_loop [1] (fun v => ∃ c : Int, LeastInv m d c ∧ v = .int .i64 c) (fun v => (m - intOf v).toNat)
    case atStart => exact ⟨d, hI, rfl⟩
    case round =>
      obtain ⟨c, hC, rfl⟩ := hrel
      have c2 := hC.two
      have cm := hC.le
      have t0 : (c == 0) = false := by rw [beq_eq_false_iff_ne]; omega
      by_cases hd : m % c = 0
      · have hL := Lib.hid (hC.found (by omega) hd)
        have t1 : (m % c != 0) = false := by rw [bne_eq_false_iff_eq]; exact hd
        clear hd
        go_wp2
        go_ret
        exact ⟨_, rfl, hL.out, g1⟩
      · have t1 : (m % c != 0) = true := by rw [bne_iff_ne]; exact hd
        have hlt := hC.lt hd
        by_cases h2 : 2 < c
        · have hN := Lib.hid (hC.next hd h2)
          clear hd
          go_wp2
          go_round
          case rel => exact ⟨_, hN.out, rfl⟩
          case measure => simp [intOf]; omega
        · have e2 : c = 2 := by omega
          subst e2
          have hN := Lib.hid (hC.two_next hd)
          clear hd
          go_wp2
          go_round
          case rel => exact ⟨_, hN.out, rfl⟩
          case measure => simp [intOf]; omega
end Go.Proofs.YtcglffigbdglpaaDoor
