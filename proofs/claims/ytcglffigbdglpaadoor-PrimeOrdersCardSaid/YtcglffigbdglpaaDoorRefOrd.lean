/- The reference's Order and Root (layer 2), by multiplying again and again, are the document's. -/
import Derived.Test.YtcglffigbdglpaaDoorRefMul
import Derived.Test.YtcglffigbdglpaaDoorRefIs
namespace Go.Proofs.YtcglffigbdglpaaDoor
open Go.RowKit Dia

theorem refOrder_any (a n : Int) (w : World) :
    Calls Tryd.prog 17 #[.int .i64 a, .int .i64 n] w fun e w' => e = .returned (.int .i64 (ordS a n)) ∧ w = w' := by
  by_cases h1 : 1 ≤ n
  · by_cases h2 : n ≤ 1099511627776
    · have h1' : ¬ n < 1 := by omega
      have h2' : ¬ 1099511627776 < n := by omega
      have h3 : n ≤ 4611686018427387904 := by omega
      have hS := OrdInv.start (a := a) h1
      go_enter Tryd.func17, Tryd.ntmps17
      go_wp2_with fail
      refine (rest_any 1 n _ h1 h3).mono ?_; rintro e w1 ⟨rfl, rfl⟩
      go_wp2_with fail
      refine (rest_any a n _ h1 h3).mono ?_; rintro e w1 ⟨rfl, rfl⟩
      go_wp2_with fail
      go_loop [7, 8] (fun u v => ∃ x e : Int, OrdInv a n x e ∧ u = .int .i64 x ∧ v = .int .i64 e) (fun _ v => (n + 1 - intOf v).toNat)
      case atStart => exact ⟨_, _, hS, rfl, rfl⟩
      case round =>
        obtain ⟨x, e, hI, rfl, rfl⟩ := hrel
        have e1 := hI.e1
        have e2 := hI.e2
        by_cases hle : e ≤ n
        · by_cases hx : x = 1 % n
          · have hE := Lib.hid (ordS_eq h1 h2 (hI.found hx))
            have t1 : (x == 1 % n) = true := by rw [beq_iff_eq]; exact hx
            clear hx
            go_wp2
            go_ret
            exact ⟨ret_i64 hE.out.symm, rfl⟩
          · have hN := hI.next hle hx
            rw [← mulS_yes h1 h3] at hN
            have t1 : (x == 1 % n) = false := by rw [beq_eq_false_iff_ne]; exact hx
            clear hx
            go_wp2_with fail
            refine (refMul_any x (a % n) n _).mono ?_; rintro r w1 ⟨rfl, rfl⟩
            go_wp2
            go_round
            case rel => exact ⟨_, _, hN, rfl, rfl⟩
            case measure => simp [intOf]; omega
        · have hE := Lib.hid (ordS_eq h1 h2 (hI.none h1 hle))
          go_wp2
          go_ret
          exact ⟨ret_i64 hE.out.symm, rfl⟩
    · have hE := Lib.hid (ordS_no (a := a) (n := n) (by omega))
      rw [hE.out]
      have h1' : ¬ n < 1 := by omega
      have h2' : 1099511627776 < n := by omega
      go_enter Tryd.func17, Tryd.ntmps17
      go_wp2
      go_ret
      exact ⟨rfl, rfl⟩
  · have hE := Lib.hid (ordS_no (a := a) (n := n) (by omega))
    rw [hE.out]
    have h1' : n < 1 := by omega
    go_enter Tryd.func17, Tryd.ntmps17
    go_wp2
    go_ret
    exact ⟨rfl, rfl⟩

theorem refRoot_any (p : Int) (w : World) (hp0 : -9223372036854775808 ≤ p) (hp : p ≤ 9223372036854775807) :
    Calls Tryd.prog 19 #[.int .i64 p] w fun e w' => e = .returned (.int .i64 (rootS p)) ∧ w = w' := by
  by_cases h1 : IsP p
  · by_cases h2 : p ≤ 1099511627776
    · have hB := Lib.hid (primeB_yes h1 (by omega))
      have p2 := h1.1
      have H1 := Lib.hid h1; clear h1
      have h2' : ¬ 1099511627776 < p := by omega
      go_enter Tryd.func19, Tryd.ntmps19
      go_wp2_with fail
      refine (refIs_any p _ hp).mono ?_; rintro e w1 ⟨rfl, rfl⟩
      rw [hB.out]
      go_wp2_with fail
      go_loop [4, 5] (fun v _ => ∃ g : Int, 1 ≤ g ∧ g ≤ p ∧ v = .int .i64 g ∧ Hid (∀ k, 1 ≤ k → k < g → ordS k p ≠ p - 1)) (fun v _ => (p - intOf v).toNat)
      case atStart => exact ⟨1, by omega, by omega, rfl, Lib.hid fun k k1 k2 => by omega⟩
      case round =>
        obtain ⟨g, g1, gp, rfl, hno⟩ := hrel
        by_cases hlt : g < p
        · by_cases he : ordS g p = p - 1
          · have hR := Lib.hid (rootS_eq H1.out h2 (Or.inl ⟨g1, hlt, he, hno.out⟩))
            have HE := Lib.hid he; clear he
            go_wp2_with fail
            refine (refOrder_any g p _).mono ?_; rintro e w1 ⟨rfl, rfl⟩
            rw [HE.out]
            go_wp2
            go_ret
            exact ⟨ret_i64 hR.out.symm, rfl⟩
          · have hN : Hid (∀ k, 1 ≤ k → k < g + 1 → ordS k p ≠ p - 1) := Lib.hid fun k k1 k2 => by
              by_cases hk : k = g
              · rw [hk]; exact he
              · exact hno.out k k1 (by omega)
            have t1 : (ordS g p == p - 1) = false := by rw [beq_eq_false_iff_ne]; exact he
            clear he
            go_wp2_with fail
            refine (refOrder_any g p _).mono ?_; rintro e w1 ⟨rfl, rfl⟩
            go_wp2
            go_round
            case rel => exact ⟨g + 1, by omega, by omega, by go_num, hN⟩
            case measure => simp [intOf]; omega
        · have hR := Lib.hid (rootS_eq H1.out h2 (Or.inr ⟨rfl, fun k k1 k2 => hno.out k k1 (by omega)⟩))
          go_wp2
          go_ret
          exact ⟨ret_i64 hR.out.symm, rfl⟩
    · have hB := Lib.hid (rootS_no (p := p) fun h => h2 h.2)
      rw [hB.out]
      have h2' : 1099511627776 < p := by omega
      by_cases hm : p ≤ 4611686018427387904
      · have hC := Lib.hid (primeB_yes h1 hm)
        clear h1
        go_enter Tryd.func19, Tryd.ntmps19
        go_wp2_with fail
        refine (refIs_any p _ hp).mono ?_; rintro e w1 ⟨rfl, rfl⟩
        rw [hC.out]
        go_wp2
        go_ret
        exact ⟨rfl, rfl⟩
      · have hC := Lib.hid (primeB_no (n := p) fun h => hm h.2)
        clear h1
        go_enter Tryd.func19, Tryd.ntmps19
        go_wp2_with fail
        refine (refIs_any p _ hp).mono ?_; rintro e w1 ⟨rfl, rfl⟩
        rw [hC.out]
        go_wp2
        go_ret
        exact ⟨rfl, rfl⟩
  · have hB := Lib.hid (rootS_no (p := p) fun h => h1 h.1)
    have hC := Lib.hid (primeB_no (n := p) fun h => h1 h.1)
    clear h1
    rw [hB.out]
    go_enter Tryd.func19, Tryd.ntmps19
    go_wp2_with fail
    refine (refIs_any p _ hp).mono ?_; rintro e w1 ⟨rfl, rfl⟩
    rw [hC.out]
    go_wp2
    go_ret
    exact ⟨rfl, rfl⟩

end Go.Proofs.YtcglffigbdglpaaDoor
