/- prime.passes is the strong test by one base. -/
import Derived.Test.YtcglffigbdglpaaDoorPow
import Derived.Test.YtcglffigbdglpaaDoorSpec2
namespace Go.Proofs.YtcglffigbdglpaaDoor
open Go.RowKit Dia

theorem passes_dr (n b : Int) (w : World) (h1 : 3 ≤ n) (h2 : n ≤ 4611686018427387904) :
    Calls Tryd.prog 23 #[.int .i64 n, .int .i64 b] w fun e w' => e = .returned (.bool (strongB n b)) ∧ Dr w w' := by
  have hS := Lib.hid (OddInv.start h1)
  go_enter Tryd.func23, Tryd.ntmps23
  go_wp2
  go_loop [5] (fun v => ∃ s d : Nat, OddInv n s d ∧ v = .int .i64 (d : Int)) (fun v => (intOf v).toNat)
  case atStart => exact ⟨0, _, hS.out, by rw [Int.toNat_of_nonneg (by omega)]⟩
  case round =>
    obtain ⟨s, d, hI, rfl⟩ := hrel
    have d1 := hI.pos
    have d2 := hI.le
    by_cases hd : d % 2 = 0
    · have hN := hI.half hd
      have t1 : ((d : Int) % 2 == 0) = true := by rw [beq_iff_eq]; omega
      have e1 : ((d / 2 : Nat) : Int) = (d : Int) / 2 := by omega
      clear hd
      go_wp2
      go_round
      case rel => exact ⟨_, _, hN, by rw [e1]⟩
      case measure => simp [intOf]; omega
    · have t1 : ((d : Int) % 2 == 0) = false := by rw [beq_eq_false_iff_ne]; omega
      have hodd : d % 2 = 1 := by omega
      clear hd
      go_wp2_with fail
      refine (pow_dr b (d : Int) n _ (by omega)).mono ?_; rintro e w1 ⟨rfl, g1⟩
      have hP : powS b (d : Int) n = (b ^ d) % n := by rw [powS_yes (by omega) h2 (by omega)]; simp
      rw [hP]
      by_cases hx : (b ^ d) % n = 1
      · have hB := Lib.hid (hI.yes hodd hx)
        have t2 : ((b ^ d) % n == 1) = true := by rw [beq_iff_eq]; exact hx
        clear hx hP
        generalize (b ^ d) % n = y at *
        go_wp2
        go_ret
        exact ⟨ret_bool hB.out.symm, g1⟩
      · have t2 : ((b ^ d) % n == 1) = false := by rw [beq_eq_false_iff_ne]; exact hx
        have hx := Lib.hid hx
        have hS0 := SqInv.start (b := b) hI
        clear hP
        go_wp2_with fail
        go_loopw [6, 7] (fun u v wr => ∃ (r : Nat) (E x : Int), SqInv n b s d r E x ∧ u = .int .i64 x ∧ v = .int .i64 E ∧ Dr w wr) (fun _ v _ => (n - intOf v).toNat)
        case atStart => exact ⟨0, _, _, hS0, rfl, rfl, g1⟩
        case round =>
          obtain ⟨r, E, x, hQ, rfl, rfl, g⟩ := hrel
          have q1 := hQ.e1
          by_cases hr : r < s
          · have q2 := hQ.lt hI hr
            have q3 : E < n - 1 := by omega
            by_cases hxx : x = n - 1
            · have hB := Lib.hid (hQ.yes hI hodd hr hxx)
              have t3 : (x == n - 1) = true := by rw [beq_iff_eq]; exact hxx
              clear hxx
              go_wp2
              go_ret
              exact ⟨ret_bool hB.out.symm, g⟩
            · have hN := hQ.next hr hxx
              rw [← mulS_yes (by omega) h2] at hN
              have t3 : (x == n - 1) = false := by rw [beq_eq_false_iff_ne]; exact hxx
              clear hxx
              go_wp2_with fail
              refine (mul_dr x x n _).mono ?_; rintro e w2 ⟨rfl, g2⟩
              go_wp2
              go_roundw
              case rel => exact ⟨_, _, _, hN, rfl, rfl, g.trans g2⟩
              case measure => simp [intOf]; omega
          · have hB := Lib.hid (hQ.none hI hodd hr hx.out)
            have q3 : ¬ E < n - 1 := by have := hQ.last hI hr; omega
            go_wp2
            go_ret
            exact ⟨ret_bool hB.out.symm, g⟩
theorem passes_any (n b : Int) (w : World) (h1 : 3 ≤ n) (h2 : n ≤ 4611686018427387904) :
    Calls Tryd.prog 23 #[.int .i64 n, .int .i64 b] w fun e w' => e = .returned (.bool (strongB n b)) ∧ Bel w w' :=
  (passes_dr n b w h1 h2).mono fun _ _ ⟨h, g⟩ => ⟨h, g.bel⟩

end Go.Proofs.YtcglffigbdglpaaDoor
