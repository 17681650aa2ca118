/- The reference's Factor (layer 2), by trying all divisors, gives the document's primes and how often each divides. -/
import Derived.Test.YtcglffigbdglpaaDoorProg
import Derived.Test.YtcglffigbdglpaaDoorNum
import Derived.Test.YtcglffigbdglpaaDoorBase
namespace Go.Proofs.YtcglffigbdglpaaDoor
open Go.RowKit Dia

/-- a list of primes as it lies in memory -/
def facCells (l : List (Int × Nat)) : List Value := l.flatMap fun x => [.int .i64 x.1, .int .i64 (x.2 : Int)]
theorem facCells_append (l : List (Int × Nat)) (p : Int) (e : Nat) : facCells (l ++ [(p, e)]) = facCells l ++ [.int .i64 p, .int .i64 (e : Int)] := by simp [facCells]

theorem refPower_info : (Tryd.prog.info? 32).map (fun i => (i.zero, i.size, i.bytes)) = some (some (.agg #[.int .i64 0, .int .i64 0]), 2, 16) := by kernel_rfl

set_option maxHeartbeats 1000000 in
theorem refFactor_any (n : Int) (w : World) (hn : n ≤ 9223372036854775807) :
    Calls Tryd.prog 15 #[.int .i64 n] w fun e w' => (∃ v, e = .returned v ∧ w'.ownsRow w.heap.size 32 2 v (facS n).length (facCells (facS n))) ∧ Bel w w' := by
  by_cases h1 : 1 ≤ n
  · by_cases h2 : n ≤ 1099511627776
    · have h1' : ¬ n < 1 := by omega
      have h2' : ¬ 1099511627776 < n := by omega
      have hS := FacInv.start h1
      obtain ⟨i0, hi, hz0, hz1, hz2⟩ := info_parts refPower_info
      go_enter Tryd.func15, Tryd.ntmps15
      go_wp2
      go_loopw [0, 3, 4, 5] (fun a b c _ wr => ∃ (m d : Int) (l : List (Int × Nat)), FacInv n m d l ∧ a = .int .i64 m ∧ c = .int .i64 d ∧ d ≤ n + 2 ∧ wr.ownsRow w.heap.size 32 2 b l.length (facCells l) ∧ Bel w wr) (fun a _ c _ _ => (intOf a + n + 2 - intOf c).toNat)
      case atStart => exact ⟨_, _, [], hS, rfl, rfl, by omega, ⟨rfl, Or.inl ⟨rfl, rfl⟩⟩, Bel.refl _⟩
      case round =>
        obtain ⟨m, d, l, hI, rfl, rfl, hd, hown, hb⟩ := hrel
        have m1 := hI.n1
        have d2 := hI.d2
        have ml := hI.le
        have t1 : (d == 0) = false := by rw [beq_eq_false_iff_ne]; omega
        by_cases hle : d ≤ m / d
        · by_cases hm : m % d = 0
          · have t2 : (m % d == 0) = true := by rw [beq_iff_eq]; exact hm
            have t3 : (m % d != 0) = false := by rw [bne_eq_false_iff_eq]; exact hm
            have HM := Lib.hid hm; clear hm
            have hdm : d ≤ m := by
              have := Int.mul_le_of_le_ediv (by omega) hle
              have : d * 2 ≤ d * d := Int.mul_le_mul_of_nonneg_left d2 (by omega)
              omega
            obtain ⟨wo, rfl⟩ : ∃ wo : World, wo = wr := ⟨_, rfl⟩
            go_wp2
            go_loopw [0] (fun a wx => ∃ (m' : Int) (e : Nat), DivInv m d m' e ∧ (e = 0 → m' = m) ∧ a = .int .i64 m' ∧ wx = wo.alloc (Obj.cells #[Value.int IntKind.i64 d, Value.int IntKind.i64 (e : Int)] 32)) (fun a _ => (intOf a).toNat)
            case atStart => exact ⟨m, 0, DivInv.start m1, fun _ => rfl, rfl, rfl⟩
            case round =>
              obtain ⟨m', e, hD, he0, rfl, rfl⟩ := hrel
              have k1 := hD.m1
              have kl := hD.le
              have ke := hD.bound d2
              by_cases hm' : m' % d = 0
              · obtain ⟨hN, hlt⟩ := hD.step d2 hm'
                have t4 : (m' % d == 0) = true := by rw [beq_iff_eq]; exact hm'
                have q0 := hN.m1
                clear hm' he0
                go_wp2
                go_roundw
                case rel => exact ⟨_, e + 1, hN, by omega, rfl, by simp⟩
                case measure => simp [intOf]; omega
              · have he : 1 ≤ e := by
                  refine Classical.byContradiction fun hc => hm' ?_
                  rw [he0 (by omega)]; exact HM.out
                have hN := hI.take HM.out hD he hm'
                have t4 : (m' % d == 0) = false := by rw [beq_eq_false_iff_ne]; exact hm'
                clear hm' he0
                have hl := hI.len h2
                go_wp2_with (at_builtin; refine wpList_append_own _ rfl _ _ 28 rfl w.heap.size 32 i0 (.agg #[.int .i64 0, .int .i64 0]) 2 16 Tryd.underlying28 hi hz0 hz1 hz2 rfl (by decide) _ _ _ rfl ((hown.alloc _).alloc _) ⟨wo.heap.size + 1, 0, none⟩ 1 1 [.int .i64 d, .int .i64 (e : Int)] rfl rfl ?c1 ?c2 ?c3 ?c4 ?c5 ?_)
                case c1 =>
                  intro j u hj
                  match j, hj with
                  | 0, hj => simp at hj; subst hj; simp [Addr.add]
                  | 1, hj => simp at hj; subst hj; simp [Addr.add]
                  | j + 2, hj => simp at hj
                case c2 => intro u hu; simp at hu; rcases hu with rfl | rfl <;> rfl
                case c3 => unfold maxLen; omega
                case c4 => omega
                case c5 => have := hb.size; simp; omega
                intro v' w1 hown1 hgrow _
                have hb1 := (((hb.alloc _).alloc _).grown hgrow (ownsRow_block hown))
                rw [← facCells_append] at hown1
                go_wp2
                go_roundw
                case rel => exact ⟨_, _, _, hN, rfl, rfl, by omega, by simpa using hown1, hb1⟩
                case measure => simp [intOf]; omega
          · have hN := hI.skip hm
            have t3 : (m % d != 0) = true := by rw [bne_iff_ne]; exact hm
            clear hm
            have hdm : d ≤ m := by
              have := Int.mul_le_of_le_ediv (by omega) hle
              have : d * 2 ≤ d * d := Int.mul_le_mul_of_nonneg_left d2 (by omega)
              omega
            go_wp2
            go_roundw
            case rel => exact ⟨_, _, _, hN, rfl, rfl, by omega, hown, hb⟩
            case measure => simp [intOf]; omega
        · have hlt : m / d < d := by omega
          by_cases hm1 : 1 < m
          · have hl := hI.len h2
            have hF := Lib.hid (facS_eq h1 h2 (hI.last hlt hm1))
            go_wp2_with (at_builtin; refine wpList_append_own _ rfl _ _ 28 rfl w.heap.size 32 i0 (.agg #[.int .i64 0, .int .i64 0]) 2 16 Tryd.underlying28 hi hz0 hz1 hz2 rfl (by decide) _ _ _ rfl (hown.alloc _) ⟨wr.heap.size, 0, none⟩ 1 1 [.int .i64 m, .int .i64 1] rfl rfl ?d1 ?d2 ?d3 ?d4 ?d5 ?_)
            case d2 => exact ⟨rfl, rfl⟩
            case d3 => unfold maxLen; omega
            case d4 => omega
            case d5 => have := hb.size; omega
            intro v' w1 hown1 hgrow _
            have hb1 := ((hb.alloc _).grown hgrow (ownsRow_block hown))
            have hown2 : w1.ownsRow w.heap.size 32 2 v' (facS n).length (facCells (facS n)) := by
              rw [hF.out, facCells_append]; simpa using hown1
            clear hown1
            go_wp2
            go_ret
            exact ⟨⟨_, rfl, hown2⟩, hb1⟩
          · have hF := Lib.hid (facS_eq h1 h2 (hI.none hm1))
            rw [← hF.out] at hown
            go_wp2
            go_ret
            exact ⟨⟨_, rfl, hown⟩, hb⟩
    · have hE := Lib.hid (facS_no (n := n) (by omega))
      rw [hE.out]
      have h1' : ¬ n < 1 := by omega
      have h2' : 1099511627776 < n := by omega
      go_enter Tryd.func15, Tryd.ntmps15
      go_wp2
      go_ret
      exact ⟨⟨_, rfl, rfl, Or.inl ⟨rfl, rfl⟩⟩, Bel.refl _⟩
  · have hE := Lib.hid (facS_no (n := n) (by omega))
    rw [hE.out]
    have h1' : n < 1 := by omega
    go_enter Tryd.func15, Tryd.ntmps15
    go_wp2
    go_ret
    exact ⟨⟨_, rfl, rfl, Or.inl ⟨rfl, rfl⟩⟩, Bel.refl _⟩

end Go.Proofs.YtcglffigbdglpaaDoor
