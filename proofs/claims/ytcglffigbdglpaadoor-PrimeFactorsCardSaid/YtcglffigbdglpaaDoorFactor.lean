/- prime.Factor: a slice of structs: the primes (as the test has them) and how often each divides. -/
import Derived.Test.YtcglffigbdglpaaDoorLeast
import Derived.Test.YtcglffigbdglpaaDoorRefFac
import Derived.Test.YtcglffigbdglpaaDoorOwn
namespace Go.Proofs.YtcglffigbdglpaaDoor
open Go.RowKit Dia

theorem isFactored_any (n : Int) (w : World) :
    Calls Tryd.prog 24 #[.int .i64 n] w fun e w' => e = .returned (.bool (decide (1 ≤ n) && decide (n ≤ 1099511627776))) ∧ w = w' := by
  by_cases h1 : 1 ≤ n
  · by_cases h2 : n ≤ 1099511627776
    · go_enter Tryd.func24, Tryd.ntmps24
      go_wp2
      go_ret
      exact ⟨ret_bool (by simp [h1, h2]), rfl⟩
    · go_enter Tryd.func24, Tryd.ntmps24
      go_wp2
      go_ret
      exact ⟨ret_bool (by simp [h2]), rfl⟩
  · go_enter Tryd.func24, Tryd.ntmps24
    go_wp2
    go_ret
    exact ⟨ret_bool (by rw [decide_eq_false (p := 1 ≤ n) (by omega)]; rfl), rfl⟩
theorem isFactored_yes (n : Int) (w : World) (h1 : 1 ≤ n) (h2 : n ≤ 1099511627776) :
    Calls Tryd.prog 24 #[.int .i64 n] w fun e w' => e = .returned (.bool true) ∧ w = w' :=
  (isFactored_any n w).mono fun e w' ⟨h, k⟩ => ⟨h.trans (ret_bool (by simp [h1, h2])), k⟩
theorem isFactored_no (n : Int) (w : World) (h : n < 1 ∨ 1099511627776 < n) :
    Calls Tryd.prog 24 #[.int .i64 n] w fun e w' => e = .returned (.bool false) ∧ w = w' :=
  (isFactored_any n w).mono fun e w' ⟨h', k⟩ => ⟨h'.trans (ret_bool (by
    rcases h with h | h
    · have : ¬ 1 ≤ n := by omega
      simp [this]
    · have : ¬ n ≤ 1099511627776 := by omega
      simp [this])), k⟩

theorem Bases.block {w : World} (h : Bases w) : 0 < w.heap.size := World.block_lt_of_cell? w _ h.c0
theorem Bases.bel {w w' : World} (h : Bases w) (g : Bel w w') : Bases w' := by
  have hb := h.block
  obtain ⟨c0, c1, c2, c3, c4, c5, c6, c7, c8, c9, c10, c11⟩ := h
  constructor <;> (rw [g.cell hb]; assumption)

theorem power_info : (Tryd.prog.info? 31).map (fun i => (i.zero, i.size, i.bytes)) = some (some (.agg #[.int .i64 0, .int .i64 0]), 2, 16) := by kernel_rfl

set_option maxHeartbeats 1000000 in
theorem factor_yes (n : Int) (w : World) (hB : Bases w) (h1 : 1 ≤ n) (h2 : n ≤ 1099511627776) :
    Calls Tryd.prog 14 #[.int .i64 n] w fun e w' => ∃ v l, e = .returned v ∧ IsFacB n l ∧ w'.ownsRow w.heap.size 31 2 v l.length (facCells l) ∧ Bel w w' := by
  have hS := FacBInv.start h1
  obtain ⟨i0, hi, hz0, hz1, hz2⟩ := info_parts power_info
  go_enter Tryd.func14, Tryd.ntmps14
  go_wp2_with fail
  refine (isFactored_yes n _ h1 h2).mono ?_; rintro e w1 ⟨rfl, rfl⟩
  go_wp2_with fail
  go_loopw [0, 3, 4] (fun a b c wr => ∃ (m d : Int) (l : List (Int × Nat)), FacBInv n m d l ∧ a = .int .i64 m ∧ c = .int .i64 d ∧ wr.ownsRow w.heap.size 31 2 b l.length (facCells l) ∧ Bel w wr) (fun a _ _ _ => (intOf a).toNat)
  case atStart => exact ⟨_, _, [], hS, rfl, rfl, ⟨rfl, Or.inl ⟨rfl, rfl⟩⟩, Bel.refl _⟩
  case round =>
    obtain ⟨m, d, l, hI, rfl, rfl, hown, hb⟩ := hrel
    have m1 := hI.n1
    have ml := hI.le
    by_cases hm1 : 1 < m
    · have hLI := hI.least hm1
      go_wp2_with fail
      refine (leastDivisor_any m d _ (hB.bel hb) (by omega) (by omega) hLI).mono ?_; rintro e w1 ⟨L, rfl, hL, g1⟩
      have hb1 := hb.trans g1
      have L2 := hL.two
      have hmL := Lib.hid hL.dvd
      have hown1 := ownsRow_bel hown g1
      clear hown
      have hlen := hI.len h2
      go_wp2_with fail
      go_loopw [0, 5] (fun a b wx => ∃ (m' : Int) (e : Nat), DivInv m L m' e ∧ (e = 0 → m' = m) ∧ a = .int .i64 m' ∧ b = .int .i64 (e : Int) ∧ wx = w1) (fun a _ _ => (intOf a).toNat)
      case atStart => exact ⟨m, 0, DivInv.start m1, fun _ => rfl, rfl, rfl, rfl⟩
      case round =>
        obtain ⟨m', e, hD, he0, rfl, rfl, rfl⟩ := hrel
        have k1 := hD.m1
        have kl := hD.le
        have ke := hD.bound L2
        have t0 : (L == 0) = false := by rw [beq_eq_false_iff_ne]; omega
        by_cases hm' : m' % L = 0
        · obtain ⟨hN, hlt⟩ := hD.step L2 hm'
          have t4 : (m' % L == 0) = true := by rw [beq_iff_eq]; exact hm'
          have q0 := hN.m1
          clear hm' he0
          go_wp2
          go_roundw
          case rel => exact ⟨_, e + 1, hN, by omega, rfl, by simp, trivial⟩
          case measure => simp [intOf]; omega
        · have he : 1 ≤ e := by
            refine Classical.byContradiction fun hc => hm' ?_
            rw [he0 (by omega)]; exact hmL.out
          have hN := hI.take hL hD he hm'
          have t4 : (m' % L == 0) = false := by rw [beq_eq_false_iff_ne]; exact hm'
          have hlt : m' < m := by
            have h5 := hD.eq
            refine Classical.byContradiction fun hc => hm' ?_
            have : m' = m := by omega
            rw [this]; exact hmL.out
          clear hm' he0
          go_wp2_with (at_builtin; refine wpList_append_own _ rfl _ _ 26 rfl w.heap.size 31 i0 (.agg #[.int .i64 0, .int .i64 0]) 2 16 Tryd.underlying26 hi hz0 hz1 hz2 rfl (by decide) _ _ _ rfl (hown1.alloc _) ⟨wr.heap.size, 0, none⟩ 1 1 [.int .i64 L, .int .i64 (e : Int)] rfl rfl ?c1 ?c2 ?c3 ?c4 ?c5 ?_)
          case c1 =>
            intro j u hj
            match j, hj with
            | 0, hj => simp at hj; subst hj; simp [Addr.add]
            | 1, hj => simp at hj; subst hj; simp [Addr.add]
            | j + 2, hj => simp at hj
          case c2 => intro u hu; simp at hu; rcases hu with rfl | rfl <;> rfl
          case c3 => unfold maxLen; omega
          case c4 => omega
          case c5 => have := hb1.size; simp; omega
          intro v' w2 hown2 hgrow _
          have hb2 := ((hb1.alloc _).grown hgrow (ownsRow_block hown1))
          have hown3 : w2.ownsRow w.heap.size 31 2 v' (l ++ [(L, e)]).length (facCells (l ++ [(L, e)])) := by
            rw [facCells_append]; simpa using hown2
          clear hown1 hown2
          go_wp2
          go_roundw
          case rel => exact ⟨_, _, _, hN, rfl, rfl, hown3, hb2⟩
          case measure => simp [intOf]; omega
    · have hF := Lib.hid (hI.done hm1)
      go_wp2
      go_ret
      exact ⟨_, rfl, _, hF.out, hown, hb⟩
theorem factor_no (n : Int) (w : World) (h : n < 1 ∨ 1099511627776 < n) :
    Calls Tryd.prog 14 #[.int .i64 n] w fun e w' => e = .returned (.slice none 0 0) ∧ w = w' := by
  go_enter Tryd.func14, Tryd.ntmps14
  go_wp2_with fail
  refine (isFactored_no n _ h).mono ?_; rintro e w1 ⟨rfl, rfl⟩
  go_wp2
  go_ret
  exact ⟨rfl, rfl⟩
end Go.Proofs.YtcglffigbdglpaaDoor
