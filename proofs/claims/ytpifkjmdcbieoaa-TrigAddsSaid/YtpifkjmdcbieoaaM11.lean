/- Merged texts: Turned5, LTrigTurned0, Regs5, Circ5, LTrigCircle0, RemReg5, LTrigAdds0. -/
import Derived.Test.YtpifkjmdcbieoaaM10
import Derived.Test.YtpifkjmdcbieoaaM9
import Derived.Test.YtpifkjmdcbieoaaM8
import Derived.Test.YtpifkjmdcbieoaaM4
import Derived.Deep.DeepCutAuto
/- What parts of a turn that hang together have in common, in numbers (layer 5). -/
namespace Go.Proofs.Ytpifkjmdcbieoaa
open Go.RowKit

/-- the numbers of a state's words -/
structure NumW (W : W4) (a b c d : Int) : Prop where
  na : Flt.Num W.a a
  nb : Flt.Num W.b b
  nc : Flt.Num W.c c
  nd : Flt.Num W.d d
  zc : a = 0 → b = 0
  zs : c = 0 → d = 0
theorem opp_num {x y : Nat} {a b : Int} (hx : Flt.Num x a) (hy : Flt.Num y b) (hz : a = 0 → b = 0) : Flt.Num (oppA x) (-a) ∧ Flt.Num (oppB x y) (-b) := by
  unfold oppA oppB
  by_cases c : Flt.vI x = 0
  · rw [if_pos c, if_pos c]
    have h0 : a = 0 := hx.val.symm.trans c
    rw [h0, hz h0]
    exact ⟨num_zero_k, num_zero_k⟩
  · rw [if_neg c, if_neg c]
    exact ⟨num_neg hx, num_neg hy⟩
theorem NumW.rot {W : W4} {a b c d : Int} (h : NumW W a b c d) : NumW (rotW W) (-c) (-d) a b := by
  obtain ⟨h1, h2⟩ := opp_num h.nc h.nd h.zs
  exact ⟨h1, h2, h.na, h.nb, fun e => by have := h.zs (by omega); omega, h.zc⟩
theorem NumW.swap {W : W4} {a b c d : Int} (h : NumW W a b c d) : NumW (swapW W) c d a b := ⟨h.nc, h.nd, h.na, h.nb, h.zs, h.zc⟩
theorem NumW.of {C S : Rat} {W : W4} (h : WSt C S W) : ∃ a b c d, NumW W a b c d := by
  obtain ⟨_, _, d1, d2, _, _⟩ := h.ex
  obtain ⟨H, L, n1, n2, t1, _⟩ := d1.ex
  obtain ⟨H', L', n3, n4, t2, _⟩ := d2.ex
  exact ⟨H, L, H', L', n1, n2, n3, n4, tame_zero t1, tame_zero t2⟩
theorem NumW.same {W : W4} {a b c d a' b' c' d' : Int} (h : NumW W a b c d) (e1 : a = a') (e2 : b = b') (e3 : c = c') (e4 : d = d') : NumW W a' b' c' d' := by subst e1 e2 e3 e4; exact h
/-- by octant -/
theorem ex_num {F : Int → Int → W4} {k n r o : Int} {a b c d : Int} (hr : octR k n = r) (ho : octO k n = o) (h : NumW (F r n) a b c d) :
    (o = 0 → NumW (exW F k n) a b c d) ∧ (o = 1 → NumW (exW F k n) c d a b) ∧ (o = 2 → NumW (exW F k n) (-c) (-d) a b) ∧ (o = 3 → NumW (exW F k n) (-a) (-b) c d) ∧
    (o = 4 → NumW (exW F k n) (-a) (-b) (-c) (-d)) ∧ (o = 5 → NumW (exW F k n) (-c) (-d) (-a) (-b)) ∧ (o = 6 → NumW (exW F k n) c d (-a) (-b)) ∧ (o = 7 → NumW (exW F k n) a b (-c) (-d)) := by
  unfold exW
  rw [hr, ho]
  refine ⟨?_, ?_, ?_, ?_, ?_, ?_, ?_, ?_⟩ <;> rintro rfl
  · exact h
  · exact h.swap
  · exact h.rot
  · exact h.swap.rot
  · exact h.rot.rot
  · exact h.swap.rot.rot
  · exact h.rot.rot.rot.same (by omega) (by omega) rfl rfl
  · exact h.swap.rot.rot.rot.same (by omega) (by omega) rfl rfl
/-- octant and rest from 8 q by n -/
theorem oct_of {k n q o ρ : Int} (hn : 0 < n) (hq : octQ k n = q) (h : 8 * q = o * n + ρ) (h0 : 0 ≤ ρ) (h1 : ρ < n) : octO k n = o ∧ octR k n = (if o % 2 = 0 then ρ else n - ρ) := by
  have hO : o = octO k n := octO_of hn (M := (o + 1) * n) (by rw [hq]; omega) rfl (by rw [hq, Int.add_mul, Int.one_mul]; omega)
  refine ⟨hO.symm, ?_⟩
  unfold octR
  rw [← hO, hq, Int.add_mul, Int.one_mul]
  by_cases c : o % 2 = 0
  · rw [if_pos c, if_pos c]; omega
  · rw [if_neg c, if_neg c]; omega
theorem ex_whole (F : Int → Int → W4) (k n : Int) : exW F (k + n) n = exW F k n := by
  have hq : octQ (k + n) n = octQ k n := by
    unfold octQ
    have := Int.add_mul_emod_self_left k n 1
    rwa [Int.mul_one] at this
  unfold exW octR octO
  rw [hq]
theorem q_neg {k n : Int} (hn : 0 < n) : octQ (-k) n = (if octQ k n = 0 then 0 else n - octQ k n) := by
  unfold octQ
  have h := Int.mul_ediv_add_emod k n
  have h0 := Int.emod_nonneg k (show n ≠ 0 by omega)
  have h1 := Int.emod_lt_of_pos k hn
  generalize k / n = D at h
  generalize k % n = q at *
  by_cases c : q = 0
  · rw [if_pos c]
    have e : -k = 0 + n * (-D) := by rw [Int.mul_neg]; omega
    rw [e, Int.add_mul_emod_self_left]
    exact Int.zero_emod _
  · rw [if_neg c]
    have e : -k = (n - q) + n * (-D - 1) := by rw [Int.mul_sub, Int.mul_neg, Int.mul_one]; omega
    rw [e, Int.add_mul_emod_self_left]
    exact Int.emod_eq_of_lt (by omega) (by omega)
/-- the other way round -/
theorem ex_back {F : Int → Int → W4} (hF : AxisF F) {k n : Int} (hn : 1 ≤ n ∧ n ≤ 1099511627776) : ∃ a b c d, NumW (exW F k n) a b c d ∧ NumW (exW F (-k) n) a b (-c) (-d) := by
  have hn0 : 0 < n := by omega
  obtain ⟨q0, q1⟩ := octQ_range (k := k) hn0
  obtain ⟨o0, o8⟩ := octO_range (k := k) hn0
  obtain ⟨r0, r1⟩ := octR_range (k := k) hn0
  obtain ⟨A, B, C, D, hB⟩ := NumW.of (hF.st (octR k n) n r0 r1 hn.1 hn.2)
  have hm := Int.mul_ediv_add_emod (8 * octQ k n) n
  have m0 := Int.emod_nonneg (8 * octQ k n) (show n ≠ 0 by omega)
  have m1 := Int.emod_lt_of_pos (8 * octQ k n) hn0
  have hqn := q_neg (k := k) hn0
  have hoo : n * (8 * octQ k n / n) = octO k n * n := Int.mul_comm ..
  rw [hoo] at hm
  obtain ⟨ρ, hρ⟩ : ∃ ρ, ρ = 8 * octQ k n % n := ⟨_, rfl⟩
  rw [← hρ] at hm m0 m1
  obtain ⟨_, hR⟩ := oct_of (k := k) (n := n) (o := octO k n) (ρ := ρ) hn0 rfl (by omega) m0 m1
  obtain ⟨o, ho⟩ : ∃ o, o = octO k n := ⟨_, rfl⟩
  obtain ⟨r, hr⟩ : ∃ r, r = octR k n := ⟨_, rfl⟩
  rw [← ho] at hm o0 o8 hR
  rw [← hr] at hB hR r0 r1
  obtain ⟨E0, E1, E2, E3, E4, E5, E6, E7⟩ := ex_num (F := F) hr.symm ho.symm hB
  by_cases c0 : octQ k n = 0
  · -- the axis itself
    rw [if_pos c0] at hqn
    rw [c0] at hm
    have hoz : o = 0 := by
      refine Classical.byContradiction fun hc => ?_
      have h1 : 1 * n ≤ o * n := Int.mul_le_mul_of_nonneg_right (by omega) (by omega)
      omega
    rw [hoz, Int.zero_mul] at hm
    have hρ0 : ρ = 0 := by omega
    obtain ⟨h1, h2⟩ := oct_of (k := -k) (n := n) (q := 0) (o := 0) (ρ := 0) hn0 hqn (by omega) (by omega) hn0
    rw [hoz, hρ0] at hR
    have hr0 : r = 0 := by simpa using hR
    have h2' : octR (-k) n = r := by rw [h2, hr0]; simp
    obtain ⟨G0, _⟩ := ex_num (F := F) h2' h1 hB
    obtain ⟨z1, z2, _⟩ := hF.zero n hn.1 hn.2
    rw [hr0] at hB
    have hC : C = 0 := by have := hB.nc; rw [z1] at this; exact num_same' this num_zero_k
    have hD : D = 0 := hB.zs hC
    exact ⟨A, B, C, D, E0 hoz, (G0 rfl).same rfl rfl (by omega) (by omega)⟩
  · rw [if_neg c0] at hqn
    by_cases cρ : ρ = 0
    · -- on a border of octants
      have ho1 : 1 ≤ o := by
        refine Classical.byContradiction fun hc => ?_
        have : o = 0 := by omega
        rw [this, Int.zero_mul] at hm
        omega
      obtain ⟨h1, h2⟩ := oct_of (k := -k) (n := n) (q := n - octQ k n) (o := 8 - o) (ρ := 0) hn0 hqn (by rw [Int.sub_mul]; omega) (by omega) hn0
      rw [cρ] at hR
      by_cases ev : o % 2 = 0
      · rw [if_pos ev] at hR
        rw [if_pos (by omega)] at h2
        have h2' : octR (-k) n = r := by rw [h2, hR]
        obtain ⟨G0, G1, G2, G3, G4, G5, G6, G7⟩ := ex_num (F := F) h2' h1 hB
        obtain ⟨z1, z2, _⟩ := hF.zero n hn.1 hn.2
        rw [hR] at hB
        have hC : C = 0 := by have := hB.nc; rw [z1] at this; exact num_same' this num_zero_k
        have hD : D = 0 := hB.zs hC
        have : o = 2 ∨ o = 4 ∨ o = 6 := by omega
        rcases this with h | h | h
        · exact ⟨_, _, _, _, E2 h, (G6 (by omega)).same (by omega) (by omega) (by omega) (by omega)⟩
        · exact ⟨_, _, _, _, E4 h, (G4 (by omega)).same (by omega) (by omega) (by omega) (by omega)⟩
        · exact ⟨_, _, _, _, E6 h, (G2 (by omega)).same (by omega) (by omega) (by omega) (by omega)⟩
      · rw [if_neg ev, Int.sub_zero] at hR
        rw [if_neg (by omega), Int.sub_zero] at h2
        have h2' : octR (-k) n = r := by rw [h2, hR]
        obtain ⟨G0, G1, G2, G3, G4, G5, G6, G7⟩ := ex_num (F := F) h2' h1 hB
        obtain ⟨z1, z2⟩ := hF.end_ n hn.1 hn.2
        rw [hR] at hB
        have hC : C = A := by have := hB.nc; rw [z1] at this; exact num_same' this hB.na
        have hD : D = B := by have := hB.nd; rw [z2] at this; exact num_same' this hB.nb
        have : o = 1 ∨ o = 3 ∨ o = 5 ∨ o = 7 := by omega
        rcases this with h | h | h | h
        · exact ⟨_, _, _, _, E1 h, (G7 (by omega)).same (by omega) (by omega) (by omega) (by omega)⟩
        · exact ⟨_, _, _, _, E3 h, (G5 (by omega)).same (by omega) (by omega) (by omega) (by omega)⟩
        · exact ⟨_, _, _, _, E5 h, (G3 (by omega)).same (by omega) (by omega) (by omega) (by omega)⟩
        · exact ⟨_, _, _, _, E7 h, (G1 (by omega)).same (by omega) (by omega) (by omega) (by omega)⟩
    · -- inside an octant
      obtain ⟨h1, h2⟩ := oct_of (k := -k) (n := n) (q := n - octQ k n) (o := 7 - o) (ρ := n - ρ) hn0 hqn (by rw [Int.sub_mul]; omega) (by omega) (by omega)
      have h2' : octR (-k) n = r := by
        rw [h2, hR]
        by_cases ev : o % 2 = 0
        · rw [if_pos ev, if_neg (by omega)]; omega
        · rw [if_neg ev, if_pos (by omega)]
      obtain ⟨G0, G1, G2, G3, G4, G5, G6, G7⟩ := ex_num (F := F) h2' h1 hB
      have : o = 0 ∨ o = 1 ∨ o = 2 ∨ o = 3 ∨ o = 4 ∨ o = 5 ∨ o = 6 ∨ o = 7 := by omega
      rcases this with h | h | h | h | h | h | h | h
      · exact ⟨_, _, _, _, E0 h, (G7 (by omega)).same (by omega) (by omega) (by omega) (by omega)⟩
      · exact ⟨_, _, _, _, E1 h, (G6 (by omega)).same (by omega) (by omega) (by omega) (by omega)⟩
      · exact ⟨_, _, _, _, E2 h, (G5 (by omega)).same (by omega) (by omega) (by omega) (by omega)⟩
      · exact ⟨_, _, _, _, E3 h, (G4 (by omega)).same (by omega) (by omega) (by omega) (by omega)⟩
      · exact ⟨_, _, _, _, E4 h, (G3 (by omega)).same (by omega) (by omega) (by omega) (by omega)⟩
      · exact ⟨_, _, _, _, E5 h, (G2 (by omega)).same (by omega) (by omega) (by omega) (by omega)⟩
      · exact ⟨_, _, _, _, E6 h, (G1 (by omega)).same (by omega) (by omega) (by omega) (by omega)⟩
      · exact ⟨_, _, _, _, E7 h, (G0 (by omega)).same (by omega) (by omega) (by omega) (by omega)⟩
theorem q_quarter {k n : Int} (hn : 0 < n) (h4 : n % 4 = 0) : octQ (k + n / 4) n = (if octQ k n + n / 4 < n then octQ k n + n / 4 else octQ k n + n / 4 - n) := by
  unfold octQ
  have h := Int.mul_ediv_add_emod k n
  have h0 := Int.emod_nonneg k (show n ≠ 0 by omega)
  have h1 := Int.emod_lt_of_pos k hn
  generalize k / n = D at h
  generalize k % n = q at *
  by_cases c : q + n / 4 < n
  · rw [if_pos c]
    have e : k + n / 4 = (q + n / 4) + n * D := by omega
    rw [e, Int.add_mul_emod_self_left]
    exact Int.emod_eq_of_lt (by omega) c
  · rw [if_neg c]
    have e : k + n / 4 = (q + n / 4 - n) + n * (D + 1) := by rw [Int.mul_add, Int.mul_one]; omega
    rw [e, Int.add_mul_emod_self_left]
    exact Int.emod_eq_of_lt (by omega) (by omega)
/-- a quarter further -/
theorem ex_quarter {F : Int → Int → W4} (hF : AxisF F) {k n : Int} (hn : 1 ≤ n ∧ n ≤ 1099511627776) (h4 : n % 4 = 0) : ∃ a b c d, NumW (exW F k n) a b c d ∧ NumW (exW F (k + n / 4) n) (-c) (-d) a b := by
  have hn0 : 0 < n := by omega
  obtain ⟨q0, q1⟩ := octQ_range (k := k) hn0
  obtain ⟨o0, o8⟩ := octO_range (k := k) hn0
  obtain ⟨r0, r1⟩ := octR_range (k := k) hn0
  obtain ⟨A, B, C, D, hB⟩ := NumW.of (hF.st (octR k n) n r0 r1 hn.1 hn.2)
  have hm := Int.mul_ediv_add_emod (8 * octQ k n) n
  have m0 := Int.emod_nonneg (8 * octQ k n) (show n ≠ 0 by omega)
  have m1 := Int.emod_lt_of_pos (8 * octQ k n) hn0
  have hqn := q_quarter (k := k) hn0 h4
  have hoo : n * (8 * octQ k n / n) = octO k n * n := Int.mul_comm ..
  rw [hoo] at hm
  obtain ⟨ρ, hρ⟩ : ∃ ρ, ρ = 8 * octQ k n % n := ⟨_, rfl⟩
  rw [← hρ] at hm m0 m1
  obtain ⟨_, hR⟩ := oct_of (k := k) (n := n) (o := octO k n) (ρ := ρ) hn0 rfl (by omega) m0 m1
  obtain ⟨o, ho⟩ : ∃ o, o = octO k n := ⟨_, rfl⟩
  obtain ⟨r, hr⟩ : ∃ r, r = octR k n := ⟨_, rfl⟩
  rw [← ho] at hm o0 o8 hR
  rw [← hr] at hB hR r0 r1
  obtain ⟨E0, E1, E2, E3, E4, E5, E6, E7⟩ := ex_num (F := F) hr.symm ho.symm hB
  obtain ⟨h1, h2⟩ := oct_of (k := k + n / 4) (n := n) (q := if octQ k n + n / 4 < n then octQ k n + n / 4 else octQ k n + n / 4 - n) (o := if o < 6 then o + 2 else o - 6) (ρ := ρ) hn0 hqn (by
    by_cases c : octQ k n + n / 4 < n
    · rw [if_pos c]
      have : o < 6 := by
        refine Classical.byContradiction fun hc => ?_
        have h6 : 6 * n ≤ o * n := Int.mul_le_mul_of_nonneg_right (by omega) (by omega)
        omega
      rw [if_pos this, Int.add_mul]
      omega
    · rw [if_neg c]
      have : ¬ o < 6 := by
        intro hc
        have h6 : o * n ≤ 5 * n := Int.mul_le_mul_of_nonneg_right (by omega) (by omega)
        omega
      rw [if_neg this, Int.sub_mul]
      omega) m0 m1
  have h2' : octR (k + n / 4) n = r := by
    rw [h2, hR]
    have hpar : (if o < 6 then o + 2 else o - 6) % 2 = o % 2 := by
      by_cases c : o < 6
      · rw [if_pos c]; omega
      · rw [if_neg c]; omega
    rw [hpar]
  obtain ⟨G0, G1, G2, G3, G4, G5, G6, G7⟩ := ex_num (F := F) h2' h1 hB
  have : o = 0 ∨ o = 1 ∨ o = 2 ∨ o = 3 ∨ o = 4 ∨ o = 5 ∨ o = 6 ∨ o = 7 := by omega
  rcases this with h | h | h | h | h | h | h | h
  · exact ⟨_, _, _, _, E0 h, (G2 (by rw [h]; rfl)).same (by omega) (by omega) (by omega) (by omega)⟩
  · exact ⟨_, _, _, _, E1 h, (G3 (by rw [h]; rfl)).same (by omega) (by omega) (by omega) (by omega)⟩
  · exact ⟨_, _, _, _, E2 h, (G4 (by rw [h]; rfl)).same (by omega) (by omega) (by omega) (by omega)⟩
  · exact ⟨_, _, _, _, E3 h, (G5 (by rw [h]; rfl)).same (by omega) (by omega) (by omega) (by omega)⟩
  · exact ⟨_, _, _, _, E4 h, (G6 (by rw [h]; rfl)).same (by omega) (by omega) (by omega) (by omega)⟩
  · exact ⟨_, _, _, _, E5 h, (G7 (by rw [h]; rfl)).same (by omega) (by omega) (by omega) (by omega)⟩
  · exact ⟨_, _, _, _, E6 h, (G0 (by rw [h]; rfl)).same (by omega) (by omega) (by omega) (by omega)⟩
  · exact ⟨_, _, _, _, E7 h, (G1 (by rw [h]; rfl)).same (by omega) (by omega) (by omega) (by omega)⟩
end Go.Proofs.Ytpifkjmdcbieoaa

/- TrigTurned's walk. -/
namespace Go.Proofs.Ytpifkjmdcbieoaa
open Go.RowKit

theorem run_eql_dd {a b c d : Nat} (h1 : FloatKind.f64.format.order a c = some .eq) (h2 : FloatKind.f64.format.order b d = some .eq) (w : World) :
    (binOp .eql 30 (.agg #[.float .f64 a, .float .f64 b]) (.agg #[.float .f64 c, .float .f64 d])).run Try.prog w = .ok (.bool true) w := by
  rw [run_eql_struct, run_equalIn_agg w 9999 _ _ _ dd_fields dd_held]
  obtain ⟨l, hl⟩ : ∃ l, l = (Try.prog.fieldsOf 30).toList := ⟨_, rfl⟩
  have hm := dd_list
  rw [← hl] at hm ⊢
  match l, hm with
  | [f0, f1], hm =>
    simp only [List.map_cons, List.map_nil, List.cons.injEq, Prod.mk.injEq, and_true] at hm
    obtain ⟨⟨n0, t0, o0⟩, n1, t1, o1⟩ := hm
    simp [Op.eqFields, n0, n1, t0, t1, o0, o1]
    have q := fun (a b : Nat) (w : World) => run_equalIn_float (P := Try.prog) w 9998 28 .f64 a b Try.underlying28
    simp [part_0, part_1, q, h1, h2]
set_option maxHeartbeats 8000000 in
theorem turned0 (k n : Int) (w : World) (hn : -9223372036854775808 ≤ n ∧ n < 9223372036854775808) :
    Calls Try.prog 6 #[.int .i64 k, .int .i64 n] w fun e w' => e = .returned (.bool true) ∧ Bel w w' := by
  have sf := run_store_float Try.prog
  have hwk := wakes_said
  have hp := fun w => parts5_any n 1099511627776 w hn (by decide)
  obtain ⟨m, hm⟩ : ∃ m, m = partsN n 1099511627776 := ⟨_, rfl⟩
  have hr := partsN_range (n := n) (most := 1099511627776) (by decide)
  rw [← hm] at hp hr
  obtain ⟨κ, hκ⟩ : ∃ κ, κ = k.tmod 1152921504606846976 := ⟨_, rfl⟩
  have bκ : κ < 1152921504606846976 ∧ -1152921504606846976 < κ := by rw [hκ]; exact ⟨Int.tmod_lt_of_pos _ (by decide), by have := Int.lt_tmod_of_pos k (show (0 : Int) < 1152921504606846976 by decide); omega⟩
  have hκ' : k.tmod 1152921504606846976 = κ := hκ.symm
  obtain ⟨F, hF⟩ := axis_fun
  have hmr : 1 ≤ m ∧ m ≤ 1099511627776 := by omega
  have E1 := fun w => exact_run hF κ m hmr w
  have E2 := fun w => exact_run hF (κ + m) m hmr w
  have E3 := fun w => exact_run hF (-κ) m hmr w
  have T1 := fun w => turn_run hF κ m hmr w
  have T3 := fun w => turn_run hF (-κ) m hmr w
  have E4 := fun w => exact_run hF (κ + m / 4) m hmr w
  have T4 := fun w => turn_run hF (κ + m / 4) m hmr w
  rw [ex_whole] at E2
  obtain ⟨a, b, c, d, N1, N3⟩ := ex_back hF (k := κ) hmr
  have hQ : m % 4 = 0 → NumW (exW F (κ + m / 4) m) (-c) (-d) a b := fun h4 => by
    obtain ⟨a', b', c', d', M1, M4⟩ := ex_quarter hF (k := κ) hmr h4
    rw [num_same' N1.na M1.na, num_same' N1.nb M1.nb, num_same' N1.nc M1.nc, num_same' N1.nd M1.nd]
    exact M4
  generalize exW F κ m = W1 at *
  generalize exW F (-κ) m = W3 at *
  generalize exW F (κ + m / 4) m = W4' at *
  have i1 := N1.na
  have i2 := N1.nb
  have i3 := N1.nc
  have i4 := N1.nd
  have j1 := N3.na
  have j2 := N3.nb
  have j3 := N3.nc
  have j4 := N3.nd
  have hQ1 := fun h => (hQ h).na
  have hQ2 := fun h => (hQ h).nb
  have hQ3 := fun h => (hQ h).nc
  have hQ4 := fun h => (hQ h).nd
  generalize W1.a = x1 at *
  generalize W1.b = x2 at *
  generalize W1.c = x3 at *
  generalize W1.d = x4 at *
  generalize W3.a = y1 at *
  generalize W3.b = y2 at *
  generalize W3.c = y3 at *
  generalize W3.d = y4 at *
  generalize W4'.a = z1 at *
  generalize W4'.b = z2 at *
  generalize W4'.c = z3 at *
  generalize W4'.d = z4 at *
  have o13 := ord_same i1 j1
  have o33 : FloatKind.f64.format.order x3 (Op.negFloat .f64 y3) = some Ordering.eq := ord_same i3 (by have := num_neg j3; rwa [Int.neg_neg] at this)
  have o43 : FloatKind.f64.format.order x4 (Op.negFloat .f64 y4) = some Ordering.eq := ord_same i4 (by have := num_neg j4; rwa [Int.neg_neg] at this)
  have D1 := fun w => run_neq_dd (ord_same i1 i1) (ord_same i2 i2) w
  have D2 := fun w => run_neq_dd (ord_same i3 i3) (ord_same i4 i4) w
  have D3 := fun w => run_neq_dd (ord_same i1 j1) (ord_same i2 j2) w
  have v1 := fun w => run_neg (P := Try.prog) y3 w
  have v2 := fun w => run_neg (P := Try.prog) y4 w
  have v3 := fun w => run_neg (P := Try.prog) x3 w
  have v4 := fun w => run_neg (P := Try.prog) x4 w
  have k1 : wrap64 (κ + m) = κ + m := by unfold wrap64; omega
  have k2 : wrap64 (-κ) = -κ := by unfold wrap64; omega
  have k1' : IntKind.i64.wrap (κ + m) = κ + m := by rw [IntKind.wrap_i64]; omega
  have k2' : IntKind.i64.wrap (-κ) = -κ := by rw [IntKind.wrap_i64]; omega
  obtain ⟨μ, hμ⟩ : ∃ μ, μ = m / 4 := ⟨_, rfl⟩
  have bμ : 0 ≤ μ ∧ μ ≤ m := by omega
  rw [← hμ] at E4 T4
  have hμ' : m.tdiv 4 = μ := by rw [Int.tdiv_eq_ediv_of_nonneg (by omega)]; exact hμ.symm
  have hμ2 : m / 4 = μ := hμ.symm
  have k4 : wrap64 μ = μ := by unfold wrap64; omega
  have k4' : IntKind.i64.wrap μ = μ := by rw [IntKind.wrap_i64]; omega
  have k3 : wrap64 (κ + μ) = κ + μ := by unfold wrap64; omega
  have k3' : IntKind.i64.wrap (κ + μ) = κ + μ := by rw [IntKind.wrap_i64]; omega
  have hm4 : m.tmod 4 = m % 4 := Int.tmod_eq_emod_of_nonneg (by omega)
  have hc4 : m % 4 = 0 ∨ ¬ m % 4 = 0 := Classical.em _
  have finish : ∀ (P : Prop) (_ : m % 4 = 0 ∨ ¬ m % 4 = 0), (m % 4 = 0 → P) → (¬ m % 4 = 0 → P) → P := fun P h f g => h.elim f g
  have hmrH := Lib.hid (And.intro hmr (And.intro bκ bμ))
  clear hm hr hn hF N1 N3 hQ hκ bκ bμ hμ hmr
  refine finish _ hc4 (fun h4 => ?_) (fun h4 => ?_)
  · have dm : (m % 4 != 0) = false := by simpa using h4
    have q1 : FloatKind.f64.format.order z1 (Op.negFloat .f64 x3) = some Ordering.eq := ord_same (hQ1 h4) (num_neg i3)
    have q2 : FloatKind.f64.format.order z2 (Op.negFloat .f64 x4) = some Ordering.eq := ord_same (hQ2 h4) (num_neg i4)
    have q3 : FloatKind.f64.format.order z3 x1 = some Ordering.eq := ord_same (hQ3 h4) i1
    have q4 := fun w => run_eql_dd (ord_same (hQ3 h4) i1) (ord_same (hQ4 h4) i2) w
    clear hQ1 hQ2 hQ3 hQ4 i1 i2 i3 i4 j1 j2 j3 j4 h4 hc4 finish
    go_enter Try.func6, Try.ntmps6
    go_wp2_with fail
    refine (hp _).mono ?_; rintro r w0 ⟨rfl, rfl⟩
    go_wp2_with fail
    refine (E1 _).mono ?_; rintro r w1 ⟨rfl, g1⟩
    go_wp2_with fail
    obtain ⟨w2, hw2⟩ : ∃ w2, w2 = (w1.alloc (Obj.cells #[.float .f64 x1, .float .f64 x2] 30)).alloc (Obj.cells #[.float .f64 x3, .float .f64 x4] 30) := ⟨_, rfl⟩
    have tA : Two w2 w1.heap.size x1 x2 := by rw [hw2]; exact (Two.newN _ _ _ _ _ rfl).al _
    have tB : Two w2 (w1.heap.size + 1) x3 x4 := by rw [hw2]; exact Two.newN _ _ _ _ _ (by simp)
    have g2 : Bel w1 w2 := by rw [hw2]; exact ((Bel.refl _).alloc _).alloc _
    rw [← hw2]
    obtain ⟨A, hA⟩ : ∃ A, A = w1.heap.size := ⟨_, rfl⟩
    rw [← hA] at tA tB ⊢
    clear hw2 hA
    refine (E2 _).mono ?_; rintro r w3 ⟨rfl, g3⟩
    go_wp2_with fail
    obtain ⟨w4, hw4⟩ : ∃ w4, w4 = (w3.alloc (Obj.cells #[.float .f64 x1, .float .f64 x2] 30)).alloc (Obj.cells #[.float .f64 x3, .float .f64 x4] 30) := ⟨_, rfl⟩
    have tD : Two w4 w3.heap.size x1 x2 := by rw [hw4]; exact (Two.newN _ _ _ _ _ rfl).al _
    have tE : Two w4 (w3.heap.size + 1) x3 x4 := by rw [hw4]; exact Two.newN _ _ _ _ _ (by simp)
    have g4 : Bel w3 w4 := by rw [hw4]; exact ((Bel.refl _).alloc _).alloc _
    rw [← hw4]
    obtain ⟨D, hD⟩ : ∃ D, D = w3.heap.size := ⟨_, rfl⟩
    rw [← hD] at tD tE ⊢
    clear hw4 hD
    refine (E3 _).mono ?_; rintro r w5 ⟨rfl, g5⟩
    go_wp2_with fail
    obtain ⟨w6, hw6⟩ : ∃ w6, w6 = (w5.alloc (Obj.cells #[.float .f64 y1, .float .f64 y2] 30)).alloc (Obj.cells #[.float .f64 y3, .float .f64 y4] 30) := ⟨_, rfl⟩
    have tG : Two w6 w5.heap.size y1 y2 := by rw [hw6]; exact (Two.newN _ _ _ _ _ rfl).al _
    have tH : Two w6 (w5.heap.size + 1) y3 y4 := by rw [hw6]; exact Two.newN _ _ _ _ _ (by simp)
    have g6 : Bel w5 w6 := by rw [hw6]; exact ((Bel.refl _).alloc _).alloc _
    rw [← hw6]
    obtain ⟨G, hG⟩ : ∃ G, G = w5.heap.size := ⟨_, rfl⟩
    rw [← hG] at tG tH ⊢
    clear hw6 hG
    refine (T1 _).mono ?_; rintro r w7 ⟨rfl, g7⟩
    go_wp2_with fail
    refine (T3 _).mono ?_; rintro r w8 ⟨rfl, g8⟩
    go_wp2_with fail
    refine (hwk _).mono ?_; rintro r w9 ⟨rfl, g9⟩
    have e79 := (g7.trans g8).trans g9
    have e59 := (g5.trans g6).trans e79
    have e39 := (g3.trans g4).trans e59
    have tA := tA.by e39
    have tB := tB.by e39
    have tD := tD.by e59
    have tE := tE.by e59
    have tG := tG.by e79
    have tH := tH.by e79
    have hB := (g1.trans g2).trans e39
    have A0 := tA.c0
    have A1 := tA.c1
    have B0 := tB.c0
    have B1 := tB.c1
    have D0 := tD.c0
    have D1' := tD.c1
    have E0 := tE.c0
    have E1' := tE.c1
    have G0 := tG.c0
    have G1 := tG.c1
    have H0 := tH.c0
    have H1 := tH.c1
    clear g1 g2 g3 g4 g5 g6 g7 g8 g9 e79 e59 e39 E1 E2 E3 T1 T3 hwk hp tD tE tG tH
    go_wp2_with fail
    refine (E4 _).mono ?_; rintro r wa ⟨rfl, ga⟩
    go_wp2_with fail
    obtain ⟨wb, hwb⟩ : ∃ wb, wb = (wa.alloc (Obj.cells #[.float .f64 z1, .float .f64 z2] 30)).alloc (Obj.cells #[.float .f64 z3, .float .f64 z4] 30) := ⟨_, rfl⟩
    have tJ : Two wb wa.heap.size z1 z2 := by rw [hwb]; exact (Two.newN _ _ _ _ _ rfl).al _
    have tK : Two wb (wa.heap.size + 1) z3 z4 := by rw [hwb]; exact Two.newN _ _ _ _ _ (by simp)
    have gb : Bel wa wb := by rw [hwb]; exact ((Bel.refl _).alloc _).alloc _
    rw [← hwb]
    obtain ⟨J, hJ⟩ : ∃ J, J = wa.heap.size := ⟨_, rfl⟩
    rw [← hJ] at tJ tK ⊢
    clear hwb hJ
    refine (T4 _).mono ?_; rintro r wc ⟨rfl, gc⟩
    have tA := tA.by ((ga.trans gb).trans gc)
    have tB := tB.by ((ga.trans gb).trans gc)
    have tJ := tJ.by gc
    have tK := tK.by gc
    have hBz := hB.trans ((ga.trans gb).trans gc)
    clear A0 A1 B0 B1 D0 D1' E0 E1' G0 G1 H0 H1
    have A0 := tA.c0
    have A1 := tA.c1
    have B0 := tB.c0
    have B1 := tB.c1
    have J0 := tJ.c0
    have J1 := tJ.c1
    have K0 := tK.c0
    have K1 := tK.c1
    clear ga gb gc E4 T4 tA tB tJ tK hB D1 D2 D3 o13 o33 o43 v1 v2
    go_wp2
    go_ret
    exact ⟨rfl, hBz⟩
  · have dm : (m % 4 != 0) = true := by simpa using h4
    clear hQ1 hQ2 hQ3 hQ4 i1 i2 i3 i4 j1 j2 j3 j4 h4 hc4 finish E4 T4 v3 v4
    go_enter Try.func6, Try.ntmps6
    go_wp2_with fail
    refine (hp _).mono ?_; rintro r w0 ⟨rfl, rfl⟩
    go_wp2_with fail
    refine (E1 _).mono ?_; rintro r w1 ⟨rfl, g1⟩
    go_wp2_with fail
    obtain ⟨w2, hw2⟩ : ∃ w2, w2 = (w1.alloc (Obj.cells #[.float .f64 x1, .float .f64 x2] 30)).alloc (Obj.cells #[.float .f64 x3, .float .f64 x4] 30) := ⟨_, rfl⟩
    have tA : Two w2 w1.heap.size x1 x2 := by rw [hw2]; exact (Two.newN _ _ _ _ _ rfl).al _
    have tB : Two w2 (w1.heap.size + 1) x3 x4 := by rw [hw2]; exact Two.newN _ _ _ _ _ (by simp)
    have g2 : Bel w1 w2 := by rw [hw2]; exact ((Bel.refl _).alloc _).alloc _
    rw [← hw2]
    obtain ⟨A, hA⟩ : ∃ A, A = w1.heap.size := ⟨_, rfl⟩
    rw [← hA] at tA tB ⊢
    clear hw2 hA
    refine (E2 _).mono ?_; rintro r w3 ⟨rfl, g3⟩
    go_wp2_with fail
    obtain ⟨w4, hw4⟩ : ∃ w4, w4 = (w3.alloc (Obj.cells #[.float .f64 x1, .float .f64 x2] 30)).alloc (Obj.cells #[.float .f64 x3, .float .f64 x4] 30) := ⟨_, rfl⟩
    have tD : Two w4 w3.heap.size x1 x2 := by rw [hw4]; exact (Two.newN _ _ _ _ _ rfl).al _
    have tE : Two w4 (w3.heap.size + 1) x3 x4 := by rw [hw4]; exact Two.newN _ _ _ _ _ (by simp)
    have g4 : Bel w3 w4 := by rw [hw4]; exact ((Bel.refl _).alloc _).alloc _
    rw [← hw4]
    obtain ⟨D, hD⟩ : ∃ D, D = w3.heap.size := ⟨_, rfl⟩
    rw [← hD] at tD tE ⊢
    clear hw4 hD
    refine (E3 _).mono ?_; rintro r w5 ⟨rfl, g5⟩
    go_wp2_with fail
    obtain ⟨w6, hw6⟩ : ∃ w6, w6 = (w5.alloc (Obj.cells #[.float .f64 y1, .float .f64 y2] 30)).alloc (Obj.cells #[.float .f64 y3, .float .f64 y4] 30) := ⟨_, rfl⟩
    have tG : Two w6 w5.heap.size y1 y2 := by rw [hw6]; exact (Two.newN _ _ _ _ _ rfl).al _
    have tH : Two w6 (w5.heap.size + 1) y3 y4 := by rw [hw6]; exact Two.newN _ _ _ _ _ (by simp)
    have g6 : Bel w5 w6 := by rw [hw6]; exact ((Bel.refl _).alloc _).alloc _
    rw [← hw6]
    obtain ⟨G, hG⟩ : ∃ G, G = w5.heap.size := ⟨_, rfl⟩
    rw [← hG] at tG tH ⊢
    clear hw6 hG
    refine (T1 _).mono ?_; rintro r w7 ⟨rfl, g7⟩
    go_wp2_with fail
    refine (T3 _).mono ?_; rintro r w8 ⟨rfl, g8⟩
    go_wp2_with fail
    refine (hwk _).mono ?_; rintro r w9 ⟨rfl, g9⟩
    have e79 := (g7.trans g8).trans g9
    have e59 := (g5.trans g6).trans e79
    have e39 := (g3.trans g4).trans e59
    have tA := tA.by e39
    have tB := tB.by e39
    have tD := tD.by e59
    have tE := tE.by e59
    have tG := tG.by e79
    have tH := tH.by e79
    have hB := (g1.trans g2).trans e39
    have A0 := tA.c0
    have A1 := tA.c1
    have B0 := tB.c0
    have B1 := tB.c1
    have D0 := tD.c0
    have D1' := tD.c1
    have E0 := tE.c0
    have E1' := tE.c1
    have G0 := tG.c0
    have G1 := tG.c1
    have H0 := tH.c0
    have H1 := tH.c1
    clear g1 g2 g3 g4 g5 g6 g7 g8 g9 e79 e59 e39 E1 E2 E3 T1 T3 hwk hp tD tE tG tH
    go_wp2
    go_ret
    exact ⟨rfl, hB⟩
end Go.Proofs.Ytpifkjmdcbieoaa

/- The regions of TrigCircle and TrigAdds that draw their order. -/
namespace Go.Proofs.Ytpifkjmdcbieoaa
open Go.RowKit

def circ_regPre (i : Nat) : List Nat := match i with | 2 => [0, 1] | 5 => [3, 4] | 6 => [2, 5] | 8 => [6, 7] | 10 => [9, 8] | _ => []
theorem circ_reg {Q : Exit → Act → World → Prop} {ops : Array Oper} {id : Nat} {w1 : World} (a0 : Act) (C S cx cy sx sy px py qx qy rx ry zx zy : Nat)
    (hops : ∃ y0 y1 y2 y3 y4 y5 y6 y7 y8 y9 y10 q0 q1 q2 q3 q4 q5 q6 q7 q8 q9 q10 g0 g1 g2 g3 g4 g5 g6 g7 g8 g9 g10, ops = #[
      { dst := some 15, op := .load 30 (.tmp 5), type := y0, pos := q0, after := g0, guard := none },
      { dst := some 16, op := .load 30 (.tmp 5), type := y1, pos := q1, after := g1, guard := none },
      { dst := some 17, op := .call { callee := .value (.func 19), args := #[.tmp 15, .tmp 16], argTypes := #[30, 30] }, type := y2, pos := q2, after := g2, guard := none },
      { dst := some 18, op := .load 30 (.tmp 6), type := y3, pos := q3, after := g3, guard := none },
      { dst := some 19, op := .load 30 (.tmp 6), type := y4, pos := q4, after := g4, guard := none },
      { dst := some 20, op := .call { callee := .value (.func 19), args := #[.tmp 18, .tmp 19], argTypes := #[30, 30] }, type := y5, pos := q5, after := g5, guard := none },
      { dst := some 21, op := .call { callee := .value (.func 20), args := #[.tmp 17, .tmp 20], argTypes := #[30, 30] }, type := y6, pos := q6, after := g6, guard := none },
      { dst := some 22, op := .build 30 #[(0, .const (.float .f64 13830554455654793216))], type := y7, pos := q7, after := g7, guard := none },
      { dst := some 23, op := .call { callee := .value (.func 20), args := #[.tmp 21, .tmp 22], argTypes := #[30, 30] }, type := y8, pos := q8, after := g8, guard := none },
      { dst := some 7, op := .alloc 30, type := y9, pos := q9, after := g9, guard := none },
      { dst := none, op := .store 30 (.tmp 7) (.tmp 23), type := y10, pos := q10, after := g10, guard := none }])
    (hchk : chkN circ_regPre ops = true) (hsz : a0.tmps.size = 31) (e5 : a0.eval (.tmp 5) = .pointer (some ⟨C, 0, none⟩)) (e6 : a0.eval (.tmp 6) = .pointer (some ⟨S, 0, none⟩)) (tC : Two w1 C cx cy) (tS : Two w1 S sx sy)
    (h1 : ∀ w, Calls Try.prog 19 #[dv cx cy, dv cx cy] w fun r w' => r = .returned (dv px py) ∧ Bel w w')
    (h2 : ∀ w, Calls Try.prog 19 #[dv sx sy, dv sx sy] w fun r w' => r = .returned (dv qx qy) ∧ Bel w w')
    (h3 : ∀ w, Calls Try.prog 20 #[dv px py, dv qx qy] w fun r w' => r = .returned (dv rx ry) ∧ Bel w w')
    (h4 : ∀ w, Calls Try.prog 20 #[dv rx ry, dv 13830554455654793216 0] w fun r w' => r = .returned (dv zx zy) ∧ Bel w w')
    (hQ : ∀ f w X, Bel w1 w → f 7 = .pointer (some ⟨X, 0, none⟩) → w1.heap.size ≤ X → Two w X zx zy → Q .normal (actOf a0 [15, 16, 17, 18, 19, 20, 21, 22, 23, 7] f) w) : (Code.region id ops true).wp Try.prog Q a0 w1 := by
  obtain ⟨y0, y1, y2, y3, y4, y5, y6, y7, y8, y9, y10, q0, q1, q2, q3, q4, q5, q6, q7, q8, q9, q10, g0, g1, g2, g3, g4, g5, g6, g7, g8, g9, g10, rfl⟩ := hops
  obtain ⟨ds, hds⟩ : ∃ ds, ds = [15, 16, 17, 18, 19, 20, 21, 22, 23, 7] := ⟨_, rfl⟩
  rw [← hds] at hQ
  have out : ∀ f t, t ∉ ds → (actOf a0 ds f).eval (.tmp t) = a0.eval (.tmp t) := fun f t h => actOf_out a0 _ f h
  have inn : ∀ f t, t ∈ ds → t < 31 → (actOf a0 ds f).eval (.tmp t) = f t := fun f t h h2 => actOf_in a0 _ f h (by rw [hsz]; exact h2)
  rw [← actOf_self a0 ds]
  have hA : Apart ([(0, 15, fun z => z = dv cx cy), (1, 16, fun z => z = dv cx cy), (2, 17, fun z => z = dv px py), (3, 18, fun z => z = dv sx sy), (4, 19, fun z => z = dv sx sy), (5, 20, fun z => z = dv qx qy), (6, 21, fun z => z = dv rx ry), (7, 22, fun z => z = dv 13830554455654793216 0), (8, 23, fun z => z = dv zx zy)] : Leaves) [⟨9, 7, 10, 23, 8⟩] := by
    refine ⟨by simp, by simp, by simp, by simp, by simp, by simp, by simp, by simp⟩
  refine wp_region_gv (pre := circ_regPre) (actOf a0 ds) (fun t => a0.eval (.tmp t)) (by kernel_rfl) hchk _ _ hA ?_ ⟨by simp, by simp⟩ ?_
  · intro i hi
    have hi : i < 11 := hi
    match i, hi with
    | 0, _ => exact .value 15 (fun z => z = dv cx cy) (by simp) fun f w hB h => wpOp_go rfl rfl (step_load (d := some 15) rfl rfl ((out f 5 (by rw [hds]; decide)).trans e5) (load_num (tC.by hB)) ⟨_, actOf_put _ _ _ (by rw [hds]; decide) _, rfl, Bel.refl _⟩)
    | 1, _ => exact .value 16 (fun z => z = dv cx cy) (by simp) fun f w hB h => wpOp_go rfl rfl (step_load (d := some 16) rfl rfl ((out f 5 (by rw [hds]; decide)).trans e5) (load_num (tC.by hB)) ⟨_, actOf_put _ _ _ (by rw [hds]; decide) _, rfl, Bel.refl _⟩)
    | 2, _ => exact .value 17 (fun z => z = dv px py) (by simp) fun f w hB h => wpOp_go rfl rfl (step_call2 (d := some 17) rfl rfl ((inn f 15 (by rw [hds]; decide) (by decide)).trans (h (0, 15, fun z => z = dv cx cy) (by simp) (by simp [circ_regPre]))) ((inn f 16 (by rw [hds]; decide) (by decide)).trans (h (1, 16, fun z => z = dv cx cy) (by simp) (by simp [circ_regPre]))) (by kernel_rfl) ((h1 _).mono fun _ _ ⟨k1, k2⟩ => ⟨_, k1, _, actOf_put _ _ _ (by rw [hds]; decide) _, rfl, k2⟩))
    | 3, _ => exact .value 18 (fun z => z = dv sx sy) (by simp) fun f w hB h => wpOp_go rfl rfl (step_load (d := some 18) rfl rfl ((out f 6 (by rw [hds]; decide)).trans e6) (load_num (tS.by hB)) ⟨_, actOf_put _ _ _ (by rw [hds]; decide) _, rfl, Bel.refl _⟩)
    | 4, _ => exact .value 19 (fun z => z = dv sx sy) (by simp) fun f w hB h => wpOp_go rfl rfl (step_load (d := some 19) rfl rfl ((out f 6 (by rw [hds]; decide)).trans e6) (load_num (tS.by hB)) ⟨_, actOf_put _ _ _ (by rw [hds]; decide) _, rfl, Bel.refl _⟩)
    | 5, _ => exact .value 20 (fun z => z = dv qx qy) (by simp) fun f w hB h => wpOp_go rfl rfl (step_call2 (d := some 20) rfl rfl ((inn f 18 (by rw [hds]; decide) (by decide)).trans (h (3, 18, fun z => z = dv sx sy) (by simp) (by simp [circ_regPre]))) ((inn f 19 (by rw [hds]; decide) (by decide)).trans (h (4, 19, fun z => z = dv sx sy) (by simp) (by simp [circ_regPre]))) (by kernel_rfl) ((h2 _).mono fun _ _ ⟨k1, k2⟩ => ⟨_, k1, _, actOf_put _ _ _ (by rw [hds]; decide) _, rfl, k2⟩))
    | 6, _ => exact .value 21 (fun z => z = dv rx ry) (by simp) fun f w hB h => wpOp_go rfl rfl (step_call2 (d := some 21) rfl rfl ((inn f 17 (by rw [hds]; decide) (by decide)).trans (h (2, 17, fun z => z = dv px py) (by simp) (by simp [circ_regPre]))) ((inn f 20 (by rw [hds]; decide) (by decide)).trans (h (5, 20, fun z => z = dv qx qy) (by simp) (by simp [circ_regPre]))) (by kernel_rfl) ((h3 _).mono fun _ _ ⟨k1, k2⟩ => ⟨_, k1, _, actOf_put _ _ _ (by rw [hds]; decide) _, rfl, k2⟩))
    | 7, _ => exact .value 22 (fun z => z = dv 13830554455654793216 0) (by simp) fun f w hB h => wpOp_go rfl rfl (step_build (d := some 22) rfl rfl rfl build_hi ⟨_, actOf_put _ _ _ (by rw [hds]; decide) _, rfl, Bel.refl _⟩)
    | 8, _ => exact .value 23 (fun z => z = dv zx zy) (by simp) fun f w hB h => wpOp_go rfl rfl (step_call2 (d := some 23) rfl rfl ((inn f 21 (by rw [hds]; decide) (by decide)).trans (h (6, 21, fun z => z = dv rx ry) (by simp) (by simp [circ_regPre]))) ((inn f 22 (by rw [hds]; decide) (by decide)).trans (h (7, 22, fun z => z = dv 13830554455654793216 0) (by simp) (by simp [circ_regPre]))) (by kernel_rfl) ((h4 _).mono fun _ _ ⟨k1, k2⟩ => ⟨_, k1, _, actOf_put _ _ _ (by rw [hds]; decide) _, rfl, k2⟩))
    | 9, _ => exact .alloc ⟨9, 7, 10, 23, 8⟩ (by simp) rfl 30 fun f w K hK => wpOp_go rfl rfl (step_alloc (d := some 7) rfl rfl (by rw [actOf_put _ _ _ (by rw [hds]; decide)]; exact hK))
    | 10, _ => exact .store ⟨9, 7, 10, 23, 8⟩ (by simp) rfl (by simp [circ_regPre]) (by simp [circ_regPre]) (by simp) fun f w K X a b α β hX hv hT hK => wpOp_go rfl rfl (step_store (d := none) rfl rfl ((inn f 7 (by rw [hds]; decide) (by decide)).trans hX) ((inn f 23 (by rw [hds]; decide) (by decide)).trans hv) hT hK)
  · intro f w hB h hF
    obtain ⟨X, α, β, r1, r2, r3, r4⟩ := hF.1 ⟨9, 7, 10, 23, 8⟩ (by simp)
    have hv : f 23 = dv zx zy := h (8, 23, fun z => z = dv zx zy) (by simp)
    have r4 : f 23 = _ := r4
    rw [hv] at r4
    cases r4
    exact hQ f w X hB r1 r2 r3
def adds_reg1Pre (i : Nat) : List Nat := match i with | 2 => [0, 1] | 5 => [3, 4] | 6 => [5] | 7 => [2, 6] | 9 => [8] | 10 => [7, 9] | 12 => [11, 10] | _ => []
theorem adds_reg1 {Q : Exit → Act → World → Prop} {ops : Array Oper} {id : Nat} {w1 : World} (a0 : Act) (A B D E G ax ay bx by_ dx dy ex ey gx gy pa pb qa qb na nb ra rb oa ob za zb : Nat)
    (hops : ∃ y0 y1 y2 y3 y4 y5 y6 y7 y8 y9 y10 y11 y12 q0 q1 q2 q3 q4 q5 q6 q7 q8 q9 q10 q11 q12 g0 g1 g2 g3 g4 g5 g6 g7 g8 g9 g10 g11 g12, ops = #[
      { dst := some 43, op := .load 30 (.tmp 7), type := y0, pos := q0, after := g0, guard := none },
      { dst := some 44, op := .load 30 (.tmp 9), type := y1, pos := q1, after := g1, guard := none },
      { dst := some 45, op := .call { callee := .value (.func 19), args := #[.tmp 43, .tmp 44], argTypes := #[30, 30] }, type := y2, pos := q2, after := g2, guard := none },
      { dst := some 46, op := .load 30 (.tmp 8), type := y3, pos := q3, after := g3, guard := none },
      { dst := some 47, op := .load 30 (.tmp 10), type := y4, pos := q4, after := g4, guard := none },
      { dst := some 48, op := .call { callee := .value (.func 19), args := #[.tmp 46, .tmp 47], argTypes := #[30, 30] }, type := y5, pos := q5, after := g5, guard := none },
      { dst := some 49, op := .call { callee := .value (.func 22), args := #[.tmp 48], argTypes := #[30] }, type := y6, pos := q6, after := g6, guard := none },
      { dst := some 50, op := .call { callee := .value (.func 20), args := #[.tmp 45, .tmp 49], argTypes := #[30, 30] }, type := y7, pos := q7, after := g7, guard := none },
      { dst := some 51, op := .load 30 (.tmp 11), type := y8, pos := q8, after := g8, guard := none },
      { dst := some 52, op := .call { callee := .value (.func 22), args := #[.tmp 51], argTypes := #[30] }, type := y9, pos := q9, after := g9, guard := none },
      { dst := some 53, op := .call { callee := .value (.func 20), args := #[.tmp 50, .tmp 52], argTypes := #[30, 30] }, type := y10, pos := q10, after := g10, guard := none },
      { dst := some 13, op := .alloc 30, type := y11, pos := q11, after := g11, guard := none },
      { dst := none, op := .store 30 (.tmp 13) (.tmp 53), type := y12, pos := q12, after := g12, guard := none }])
    (hchk : chkN adds_reg1Pre ops = true) (hsz : a0.tmps.size = 77) (e7 : a0.eval (.tmp 7) = .pointer (some ⟨A, 0, none⟩)) (e9 : a0.eval (.tmp 9) = .pointer (some ⟨D, 0, none⟩)) (e8 : a0.eval (.tmp 8) = .pointer (some ⟨B, 0, none⟩)) (e10 : a0.eval (.tmp 10) = .pointer (some ⟨E, 0, none⟩)) (e11 : a0.eval (.tmp 11) = .pointer (some ⟨G, 0, none⟩)) (tA : Two w1 A ax ay) (tD : Two w1 D dx dy) (tB : Two w1 B bx by_) (tE : Two w1 E ex ey) (tG : Two w1 G gx gy)
    (h1 : ∀ w, Calls Try.prog 19 #[dv ax ay, dv dx dy] w fun r w' => r = .returned (dv pa pb) ∧ Bel w w')
    (h2 : ∀ w, Calls Try.prog 19 #[dv bx by_, dv ex ey] w fun r w' => r = .returned (dv qa qb) ∧ Bel w w')
    (h3 : ∀ w, Calls Try.prog 22 #[dv qa qb] w fun r w' => r = .returned (dv na nb) ∧ Bel w w')
    (h4 : ∀ w, Calls Try.prog 20 #[dv pa pb, dv na nb] w fun r w' => r = .returned (dv ra rb) ∧ Bel w w')
    (h5 : ∀ w, Calls Try.prog 22 #[dv gx gy] w fun r w' => r = .returned (dv oa ob) ∧ Bel w w')
    (h6 : ∀ w, Calls Try.prog 20 #[dv ra rb, dv oa ob] w fun r w' => r = .returned (dv za zb) ∧ Bel w w')
    (hQ : ∀ f w X, Bel w1 w → f 13 = .pointer (some ⟨X, 0, none⟩) → w1.heap.size ≤ X → Two w X za zb → Q .normal (actOf a0 [43, 44, 45, 46, 47, 48, 49, 50, 51, 52, 53, 13] f) w) : (Code.region id ops true).wp Try.prog Q a0 w1 := by
  obtain ⟨y0, y1, y2, y3, y4, y5, y6, y7, y8, y9, y10, y11, y12, q0, q1, q2, q3, q4, q5, q6, q7, q8, q9, q10, q11, q12, g0, g1, g2, g3, g4, g5, g6, g7, g8, g9, g10, g11, g12, rfl⟩ := hops
  obtain ⟨ds, hds⟩ : ∃ ds, ds = [43, 44, 45, 46, 47, 48, 49, 50, 51, 52, 53, 13] := ⟨_, rfl⟩
  rw [← hds] at hQ
  have out : ∀ f t, t ∉ ds → (actOf a0 ds f).eval (.tmp t) = a0.eval (.tmp t) := fun f t h => actOf_out a0 _ f h
  have inn : ∀ f t, t ∈ ds → t < 77 → (actOf a0 ds f).eval (.tmp t) = f t := fun f t h h2 => actOf_in a0 _ f h (by rw [hsz]; exact h2)
  rw [← actOf_self a0 ds]
  have hA : Apart ([(0, 43, fun z => z = dv ax ay), (1, 44, fun z => z = dv dx dy), (2, 45, fun z => z = dv pa pb), (3, 46, fun z => z = dv bx by_), (4, 47, fun z => z = dv ex ey), (5, 48, fun z => z = dv qa qb), (6, 49, fun z => z = dv na nb), (7, 50, fun z => z = dv ra rb), (8, 51, fun z => z = dv gx gy), (9, 52, fun z => z = dv oa ob), (10, 53, fun z => z = dv za zb)] : Leaves) [⟨11, 13, 12, 53, 10⟩] := by
    refine ⟨by simp, by simp, by simp, by simp, by simp, by simp, by simp, by simp⟩
  refine wp_region_gv (pre := adds_reg1Pre) (actOf a0 ds) (fun t => a0.eval (.tmp t)) (by kernel_rfl) hchk _ _ hA ?_ ⟨by simp, by simp⟩ ?_
  · intro i hi
    have hi : i < 13 := hi
    match i, hi with
    | 0, _ => exact .value 43 (fun z => z = dv ax ay) (by simp) fun f w hB h => wpOp_go rfl rfl (step_load (d := some 43) rfl rfl ((out f 7 (by rw [hds]; decide)).trans e7) (load_num (tA.by hB)) ⟨_, actOf_put _ _ _ (by rw [hds]; decide) _, rfl, Bel.refl _⟩)
    | 1, _ => exact .value 44 (fun z => z = dv dx dy) (by simp) fun f w hB h => wpOp_go rfl rfl (step_load (d := some 44) rfl rfl ((out f 9 (by rw [hds]; decide)).trans e9) (load_num (tD.by hB)) ⟨_, actOf_put _ _ _ (by rw [hds]; decide) _, rfl, Bel.refl _⟩)
    | 2, _ => exact .value 45 (fun z => z = dv pa pb) (by simp) fun f w hB h => wpOp_go rfl rfl (step_call2 (d := some 45) rfl rfl ((inn f 43 (by rw [hds]; decide) (by decide)).trans (h (0, 43, fun z => z = dv ax ay) (by simp) (by simp [adds_reg1Pre]))) ((inn f 44 (by rw [hds]; decide) (by decide)).trans (h (1, 44, fun z => z = dv dx dy) (by simp) (by simp [adds_reg1Pre]))) (by kernel_rfl) ((h1 _).mono fun _ _ ⟨k1, k2⟩ => ⟨_, k1, _, actOf_put _ _ _ (by rw [hds]; decide) _, rfl, k2⟩))
    | 3, _ => exact .value 46 (fun z => z = dv bx by_) (by simp) fun f w hB h => wpOp_go rfl rfl (step_load (d := some 46) rfl rfl ((out f 8 (by rw [hds]; decide)).trans e8) (load_num (tB.by hB)) ⟨_, actOf_put _ _ _ (by rw [hds]; decide) _, rfl, Bel.refl _⟩)
    | 4, _ => exact .value 47 (fun z => z = dv ex ey) (by simp) fun f w hB h => wpOp_go rfl rfl (step_load (d := some 47) rfl rfl ((out f 10 (by rw [hds]; decide)).trans e10) (load_num (tE.by hB)) ⟨_, actOf_put _ _ _ (by rw [hds]; decide) _, rfl, Bel.refl _⟩)
    | 5, _ => exact .value 48 (fun z => z = dv qa qb) (by simp) fun f w hB h => wpOp_go rfl rfl (step_call2 (d := some 48) rfl rfl ((inn f 46 (by rw [hds]; decide) (by decide)).trans (h (3, 46, fun z => z = dv bx by_) (by simp) (by simp [adds_reg1Pre]))) ((inn f 47 (by rw [hds]; decide) (by decide)).trans (h (4, 47, fun z => z = dv ex ey) (by simp) (by simp [adds_reg1Pre]))) (by kernel_rfl) ((h2 _).mono fun _ _ ⟨k1, k2⟩ => ⟨_, k1, _, actOf_put _ _ _ (by rw [hds]; decide) _, rfl, k2⟩))
    | 6, _ => exact .value 49 (fun z => z = dv na nb) (by simp) fun f w hB h => wpOp_go rfl rfl (step_call1 (d := some 49) rfl rfl ((inn f 48 (by rw [hds]; decide) (by decide)).trans (h (5, 48, fun z => z = dv qa qb) (by simp) (by simp [adds_reg1Pre]))) (by kernel_rfl) ((h3 _).mono fun _ _ ⟨k1, k2⟩ => ⟨_, k1, _, actOf_put _ _ _ (by rw [hds]; decide) _, rfl, k2⟩))
    | 7, _ => exact .value 50 (fun z => z = dv ra rb) (by simp) fun f w hB h => wpOp_go rfl rfl (step_call2 (d := some 50) rfl rfl ((inn f 45 (by rw [hds]; decide) (by decide)).trans (h (2, 45, fun z => z = dv pa pb) (by simp) (by simp [adds_reg1Pre]))) ((inn f 49 (by rw [hds]; decide) (by decide)).trans (h (6, 49, fun z => z = dv na nb) (by simp) (by simp [adds_reg1Pre]))) (by kernel_rfl) ((h4 _).mono fun _ _ ⟨k1, k2⟩ => ⟨_, k1, _, actOf_put _ _ _ (by rw [hds]; decide) _, rfl, k2⟩))
    | 8, _ => exact .value 51 (fun z => z = dv gx gy) (by simp) fun f w hB h => wpOp_go rfl rfl (step_load (d := some 51) rfl rfl ((out f 11 (by rw [hds]; decide)).trans e11) (load_num (tG.by hB)) ⟨_, actOf_put _ _ _ (by rw [hds]; decide) _, rfl, Bel.refl _⟩)
    | 9, _ => exact .value 52 (fun z => z = dv oa ob) (by simp) fun f w hB h => wpOp_go rfl rfl (step_call1 (d := some 52) rfl rfl ((inn f 51 (by rw [hds]; decide) (by decide)).trans (h (8, 51, fun z => z = dv gx gy) (by simp) (by simp [adds_reg1Pre]))) (by kernel_rfl) ((h5 _).mono fun _ _ ⟨k1, k2⟩ => ⟨_, k1, _, actOf_put _ _ _ (by rw [hds]; decide) _, rfl, k2⟩))
    | 10, _ => exact .value 53 (fun z => z = dv za zb) (by simp) fun f w hB h => wpOp_go rfl rfl (step_call2 (d := some 53) rfl rfl ((inn f 50 (by rw [hds]; decide) (by decide)).trans (h (7, 50, fun z => z = dv ra rb) (by simp) (by simp [adds_reg1Pre]))) ((inn f 52 (by rw [hds]; decide) (by decide)).trans (h (9, 52, fun z => z = dv oa ob) (by simp) (by simp [adds_reg1Pre]))) (by kernel_rfl) ((h6 _).mono fun _ _ ⟨k1, k2⟩ => ⟨_, k1, _, actOf_put _ _ _ (by rw [hds]; decide) _, rfl, k2⟩))
    | 11, _ => exact .alloc ⟨11, 13, 12, 53, 10⟩ (by simp) rfl 30 fun f w K hK => wpOp_go rfl rfl (step_alloc (d := some 13) rfl rfl (by rw [actOf_put _ _ _ (by rw [hds]; decide)]; exact hK))
    | 12, _ => exact .store ⟨11, 13, 12, 53, 10⟩ (by simp) rfl (by simp [adds_reg1Pre]) (by simp [adds_reg1Pre]) (by simp) fun f w K X a b α β hX hv hT hK => wpOp_go rfl rfl (step_store (d := none) rfl rfl ((inn f 13 (by rw [hds]; decide) (by decide)).trans hX) ((inn f 53 (by rw [hds]; decide) (by decide)).trans hv) hT hK)
  · intro f w hB h hF
    obtain ⟨X, α, β, r1, r2, r3, r4⟩ := hF.1 ⟨11, 13, 12, 53, 10⟩ (by simp)
    have hv : f 53 = dv za zb := h (10, 53, fun z => z = dv za zb) (by simp)
    have r4 : f 53 = _ := r4
    rw [hv] at r4
    cases r4
    exact hQ f w X hB r1 r2 r3
def adds_reg2Pre (i : Nat) : List Nat := match i with | 2 => [0, 1] | 5 => [3, 4] | 6 => [2, 5] | 8 => [7] | 9 => [6, 8] | 11 => [10, 9] | _ => []
theorem adds_reg2 {Q : Exit → Act → World → Prop} {ops : Array Oper} {id : Nat} {w1 : World} (a0 : Act) (A B D E G ax ay bx by_ dx dy ex ey gx gy pa pb qa qb ra rb oa ob za zb : Nat)
    (hops : ∃ y0 y1 y2 y3 y4 y5 y6 y7 y8 y9 y10 y11 q0 q1 q2 q3 q4 q5 q6 q7 q8 q9 q10 q11 g0 g1 g2 g3 g4 g5 g6 g7 g8 g9 g10 g11, ops = #[
      { dst := some 54, op := .load 30 (.tmp 8), type := y0, pos := q0, after := g0, guard := none },
      { dst := some 55, op := .load 30 (.tmp 9), type := y1, pos := q1, after := g1, guard := none },
      { dst := some 56, op := .call { callee := .value (.func 19), args := #[.tmp 54, .tmp 55], argTypes := #[30, 30] }, type := y2, pos := q2, after := g2, guard := none },
      { dst := some 57, op := .load 30 (.tmp 7), type := y3, pos := q3, after := g3, guard := none },
      { dst := some 58, op := .load 30 (.tmp 10), type := y4, pos := q4, after := g4, guard := none },
      { dst := some 59, op := .call { callee := .value (.func 19), args := #[.tmp 57, .tmp 58], argTypes := #[30, 30] }, type := y5, pos := q5, after := g5, guard := none },
      { dst := some 60, op := .call { callee := .value (.func 20), args := #[.tmp 56, .tmp 59], argTypes := #[30, 30] }, type := y6, pos := q6, after := g6, guard := none },
      { dst := some 61, op := .load 30 (.tmp 12), type := y7, pos := q7, after := g7, guard := none },
      { dst := some 62, op := .call { callee := .value (.func 22), args := #[.tmp 61], argTypes := #[30] }, type := y8, pos := q8, after := g8, guard := none },
      { dst := some 63, op := .call { callee := .value (.func 20), args := #[.tmp 60, .tmp 62], argTypes := #[30, 30] }, type := y9, pos := q9, after := g9, guard := none },
      { dst := some 14, op := .alloc 30, type := y10, pos := q10, after := g10, guard := none },
      { dst := none, op := .store 30 (.tmp 14) (.tmp 63), type := y11, pos := q11, after := g11, guard := none }])
    (hchk : chkN adds_reg2Pre ops = true) (hsz : a0.tmps.size = 77) (e8 : a0.eval (.tmp 8) = .pointer (some ⟨B, 0, none⟩)) (e9 : a0.eval (.tmp 9) = .pointer (some ⟨D, 0, none⟩)) (e7 : a0.eval (.tmp 7) = .pointer (some ⟨A, 0, none⟩)) (e10 : a0.eval (.tmp 10) = .pointer (some ⟨E, 0, none⟩)) (e12 : a0.eval (.tmp 12) = .pointer (some ⟨G, 0, none⟩)) (tB : Two w1 B bx by_) (tD : Two w1 D dx dy) (tA : Two w1 A ax ay) (tE : Two w1 E ex ey) (tG : Two w1 G gx gy)
    (h1 : ∀ w, Calls Try.prog 19 #[dv bx by_, dv dx dy] w fun r w' => r = .returned (dv pa pb) ∧ Bel w w')
    (h2 : ∀ w, Calls Try.prog 19 #[dv ax ay, dv ex ey] w fun r w' => r = .returned (dv qa qb) ∧ Bel w w')
    (h4 : ∀ w, Calls Try.prog 20 #[dv pa pb, dv qa qb] w fun r w' => r = .returned (dv ra rb) ∧ Bel w w')
    (h5 : ∀ w, Calls Try.prog 22 #[dv gx gy] w fun r w' => r = .returned (dv oa ob) ∧ Bel w w')
    (h6 : ∀ w, Calls Try.prog 20 #[dv ra rb, dv oa ob] w fun r w' => r = .returned (dv za zb) ∧ Bel w w')
    (hQ : ∀ f w X, Bel w1 w → f 14 = .pointer (some ⟨X, 0, none⟩) → w1.heap.size ≤ X → Two w X za zb → Q .normal (actOf a0 [54, 55, 56, 57, 58, 59, 60, 61, 62, 63, 14] f) w) : (Code.region id ops true).wp Try.prog Q a0 w1 := by
  obtain ⟨y0, y1, y2, y3, y4, y5, y6, y7, y8, y9, y10, y11, q0, q1, q2, q3, q4, q5, q6, q7, q8, q9, q10, q11, g0, g1, g2, g3, g4, g5, g6, g7, g8, g9, g10, g11, rfl⟩ := hops
  obtain ⟨ds, hds⟩ : ∃ ds, ds = [54, 55, 56, 57, 58, 59, 60, 61, 62, 63, 14] := ⟨_, rfl⟩
  rw [← hds] at hQ
  have out : ∀ f t, t ∉ ds → (actOf a0 ds f).eval (.tmp t) = a0.eval (.tmp t) := fun f t h => actOf_out a0 _ f h
  have inn : ∀ f t, t ∈ ds → t < 77 → (actOf a0 ds f).eval (.tmp t) = f t := fun f t h h2 => actOf_in a0 _ f h (by rw [hsz]; exact h2)
  rw [← actOf_self a0 ds]
  have hA : Apart ([(0, 54, fun z => z = dv bx by_), (1, 55, fun z => z = dv dx dy), (2, 56, fun z => z = dv pa pb), (3, 57, fun z => z = dv ax ay), (4, 58, fun z => z = dv ex ey), (5, 59, fun z => z = dv qa qb), (6, 60, fun z => z = dv ra rb), (7, 61, fun z => z = dv gx gy), (8, 62, fun z => z = dv oa ob), (9, 63, fun z => z = dv za zb)] : Leaves) [⟨10, 14, 11, 63, 9⟩] := by
    refine ⟨by simp, by simp, by simp, by simp, by simp, by simp, by simp, by simp⟩
  refine wp_region_gv (pre := adds_reg2Pre) (actOf a0 ds) (fun t => a0.eval (.tmp t)) (by kernel_rfl) hchk _ _ hA ?_ ⟨by simp, by simp⟩ ?_
  · intro i hi
    have hi : i < 12 := hi
    match i, hi with
    | 0, _ => exact .value 54 (fun z => z = dv bx by_) (by simp) fun f w hB h => wpOp_go rfl rfl (step_load (d := some 54) rfl rfl ((out f 8 (by rw [hds]; decide)).trans e8) (load_num (tB.by hB)) ⟨_, actOf_put _ _ _ (by rw [hds]; decide) _, rfl, Bel.refl _⟩)
    | 1, _ => exact .value 55 (fun z => z = dv dx dy) (by simp) fun f w hB h => wpOp_go rfl rfl (step_load (d := some 55) rfl rfl ((out f 9 (by rw [hds]; decide)).trans e9) (load_num (tD.by hB)) ⟨_, actOf_put _ _ _ (by rw [hds]; decide) _, rfl, Bel.refl _⟩)
    | 2, _ => exact .value 56 (fun z => z = dv pa pb) (by simp) fun f w hB h => wpOp_go rfl rfl (step_call2 (d := some 56) rfl rfl ((inn f 54 (by rw [hds]; decide) (by decide)).trans (h (0, 54, fun z => z = dv bx by_) (by simp) (by simp [adds_reg2Pre]))) ((inn f 55 (by rw [hds]; decide) (by decide)).trans (h (1, 55, fun z => z = dv dx dy) (by simp) (by simp [adds_reg2Pre]))) (by kernel_rfl) ((h1 _).mono fun _ _ ⟨k1, k2⟩ => ⟨_, k1, _, actOf_put _ _ _ (by rw [hds]; decide) _, rfl, k2⟩))
    | 3, _ => exact .value 57 (fun z => z = dv ax ay) (by simp) fun f w hB h => wpOp_go rfl rfl (step_load (d := some 57) rfl rfl ((out f 7 (by rw [hds]; decide)).trans e7) (load_num (tA.by hB)) ⟨_, actOf_put _ _ _ (by rw [hds]; decide) _, rfl, Bel.refl _⟩)
    | 4, _ => exact .value 58 (fun z => z = dv ex ey) (by simp) fun f w hB h => wpOp_go rfl rfl (step_load (d := some 58) rfl rfl ((out f 10 (by rw [hds]; decide)).trans e10) (load_num (tE.by hB)) ⟨_, actOf_put _ _ _ (by rw [hds]; decide) _, rfl, Bel.refl _⟩)
    | 5, _ => exact .value 59 (fun z => z = dv qa qb) (by simp) fun f w hB h => wpOp_go rfl rfl (step_call2 (d := some 59) rfl rfl ((inn f 57 (by rw [hds]; decide) (by decide)).trans (h (3, 57, fun z => z = dv ax ay) (by simp) (by simp [adds_reg2Pre]))) ((inn f 58 (by rw [hds]; decide) (by decide)).trans (h (4, 58, fun z => z = dv ex ey) (by simp) (by simp [adds_reg2Pre]))) (by kernel_rfl) ((h2 _).mono fun _ _ ⟨k1, k2⟩ => ⟨_, k1, _, actOf_put _ _ _ (by rw [hds]; decide) _, rfl, k2⟩))
    | 6, _ => exact .value 60 (fun z => z = dv ra rb) (by simp) fun f w hB h => wpOp_go rfl rfl (step_call2 (d := some 60) rfl rfl ((inn f 56 (by rw [hds]; decide) (by decide)).trans (h (2, 56, fun z => z = dv pa pb) (by simp) (by simp [adds_reg2Pre]))) ((inn f 59 (by rw [hds]; decide) (by decide)).trans (h (5, 59, fun z => z = dv qa qb) (by simp) (by simp [adds_reg2Pre]))) (by kernel_rfl) ((h4 _).mono fun _ _ ⟨k1, k2⟩ => ⟨_, k1, _, actOf_put _ _ _ (by rw [hds]; decide) _, rfl, k2⟩))
    | 7, _ => exact .value 61 (fun z => z = dv gx gy) (by simp) fun f w hB h => wpOp_go rfl rfl (step_load (d := some 61) rfl rfl ((out f 12 (by rw [hds]; decide)).trans e12) (load_num (tG.by hB)) ⟨_, actOf_put _ _ _ (by rw [hds]; decide) _, rfl, Bel.refl _⟩)
    | 8, _ => exact .value 62 (fun z => z = dv oa ob) (by simp) fun f w hB h => wpOp_go rfl rfl (step_call1 (d := some 62) rfl rfl ((inn f 61 (by rw [hds]; decide) (by decide)).trans (h (7, 61, fun z => z = dv gx gy) (by simp) (by simp [adds_reg2Pre]))) (by kernel_rfl) ((h5 _).mono fun _ _ ⟨k1, k2⟩ => ⟨_, k1, _, actOf_put _ _ _ (by rw [hds]; decide) _, rfl, k2⟩))
    | 9, _ => exact .value 63 (fun z => z = dv za zb) (by simp) fun f w hB h => wpOp_go rfl rfl (step_call2 (d := some 63) rfl rfl ((inn f 60 (by rw [hds]; decide) (by decide)).trans (h (6, 60, fun z => z = dv ra rb) (by simp) (by simp [adds_reg2Pre]))) ((inn f 62 (by rw [hds]; decide) (by decide)).trans (h (8, 62, fun z => z = dv oa ob) (by simp) (by simp [adds_reg2Pre]))) (by kernel_rfl) ((h6 _).mono fun _ _ ⟨k1, k2⟩ => ⟨_, k1, _, actOf_put _ _ _ (by rw [hds]; decide) _, rfl, k2⟩))
    | 10, _ => exact .alloc ⟨10, 14, 11, 63, 9⟩ (by simp) rfl 30 fun f w K hK => wpOp_go rfl rfl (step_alloc (d := some 14) rfl rfl (by rw [actOf_put _ _ _ (by rw [hds]; decide)]; exact hK))
    | 11, _ => exact .store ⟨10, 14, 11, 63, 9⟩ (by simp) rfl (by simp [adds_reg2Pre]) (by simp [adds_reg2Pre]) (by simp) fun f w K X a b α β hX hv hT hK => wpOp_go rfl rfl (step_store (d := none) rfl rfl ((inn f 14 (by rw [hds]; decide) (by decide)).trans hX) ((inn f 63 (by rw [hds]; decide) (by decide)).trans hv) hT hK)
  · intro f w hB h hF
    obtain ⟨X, α, β, r1, r2, r3, r4⟩ := hF.1 ⟨10, 14, 11, 63, 9⟩ (by simp)
    have hv : f 63 = dv za zb := h (9, 63, fun z => z = dv za zb) (by simp)
    have r4 : f 63 = _ := r4
    rw [hv] at r4
    cases r4
    exact hQ f w X hB r1 r2 r3
end Go.Proofs.Ytpifkjmdcbieoaa

/- Sums of products of cosines and sines, in words: how small what they lack is (layer 5). -/
namespace Go.Proofs.Ytpifkjmdcbieoaa
open Go.RowKit

def e988 : Nat := 988
def c86 : Nat := 77371252455336267181195264
theorem small_hi {H L : Int} (h : Flt.rn (H + L) = H) (hz : Wi (reR (H + L) * uR) 8589934592) : H.natAbs < 2 ^ e988 := by
  have hv := v_nat
  have h1 : 2 ^ Flt.uE = 2 ^ e988 * c86 := by
    have h : Flt.uE = e988 + 86 := rfl
    have h2 : c86 = 2 ^ 86 := by decide
    rw [h, h2, Nat.pow_add]
  rw [h1, Rat.natCast_mul] at hv
  have hu : uR = (c86 : Rat) * 17179869184 := by
    have : one120 = c86 * 17179869184 := by decide
    unfold uR
    rw [this]; push_cast; rfl
  have pc : (0 : Rat) < (c86 : Rat) := by exact_mod_cast (show 0 < c86 by decide)
  have pn : (0 : Rat) < ((2 ^ e988 : Nat) : Rat) := by exact_mod_cast Flt.two_posN e988
  have hw : Wi (reR (H + L)) (1 / (c86 : Rat) * (1 / 2)) := by
    obtain ⟨a, b⟩ := hz
    rw [hu] at a b
    have e : 1 / (c86 : Rat) * (c86 : Rat) = 1 := by grind
    generalize 1 / (c86 : Rat) = i at *
    generalize (c86 : Rat) = c at *
    have k1 := nonneg_of pc (d := i * (1 / 2) - reR (H + L)) (by grind)
    have k2 := nonneg_of pc (d := i * (1 / 2) + reR (H + L)) (by grind)
    exact ⟨by grind, by grind⟩
  have hb := hi_re h hw
  have key : ((H.natAbs : Nat) : Rat) < ((2 ^ e988 : Nat) : Rat) := by
    rw [← hv] at hb
    have e : 1 / (c86 : Rat) * (c86 : Rat) = 1 := by grind
    generalize 1 / (c86 : Rat) = i at *
    generalize (c86 : Rat) = c at *
    generalize ((2 ^ e988 : Nat) : Rat) = N at *
    generalize ((H.natAbs : Nat) : Rat) = M at *
    have e2 : 32 / 31 * (i * (1 / 2)) * (N * c) = 16 / 31 * N := by
      have : 32 / 31 * (i * (1 / 2)) * (N * c) = 16 / 31 * N * (i * c) := by grind
      rw [this, e]; grind
    rw [e2] at hb
    grind
  exact_mod_cast key
theorem minus_one : NP 13830554455654793216 0 (-1) := by
  have h := num_neg one_num
  have e : Op.negFloat .f64 4607182418800017408 = 13830554455654793216 := by
    rw [neg_eq _ (by decide)]; decide
  rw [e] at h
  refine ⟨-(2 ^ Flt.uE), 0, h, num_zero_k, ?_, ?_, ?_⟩
  · rw [Int.add_zero, Flt.rn_neg, Flt.rn_fl (fl_two Flt.uE)]
  · rw [Int.natAbs_neg, Flt.natAbs_two]
    exact Flt.two_le (a := Flt.uE) (b := 1240) (by decide)
  · rw [Int.add_zero, reR_neg]
    have h1 := whole_re 1
    have e1 : ((1 : Nat) : Int) * 2 ^ Flt.uE = 2 ^ Flt.uE := Int.one_mul _
    have z1 : ((1 : Nat) : Rat) = 1 := by exact_mod_cast rfl
    rw [e1, z1] at h1
    rw [h1]
theorem eX_small : eX * 10 ≤ uR ∧ 8001 ≤ eX := by
  have := uR_big2
  unfold eX
  constructor <;> grind
theorem wi_of {c C : Rat} (h : InU eX c C) (hC : -(11 / 10) ≤ C ∧ C ≤ 11 / 10) : Wi c (6 / 5) := by
  obtain ⟨a, b⟩ := h.flat30 (show eX ≤ 2000000000 by unfold eX; grind)
  exact ⟨by grind, by grind⟩
set_option maxHeartbeats 1000000 in
theorem circ_words {F : Int → Int → W4} (hF : AxisF F) (k n : Int) (hn : 1 ≤ n ∧ n ≤ 1099511627776) : ∃ px py qx qy rx ry zx zy H,
    (∀ w, Calls Try.prog 19 #[dv (exW F k n).a (exW F k n).b, dv (exW F k n).a (exW F k n).b] w fun r w' => r = .returned (dv px py) ∧ Bel w w') ∧
    (∀ w, Calls Try.prog 19 #[dv (exW F k n).c (exW F k n).d, dv (exW F k n).c (exW F k n).d] w fun r w' => r = .returned (dv qx qy) ∧ Bel w w') ∧
    (∀ w, Calls Try.prog 20 #[dv px py, dv qx qy] w fun r w' => r = .returned (dv rx ry) ∧ Bel w w') ∧
    (∀ w, Calls Try.prog 20 #[dv rx ry, dv 13830554455654793216 0] w fun r w' => r = .returned (dv zx zy) ∧ Bel w w') ∧ Flt.Num zx H ∧ H.natAbs < 2 ^ e988 := by
  obtain ⟨c, s, d1, d2, e1, e2⟩ := (exact_near hF k n hn).ex
  obtain ⟨a0, a1⟩ := ang_range (k := k) (n := n) (by omega)
  have w1 := wi_of e1 (cos_le (by grind) (by grind))
  have w2 := wi_of e2 (sin_le (by grind) (by grind))
  have hc := circle_near (k := k) (n := n) (by omega) eX_small.2 eX_small.1 e1 e2
  have c9 : (2 : Rat) ≤ (c90 : Rat) := by exact_mod_cast (show 2 ≤ c90 by decide)
  obtain ⟨px, py, p, np, ep, _, hp⟩ := mul_d d1 d1 w1 w1 (by grind)
  obtain ⟨qx, qy, q, nq, eq, _, hq⟩ := mul_d d2 d2 w2 w2 (by grind)
  have ep1 := ep _ _ w1 w1
  have eq1 := eq _ _ w2 w2
  obtain ⟨f1, f2⟩ := ep1.flat30 (by grind)
  obtain ⟨f3, f4⟩ := eq1.flat30 (by grind)
  obtain ⟨g1, g2⟩ := w1.mul w1
  obtain ⟨g3, g4⟩ := w2.mul w2
  obtain ⟨rx, ry, r, nr, er, _, hr⟩ := add_d (X := 2) np nq ⟨by grind, by grind⟩ ⟨by grind, by grind⟩ (by grind)
  obtain ⟨f5, f6⟩ := er.flat30 (by grind)
  obtain ⟨zx, zy, z, nz, ez, _, hz⟩ := add_d (X := 4) nr minus_one ⟨by grind, by grind⟩ ⟨by grind, by grind⟩ (by grind)
  obtain ⟨H, L, n1, n2, r1, _, v1⟩ := nz.ex
  refine ⟨px, py, qx, qy, rx, ry, zx, zy, H, hp, hq, hr, hz, n1, small_hi r1 ?_⟩
  rw [v1]
  have a1 := ez.lo
  have a2 := ez.hi
  have b1 := er.lo
  have b2 := er.hi
  have c1 := ep1.lo
  have c2 := ep1.hi
  have d1 := eq1.lo
  have d2 := eq1.hi
  have h1 := hc.lo
  have h2 := hc.hi
  unfold eX at h1 h2
  exact ⟨by grind, by grind⟩
end Go.Proofs.Ytpifkjmdcbieoaa

/- TrigCircle's walk. -/
namespace Go.Proofs.Ytpifkjmdcbieoaa
open Go.RowKit

theorem word_86 : Flt.Num 4219872850846154752 ((2 ^ e988 : Nat) : Int) := by
  have hn := Flt.num_of (x := 4219872850846154752) (by decide) (by decide)
  rw [Flt.v_mid (by decide) (by decide)] at hn
  have e1 : ((4503599627370496 + 4219872850846154752 % 4503599627370496 : Nat) : Int) = 2 ^ 52 := by decide
  have e2 : 4219872850846154752 / 4503599627370496 - 1 = 936 := by decide
  have e3 : ((2 ^ e988 : Nat) : Int) = 2 ^ 52 * 2 ^ 936 := by
    rw [Int.natCast_pow]
    have h : e988 = 52 + 936 := rfl
    rw [h, Int.pow_add]; rfl
  rw [e1, e2, ← e3] at hn
  exact hn
theorem abs_small {x c : Nat} {H : Int} {B : Nat} (hx : Flt.Num x H) (hc : Flt.Num c ((B : Nat) : Int)) (h : H.natAbs < B) (w : World) : Calls Try.prog 21 #[.float .f64 x] w fun e w' => (∃ y, e = .returned (.float .f64 y) ∧ FloatKind.f64.format.order y c = some Ordering.lt) ∧ w = w' := by
  have h64 : (2 : Nat) ^ 64 = 18446744073709551616 := rfl
  refine (abs_any x w (by have := hx.lt; omega)).mono ?_
  rintro e w' ⟨rfl, rfl⟩
  exact ⟨⟨_, rfl, ord_lt (num_abs hx) hc (by omega)⟩, rfl⟩
set_option maxHeartbeats 4000000 in
theorem circle0 (k n : Int) (w : World) (hn : -9223372036854775808 ≤ n ∧ n < 9223372036854775808) :
    Calls Try.prog 7 #[.int .i64 k, .int .i64 n] w fun e w' => e = .returned (.bool true) ∧ Bel w w' := by
  have sf := run_store_float Try.prog
  have hwk := wakes_said
  have hp := fun w => parts5_any n 1099511627776 w hn (by decide)
  obtain ⟨m, hm⟩ : ∃ m, m = partsN n 1099511627776 := ⟨_, rfl⟩
  have hr := partsN_range (n := n) (most := 1099511627776) (by decide)
  rw [← hm] at hp hr
  obtain ⟨F, hF⟩ := axis_fun
  have hE := fun w => exact_run hF k m (by omega) w
  obtain ⟨px, py, qx, qy, rx, ry, zx, zy, H, h1, h2, h3, h4, nz, hH⟩ := circ_words hF k m (by omega)
  have hA := fun w => abs_small nz word_86 hH w
  generalize (exW F k m).a = ca at *
  generalize (exW F k m).b = cb at *
  generalize (exW F k m).c = sa at *
  generalize (exW F k m).d = sb at *
  clear hm hr hn hF nz hH
  go_enter Try.func7, Try.ntmps7
  go_wp2_with fail
  refine (hp _).mono ?_; rintro r w1 ⟨rfl, rfl⟩
  go_wp2_with fail
  refine (hE _).mono ?_; rintro r w1 ⟨rfl, g1⟩
  go_upto_region 2 with fail
  obtain ⟨w2, hw2⟩ : ∃ w2, w2 = (w1.alloc (Obj.cells #[.float .f64 ca, .float .f64 cb] 30)).alloc (Obj.cells #[.float .f64 sa, .float .f64 sb] 30) := ⟨_, rfl⟩
  have tC : Two w2 w1.heap.size ca cb := by rw [hw2]; exact (Two.newN _ _ _ _ _ rfl).al _
  have tS : Two w2 (w1.heap.size + 1) sa sb := by rw [hw2]; exact Two.newN _ _ _ _ _ (by simp)
  have g2 : Bel w w2 := by rw [hw2]; exact (g1.alloc _).alloc _
  rw [← hw2]
  obtain ⟨C, hC⟩ : ∃ C, C = w1.heap.size := ⟨_, rfl⟩
  rw [← hC] at tC tS ⊢
  clear hw2 hC g1 hE hp
  refine circ_reg _ C (C + 1) ca cb sa sb px py qx qy rx ry zx zy ⟨_, _, _, _, _, _, _, _, _, _, _, _, _, _, _, _, _, _, _, _, _, _, _, _, _, _, _, _, _, _, _, _, _, rfl⟩ (by decide +kernel) rfl rfl rfl tC tS h1 h2 h3 h4 ?_
  intro f w3 X g3 r7 hX tX
  clear tC tS h1 h2 h3 h4
  unfold actOf
  simp only [List.mapIdx_toArray, List.mapIdx_cons, List.mapIdx_nil, List.mem_cons, List.mem_nil_iff, Nat.reduceEqDiff, Nat.reduceAdd, or_false, or_true, if_true, if_false, r7]
  go_wp2_with fail
  refine (hwk _).mono ?_; rintro r w4 ⟨rfl, g4⟩
  have tX4 := tX.by g4
  have x0 := tX4.c0
  have x1 := tX4.c1
  have G := (g2.trans g3).trans g4
  clear tX tX4 hX g2 g3 hwk r7 g4
  go_wp2_with fail
  refine (hA _).mono ?_; rintro r w5 ⟨⟨y, rfl, ho⟩, rfl⟩
  go_wp2
  go_ret
  exact ⟨rfl, G⟩
end Go.Proofs.Ytpifkjmdcbieoaa

/- 'a, b = a % n, b % n': the region that draws its order. -/
namespace Go.Proofs.Ytpifkjmdcbieoaa
open Go.RowKit

def remPre (i : Nat) : List Nat := match i with | 2 => [0, 1] | 5 => [3, 4] | 6 => [0, 1, 2] | 7 => [0, 1, 2, 3, 4, 5, 6] | _ => []
structure RemI (cs : Vals) (va vb : Value) (D : Nat → Bool) (f : Nat → Value) : Prop where
  cv : CV cs D f
  a : D 6 = false → f 0 = va
  b : D 7 = false → f 1 = vb
  ca : D 6 = true → D 0 = true
  cb : D 7 = true → D 3 = true
theorem RemI.put {cs : Vals} {va vb : Value} {D : Nat → Bool} {f : Nat → Value} (h : RemI cs va vb D f) (h1 : (cs.map (·.1)).Nodup) (h2 : (cs.map (·.2.1)).Nodup) {i t : Nat} {v : Value} (hm : (i, t, v) ∈ cs) (h6 : i = 6 → D 0 = true) (h7 : i = 7 → D 3 = true) (t0 : t = 0 → i = 6) (t1 : t = 1 → i = 7) : RemI cs va vb (fun k => D k || k == i) (tset f t v) := by
  refine ⟨h.cv.self i t v fun c hc => ?_, fun hd => ?_, fun hd => ?_, fun hd => ?_, fun hd => ?_⟩
  · by_cases e : c.1 = i
    · have := nodup_one h1 c hc _ hm e
      subst this
      exact Or.inl ⟨rfl, rfl, rfl⟩
    · refine Or.inr ⟨e, fun ht => e ?_⟩
      have := nodup_one h2 c hc _ hm ht
      rw [this]
  · rw [Bool.or_eq_false_iff, beq_eq_false_iff_ne] at hd
    rw [tset_ne _ _ (fun e => hd.2 (t0 e.symm).symm)]
    exact h.a hd.1
  · rw [Bool.or_eq_false_iff, beq_eq_false_iff_ne] at hd
    rw [tset_ne _ _ (fun e => hd.2 (t1 e.symm).symm)]
    exact h.b hd.1
  · rcases dcases hd with e | e
    · exact dup (h.ca e)
    · exact dup (h6 e.symm)
  · rcases dcases hd with e | e
    · exact dup (h.cb e)
    · exact dup (h7 e.symm)
theorem rem_run (w : World) (a m r : Int) (h0 : (m == 0) = false) (h : a.tmod m = r) (s x : Operand) : (eqGuard .rem 2 s x (.int .i64 a) (.int .i64 m)).run Try.prog w = .ok () w ∧ (binOp .rem 2 (.int .i64 a) (.int .i64 m)).run Try.prog w = .ok (.int .i64 r) w := by
  constructor
  · simp [go_sem]
  · simp [go_sem, h]
    exact beq_eq_false_iff_ne.1 h0
theorem rem_reg {Q : Exit → Act → World → Prop} {ops : Array Oper} {id : Nat} {w : World} (a0 : Act) (a b m α β : Int)
    (hops : ∃ y0 y1 y2 y3 y4 y5 y6 y7 q0 q1 q2 q3 q4 q5 q6 q7 g0 g1 g2 g3 g4 g5 g6 g7, ops = #[
      { dst := some 17, op := .move (.tmp 0), type := y0, pos := q0, after := g0, guard := none },
      { dst := some 18, op := .move (.tmp 2), type := y1, pos := q1, after := g1, guard := none },
      { dst := some 19, op := .binOp .rem 2 (.tmp 17) (.tmp 18) 2, type := y2, pos := q2, after := g2, guard := none },
      { dst := some 20, op := .move (.tmp 1), type := y3, pos := q3, after := g3, guard := none },
      { dst := some 21, op := .move (.tmp 2), type := y4, pos := q4, after := g4, guard := none },
      { dst := some 22, op := .binOp .rem 2 (.tmp 20) (.tmp 21) 2, type := y5, pos := q5, after := g5, guard := none },
      { dst := some 0, op := .assign (.tmp 19), type := y6, pos := q6, after := g6, guard := none },
      { dst := some 1, op := .assign (.tmp 22), type := y7, pos := q7, after := g7, guard := none }])
    (hchk : chkN remPre ops = true) (hsz : a0.tmps.size = 77) (e0 : a0.eval (.tmp 0) = .int .i64 a) (e1 : a0.eval (.tmp 1) = .int .i64 b) (e2 : a0.eval (.tmp 2) = .int .i64 m) (hm : (m == 0) = false) (ha : a.tmod m = α) (hb : b.tmod m = β)
    (hQ : ∀ f, f 0 = .int .i64 α → f 1 = .int .i64 β → Q .normal (actOf a0 [17, 18, 19, 20, 21, 22, 0, 1] f) w.drew) : (Code.region id ops true).wp Try.prog Q a0 w := by
  obtain ⟨y0, y1, y2, y3, y4, y5, y6, y7, q0, q1, q2, q3, q4, q5, q6, q7, g0, g1, g2, g3, g4, g5, g6, g7, rfl⟩ := hops
  obtain ⟨ds, hds⟩ : ∃ ds, ds = [17, 18, 19, 20, 21, 22, 0, 1] := ⟨_, rfl⟩
  rw [← hds] at hQ
  have out : ∀ f t, t ∉ ds → (actOf a0 ds f).eval (.tmp t) = a0.eval (.tmp t) := fun f t h => actOf_out a0 _ f h
  have inn : ∀ f t, t ∈ ds → t < 77 → (actOf a0 ds f).eval (.tmp t) = f t := fun f t h h2 => actOf_in a0 _ f h (by rw [hsz]; exact h2)
  rw [← actOf_self a0 ds]
  obtain ⟨cs, hcs⟩ : ∃ cs : Vals, cs = [(0, 17, .int .i64 a), (1, 18, .int .i64 m), (2, 19, .int .i64 α), (3, 20, .int .i64 b), (4, 21, .int .i64 m), (5, 22, .int .i64 β), (6, 0, .int .i64 α), (7, 1, .int .i64 β)] := ⟨_, rfl⟩
  have h1 : (cs.map (·.1)).Nodup := by rw [hcs]; simp
  have h2 : (cs.map (·.2.1)).Nodup := by rw [hcs]; simp
  refine wp_region_set (pre := remPre) (by kernel_rfl) hchk (fun D x w' => ∃ f, x = actOf a0 ds f ∧ w' = w.drew ∧ RemI cs (.int .i64 a) (.int .i64 b) D f) ⟨_, rfl, rfl, fun _ _ h => absurd h Bool.false_ne_true, fun _ => e0, fun _ => e1, fun h => absurd h Bool.false_ne_true, fun h => absurd h Bool.false_ne_true⟩ ?_ ?_
  · rintro D x w' i hi hD hp ⟨f, rfl, rfl, hI⟩
    have hi : i < 8 := hi
    match i, hi with
    | 0, _ =>
      have d6 : D 6 = false := by cases h : D 6 with
        | false => rfl
        | true => rw [hI.ca h] at hD; exact hD
      exact wpOp_go rfl rfl (step_move (d := some 17) rfl (Or.inl rfl) ((inn f 0 (by rw [hds]; decide) (by decide)).trans (hI.a d6)) ⟨_, actOf_put _ _ _ (by rw [hds]; decide) _, rfl, hI.put h1 h2 (by rw [hcs]; simp) (by simp) (by simp) (by simp) (by simp)⟩)
    | 1, _ => exact wpOp_go rfl rfl (step_move (d := some 18) rfl (Or.inl rfl) ((out f 2 (by rw [hds]; decide)).trans e2) ⟨_, actOf_put _ _ _ (by rw [hds]; decide) _, rfl, hI.put h1 h2 (by rw [hcs]; simp) (by simp) (by simp) (by simp) (by simp)⟩)
    | 2, _ =>
      have k1 := hI.cv (0, 17, .int .i64 a) (by rw [hcs]; simp) (hp 0 (by simp [remPre]))
      have k2 := hI.cv (1, 18, .int .i64 m) (by rw [hcs]; simp) (hp 1 (by simp [remPre]))
      obtain ⟨u1, u2⟩ := rem_run w.drew a m α hm ha (.tmp 17) (.tmp 18)
      exact wpOp_go rfl rfl (step_bin (d := some 19) rfl rfl ((inn f 17 (by rw [hds]; decide) (by decide)).trans k1) ((inn f 18 (by rw [hds]; decide) (by decide)).trans k2) u1 u2 ⟨_, actOf_put _ _ _ (by rw [hds]; decide) _, rfl, hI.put h1 h2 (by rw [hcs]; simp) (by simp) (by simp) (by simp) (by simp)⟩)
    | 3, _ =>
      have d7 : D 7 = false := by cases h : D 7 with
        | false => rfl
        | true => rw [hI.cb h] at hD; exact hD
      exact wpOp_go rfl rfl (step_move (d := some 20) rfl (Or.inl rfl) ((inn f 1 (by rw [hds]; decide) (by decide)).trans (hI.b d7)) ⟨_, actOf_put _ _ _ (by rw [hds]; decide) _, rfl, hI.put h1 h2 (by rw [hcs]; simp) (by simp) (by simp) (by simp) (by simp)⟩)
    | 4, _ => exact wpOp_go rfl rfl (step_move (d := some 21) rfl (Or.inl rfl) ((out f 2 (by rw [hds]; decide)).trans e2) ⟨_, actOf_put _ _ _ (by rw [hds]; decide) _, rfl, hI.put h1 h2 (by rw [hcs]; simp) (by simp) (by simp) (by simp) (by simp)⟩)
    | 5, _ =>
      have k1 := hI.cv (3, 20, .int .i64 b) (by rw [hcs]; simp) (hp 3 (by simp [remPre]))
      have k2 := hI.cv (4, 21, .int .i64 m) (by rw [hcs]; simp) (hp 4 (by simp [remPre]))
      obtain ⟨u1, u2⟩ := rem_run w.drew b m β hm hb (.tmp 20) (.tmp 21)
      exact wpOp_go rfl rfl (step_bin (d := some 22) rfl rfl ((inn f 20 (by rw [hds]; decide) (by decide)).trans k1) ((inn f 21 (by rw [hds]; decide) (by decide)).trans k2) u1 u2 ⟨_, actOf_put _ _ _ (by rw [hds]; decide) _, rfl, hI.put h1 h2 (by rw [hcs]; simp) (by simp) (by simp) (by simp) (by simp)⟩)
    | 6, _ =>
      have k1 := hI.cv (2, 19, .int .i64 α) (by rw [hcs]; simp) (hp 2 (by simp [remPre]))
      exact wpOp_go rfl rfl (step_move (d := some 0) rfl (Or.inr rfl) ((inn f 19 (by rw [hds]; decide) (by decide)).trans k1) ⟨_, actOf_put _ _ _ (by rw [hds]; decide) _, rfl, hI.put h1 h2 (by rw [hcs]; simp) (fun _ => hp 0 (by simp [remPre])) (by simp) (by simp) (by simp)⟩)
    | 7, _ =>
      have k1 := hI.cv (5, 22, .int .i64 β) (by rw [hcs]; simp) (hp 5 (by simp [remPre]))
      exact wpOp_go rfl rfl (step_move (d := some 1) rfl (Or.inr rfl) ((inn f 22 (by rw [hds]; decide) (by decide)).trans k1) ⟨_, actOf_put _ _ _ (by rw [hds]; decide) _, rfl, hI.put h1 h2 (by rw [hcs]; simp) (by simp) (fun _ => hp 3 (by simp [remPre])) (by simp) (by simp)⟩)
  · rintro D x w' hD ⟨f, rfl, rfl, hI⟩
    exact hQ f (hI.cv (6, 0, .int .i64 α) (by rw [hcs]; simp) (hD 6 (show 6 < 8 by decide))) (hI.cv (7, 1, .int .i64 β) (by rw [hcs]; simp) (hD 7 (show 7 < 8 by decide)))
end Go.Proofs.Ytpifkjmdcbieoaa

/- TrigAdds' walk. -/
namespace Go.Proofs.Ytpifkjmdcbieoaa
open Go.RowKit

def e989 : Nat := 989
theorem word_85 : Flt.Num 4224376450473525248 ((2 ^ e989 : Nat) : Int) := by
  have hn := Flt.num_of (x := 4224376450473525248) (by decide) (by decide)
  rw [Flt.v_mid (by decide) (by decide)] at hn
  have e1 : ((4503599627370496 + 4224376450473525248 % 4503599627370496 : Nat) : Int) = 2 ^ 52 := by decide
  have e2 : 4224376450473525248 / 4503599627370496 - 1 = 937 := by decide
  have e3 : ((2 ^ e989 : Nat) : Int) = 2 ^ 52 * 2 ^ 937 := by
    rw [Int.natCast_pow]
    have h : e989 = 52 + 937 := rfl
    rw [h, Int.pow_add]; rfl
  rw [e1, e2, ← e3] at hn
  exact hn
/-- words of a·b + σ·(c·d) - e -/
theorem sum_words {x1 x2 y1 y2 u1 u2 v1 v2 f1 f2 : Nat} {x y u v f : Rat} (hx : DN x1 x2 x) (hy : DN y1 y2 y) (hu : DN u1 u2 u) (hv : DN v1 v2 v) (hf : DN f1 f2 f)
    (wx : Wi x (6 / 5)) (wy : Wi y (6 / 5)) (wu : Wi u (6 / 5)) (wv : Wi v (6 / 5)) (wf : Wi f (6 / 5)) (σ : Bool)
    (hz : InU 3000000000 (x * y + (if σ then u * v else -(u * v)) - f) 0) : ∃ p1 p2 q1 q2 r1 r2 z1 z2 H,
    (∀ w, Calls Try.prog 19 #[dv x1 x2, dv y1 y2] w fun r w' => r = .returned (dv p1 p2) ∧ Bel w w') ∧
    (∀ w, Calls Try.prog 19 #[dv u1 u2, dv v1 v2] w fun r w' => r = .returned (dv q1 q2) ∧ Bel w w') ∧
    (∀ w, Calls Try.prog 20 #[dv p1 p2, if σ then dv q1 q2 else dv (Op.negFloat .f64 q1) (Op.negFloat .f64 q2)] w fun r w' => r = .returned (dv r1 r2) ∧ Bel w w') ∧
    (∀ w, Calls Try.prog 20 #[dv r1 r2, dv (Op.negFloat .f64 f1) (Op.negFloat .f64 f2)] w fun r w' => r = .returned (dv z1 z2) ∧ Bel w w') ∧ Flt.Num z1 H ∧ H.natAbs < 2 ^ e989 := by
  have c9 : (2 : Rat) ≤ (c90 : Rat) := by exact_mod_cast (show 2 ≤ c90 by decide)
  obtain ⟨p1, p2, p, np, ep, _, hp⟩ := mul_d hx hy wx wy (by grind)
  obtain ⟨q1, q2, q, nq, eq, _, hq⟩ := mul_d hu hv wu wv (by grind)
  have ep1 := ep _ _ wx wy
  have eq1 := eq _ _ wu wv
  obtain ⟨f1', f2'⟩ := ep1.flat30 (by grind)
  obtain ⟨f3', f4'⟩ := eq1.flat30 (by grind)
  obtain ⟨g1, g2⟩ := wx.mul wy
  obtain ⟨g3, g4⟩ := wu.mul wv
  obtain ⟨wf1, wf2⟩ := wf
  have n988 : 2 ^ e988 ≤ 2 ^ e989 := Flt.two_le (by decide)
  cases σ
  · have hz : InU 3000000000 (x * y + -(u * v) - f) 0 := hz
    obtain ⟨r1, r2, r, nr, er, _, hr⟩ := add_d (X := 2) np nq.neg ⟨by grind, by grind⟩ ⟨by grind, by grind⟩ (by grind)
    obtain ⟨f5, f6⟩ := er.flat30 (by grind)
    obtain ⟨z1, z2, z, nz, ez, _, hzz⟩ := add_d (X := 4) nr hf.np.neg ⟨by grind, by grind⟩ ⟨by grind, by grind⟩ (by grind)
    obtain ⟨H, L, n1, n2, t1, _, v1⟩ := nz.ex
    refine ⟨p1, p2, q1, q2, r1, r2, z1, z2, H, hp, hq, hr, hzz, n1, Nat.lt_of_lt_of_le (small_hi t1 ?_) n988⟩
    rw [v1]
    have a1 := ez.lo
    have a2 := ez.hi
    have b1 := er.lo
    have b2 := er.hi
    have c1 := ep1.lo
    have c2 := ep1.hi
    have d1 := eq1.lo
    have d2 := eq1.hi
    have h1 := hz.lo
    have h2 := hz.hi
    exact ⟨by grind, by grind⟩
  · have hz : InU 3000000000 (x * y + u * v - f) 0 := hz
    obtain ⟨r1, r2, r, nr, er, _, hr⟩ := add_d (X := 2) np nq ⟨by grind, by grind⟩ ⟨by grind, by grind⟩ (by grind)
    obtain ⟨f5, f6⟩ := er.flat30 (by grind)
    obtain ⟨z1, z2, z, nz, ez, _, hzz⟩ := add_d (X := 4) nr hf.np.neg ⟨by grind, by grind⟩ ⟨by grind, by grind⟩ (by grind)
    obtain ⟨H, L, n1, n2, t1, _, v1⟩ := nz.ex
    refine ⟨p1, p2, q1, q2, r1, r2, z1, z2, H, hp, hq, hr, hzz, n1, Nat.lt_of_lt_of_le (small_hi t1 ?_) n988⟩
    rw [v1]
    have a1 := ez.lo
    have a2 := ez.hi
    have b1 := er.lo
    have b2 := er.hi
    have c1 := ep1.lo
    have c2 := ep1.hi
    have d1 := eq1.lo
    have d2 := eq1.hi
    have h1 := hz.lo
    have h2 := hz.hi
    exact ⟨by grind, by grind⟩
set_option maxHeartbeats 8000000 in
theorem adds0 (a b n : Int) (w : World) (hn : -9223372036854775808 ≤ n ∧ n < 9223372036854775808) :
    Calls Try.prog 8 #[.int .i64 a, .int .i64 b, .int .i64 n] w fun e w' => e = .returned (.bool true) ∧ Bel w w' := by
  have sf := run_store_float Try.prog
  have hwk := wakes_said
  have hp := fun w => parts5_any n 1099511627776 w hn (by decide)
  obtain ⟨m, hm⟩ : ∃ m, m = partsN n 1099511627776 := ⟨_, rfl⟩
  have hr := partsN_range (n := n) (most := 1099511627776) (by decide)
  rw [← hm] at hp hr
  obtain ⟨α, hα⟩ : ∃ α, α = a.tmod m := ⟨_, rfl⟩
  obtain ⟨β, hβ⟩ : ∃ β, β = b.tmod m := ⟨_, rfl⟩
  have bα : α < m ∧ -m < α := by rw [hα]; exact ⟨Int.tmod_lt_of_pos _ (by omega), by have := Int.lt_tmod_of_pos a (show 0 < m by omega); omega⟩
  have bβ : β < m ∧ -m < β := by rw [hβ]; exact ⟨Int.tmod_lt_of_pos _ (by omega), by have := Int.lt_tmod_of_pos b (show 0 < m by omega); omega⟩
  obtain ⟨F, hF⟩ := axis_fun
  have E1 := fun w => exact_run hF α m (by omega) w
  have E2 := fun w => exact_run hF β m (by omega) w
  have E3 := fun w => exact_run hF (α + β) m (by omega) w
  obtain ⟨c, s, d1, d2, e1, e2⟩ := (exact_near hF α m (by omega)).ex
  obtain ⟨d, e, d3, d4, e3, e4⟩ := (exact_near hF β m (by omega)).ex
  obtain ⟨f, g, d5, d6, e5, e6⟩ := (exact_near hF (α + β) m (by omega)).ex
  obtain ⟨hx, hy⟩ := adds_near (a := α) (b := β) (n := m) (by omega) eX_small.2 eX_small.1 e1 e2 e3 e4 e5 e6
  have ang := fun k => ang_range (k := k) (n := m) (by omega)
  have wc := wi_of e1 (cos_le (by have := ang α; grind) (by have := ang α; grind))
  have ws := wi_of e2 (sin_le (by have := ang α; grind) (by have := ang α; grind))
  have wd := wi_of e3 (cos_le (by have := ang β; grind) (by have := ang β; grind))
  have we := wi_of e4 (sin_le (by have := ang β; grind) (by have := ang β; grind))
  have wf := wi_of e5 (cos_le (by have := ang (α + β); grind) (by have := ang (α + β); grind))
  have wg := wi_of e6 (sin_le (by have := ang (α + β); grind) (by have := ang (α + β); grind))
  have eb : (8 * eX : Rat) ≤ 3000000000 := by unfold eX; grind
  obtain ⟨p1, p2, q1, q2, r1, r2, z1, z2, H, h1, h2, h3, h4, nz, hH⟩ := sum_words d1 d3 d2 d4 d5 wc wd ws we wf false (by
    have e9 : ∀ e : Rat, c * d + -(s * e) - f = c * d - s * e - f := fun e => by grind
    rw [if_neg Bool.false_ne_true, e9]
    exact hx.mono eb)
  obtain ⟨p1', p2', q1', q2', r1', r2', z1', z2', H', h1', h2', h3', h4', nz', hH'⟩ := sum_words d2 d3 d1 d4 d6 ws wd wc we wg true (by
    exact hy.mono eb)
  have hA := fun w => abs_small nz word_85 hH w
  have hA' := fun w => abs_small nz' word_85 hH' w
  have h3 : ∀ w, Calls Try.prog 20 #[dv p1 p2, dv (Op.negFloat .f64 q1) (Op.negFloat .f64 q2)] w fun r w' => r = .returned (dv r1 r2) ∧ Bel w w' := h3
  have h3' : ∀ w, Calls Try.prog 20 #[dv p1' p2', dv q1' q2'] w fun r w' => r = .returned (dv r1' r2') ∧ Bel w w' := h3'
  have N1 := fun w => neg_any q1 q2 w
  have m0 : (m == 0) = false := by rw [beq_eq_false_iff_ne]; omega
  have hα' : a.tmod m = α := hα.symm
  have hβ' : b.tmod m = β := hβ.symm
  have wab : IntKind.i64.wrap (α + β) = α + β := by rw [IntKind.wrap_i64]; omega
  have wab2 : wrap64 (α + β) = α + β := by unfold wrap64; omega
  have hrH := Lib.hid hr
  generalize (exW F α m).a = ca at *
  generalize (exW F α m).b = cb at *
  generalize (exW F α m).c = sa at *
  generalize (exW F α m).d = sb at *
  generalize (exW F β m).a = da at *
  generalize (exW F β m).b = db at *
  generalize (exW F β m).c = ea at *
  generalize (exW F β m).d = eb' at *
  generalize (exW F (α + β) m).a = fa at *
  generalize (exW F (α + β) m).b = fb at *
  generalize (exW F (α + β) m).c = ga at *
  generalize (exW F (α + β) m).d = gb at *
  have N2 := fun w => neg_any fa fb w
  have N3 := fun w => neg_any ga gb w
  clear hm hr hn hF nz hH nz' hH' hx hy ang wc ws wd we wf wg eb d1 d2 d3 d4 d5 d6 e1 e2 e3 e4 e5 e6 hα hβ bα bβ
  go_enter Try.func8, Try.ntmps8
  go_wp2_with fail
  refine (hp _).mono ?_; rintro r w1 ⟨rfl, rfl⟩
  go_upto_region 2 with fail
  refine rem_reg _ a b m α β ⟨_, _, _, _, _, _, _, _, _, _, _, _, _, _, _, _, _, _, _, _, _, _, _, _, rfl⟩ (by decide +kernel) rfl rfl rfl rfl m0 hα' hβ' ?_
  intro f f0 f1
  have B0 : Bel w w.drew := (Bel.refl w).drew
  generalize w.drew = w1 at B0 ⊢
  unfold actOf
  simp only [List.mapIdx_toArray, List.mapIdx_cons, List.mapIdx_nil, List.mem_cons, List.mem_nil_iff, Nat.reduceEqDiff, Nat.reduceAdd, or_false, or_true, if_true, if_false, f0, f1]
  clear f0 f1 hα' hβ' m0 hp
  go_wp2_with fail
  refine (E1 _).mono ?_; rintro r w2 ⟨rfl, g1⟩
  go_wp2_with fail
  obtain ⟨w3, hw3⟩ : ∃ w3, w3 = (w2.alloc (Obj.cells #[.float .f64 ca, .float .f64 cb] 30)).alloc (Obj.cells #[.float .f64 sa, .float .f64 sb] 30) := ⟨_, rfl⟩
  have tA : Two w3 w2.heap.size ca cb := by rw [hw3]; exact (Two.newN _ _ _ _ _ rfl).al _
  have tB : Two w3 (w2.heap.size + 1) sa sb := by rw [hw3]; exact Two.newN _ _ _ _ _ (by simp)
  have kw3 : Bel w2 w3 := by rw [hw3]; exact ((Bel.refl _).alloc _).alloc _
  rw [← hw3]
  obtain ⟨A, qA⟩ : ∃ A, A = w2.heap.size := ⟨_, rfl⟩
  rw [← qA] at tA tB ⊢
  clear hw3 qA
  refine (E2 _).mono ?_; rintro r w4 ⟨rfl, g2⟩
  go_wp2_with fail
  obtain ⟨w5, hw5⟩ : ∃ w5, w5 = (w4.alloc (Obj.cells #[.float .f64 da, .float .f64 db] 30)).alloc (Obj.cells #[.float .f64 ea, .float .f64 eb'] 30) := ⟨_, rfl⟩
  have tD : Two w5 w4.heap.size da db := by rw [hw5]; exact (Two.newN _ _ _ _ _ rfl).al _
  have tE : Two w5 (w4.heap.size + 1) ea eb' := by rw [hw5]; exact Two.newN _ _ _ _ _ (by simp)
  have kw5 : Bel w4 w5 := by rw [hw5]; exact ((Bel.refl _).alloc _).alloc _
  rw [← hw5]
  obtain ⟨D, qD⟩ : ∃ D, D = w4.heap.size := ⟨_, rfl⟩
  rw [← qD] at tD tE ⊢
  clear hw5 qD
  refine (E3 _).mono ?_; rintro r w6 ⟨rfl, g3⟩
  go_upto_region 6 with fail
  obtain ⟨w7, hw7⟩ : ∃ w7, w7 = (w6.alloc (Obj.cells #[.float .f64 fa, .float .f64 fb] 30)).alloc (Obj.cells #[.float .f64 ga, .float .f64 gb] 30) := ⟨_, rfl⟩
  have tG : Two w7 w6.heap.size fa fb := by rw [hw7]; exact (Two.newN _ _ _ _ _ rfl).al _
  have tH : Two w7 (w6.heap.size + 1) ga gb := by rw [hw7]; exact Two.newN _ _ _ _ _ (by simp)
  have kw7 : Bel w6 w7 := by rw [hw7]; exact ((Bel.refl _).alloc _).alloc _
  obtain ⟨G, qG⟩ : ∃ G, G = w6.heap.size := ⟨_, rfl⟩
  rw [← hw7]
  rw [← qG] at tG tH ⊢
  clear hw7 qG
  have tA := (tA.by (g2.trans kw5)).by (g3.trans kw7)
  have tB := (tB.by (g2.trans kw5)).by (g3.trans kw7)
  have tD := tD.by (g3.trans kw7)
  have tE := tE.by (g3.trans kw7)
  have hBw := B0.trans (g1.trans (kw3.trans (g2.trans (kw5.trans (g3.trans kw7)))))
  clear B0 g1 kw3 g2 kw5 g3 kw7 E1 E2 E3
  refine adds_reg1 _ A (A + 1) D (D + 1) G ca cb sa sb da db ea eb' fa fb p1 p2 q1 q2 (Op.negFloat .f64 q1) (Op.negFloat .f64 q2) r1 r2 (Op.negFloat .f64 fa) (Op.negFloat .f64 fb) z1 z2 ⟨_, _, _, _, _, _, _, _, _, _, _, _, _, _, _, _, _, _, _, _, _, _, _, _, _, _, _, _, _, _, _, _, _, _, _, _, _, _, _, rfl⟩ (by decide +kernel) rfl rfl rfl rfl rfl rfl tA tD tB tE tG h1 h2 N1 h3 N2 h4 ?_
  intro f w8 X g8 r13 hX tX
  have tA := tA.by g8
  have tB := tB.by g8
  have tD := tD.by g8
  have tE := tE.by g8
  have tH := tH.by g8
  have hBw := hBw.trans g8
  clear h1 h2 N1 h3 N2 h4 g8 hX tG
  unfold actOf
  simp only [List.mapIdx_toArray, List.mapIdx_cons, List.mapIdx_nil, List.mem_cons, List.mem_nil_iff, Nat.reduceEqDiff, Nat.reduceAdd, or_false, or_true, if_true, if_false, r13]
  clear r13
  go_upto_region 7 with fail
  refine adds_reg2 _ A (A + 1) D (D + 1) (G + 1) ca cb sa sb da db ea eb' ga gb p1' p2' q1' q2' r1' r2' (Op.negFloat .f64 ga) (Op.negFloat .f64 gb) z1' z2' ⟨_, _, _, _, _, _, _, _, _, _, _, _, _, _, _, _, _, _, _, _, _, _, _, _, _, _, _, _, _, _, _, _, _, _, _, _, rfl⟩ (by decide +kernel) rfl rfl rfl rfl rfl rfl tB tD tA tE tH h1' h2' h3' N3 h4' ?_
  intro f2 w9 Y g9 r14 hY tY
  have tX := tX.by g9
  have hBw := hBw.trans g9
  clear h1' h2' h3' N3 h4' g9 hY tA tB tD tE tH
  unfold actOf
  simp only [List.mapIdx_toArray, List.mapIdx_cons, List.mapIdx_nil, List.mem_cons, List.mem_nil_iff, Nat.reduceEqDiff, Nat.reduceAdd, or_false, or_true, if_true, if_false, r14]
  clear r14
  go_wp2_with fail
  refine (hwk _).mono ?_; rintro r wa ⟨rfl, ga'⟩
  have tX := tX.by ga'
  have tY := tY.by ga'
  have x0 := tX.c0
  have y0 := tY.c0
  have G' := hBw.trans ga'
  clear tX tY hBw ga' hwk
  go_wp2_with fail
  refine (hA _).mono ?_; rintro r wb ⟨⟨u, rfl, ho⟩, rfl⟩
  go_wp2_with fail
  refine (hA' _).mono ?_; rintro r wb ⟨⟨u', rfl, ho'⟩, rfl⟩
  go_wp2
  go_ret
  exact ⟨rfl, G'⟩
end Go.Proofs.Ytpifkjmdcbieoaa
