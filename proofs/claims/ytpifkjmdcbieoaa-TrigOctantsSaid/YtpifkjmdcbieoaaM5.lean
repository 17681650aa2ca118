/- Merged texts: Size, Fop, Neg, Far5, ValR, ExactR, Flt2, Flt3, EftSum, Rn, Flt4, Ord, SplitW, TwoW. -/
import Derived.Test.YtpifkjmdcbieoaaM2
import Derived.Test.YtpifkjmdcbieoaaM1
import Derived.Laws.FloatArith
import GoSem.Op.Unary
import Derived.Test.YtpifkjmdcbieoaaM3
import Derived.Deep.DeepCutAuto
import Derived.Test.YtpifkjmdcbieoaaM4
import Derived.Test.YtpifkjmdcbieoaaProg
/- The reference's Value and Size (layer 4): the digits of a long number, and how many bits it has. -/
namespace Go.Proofs.Ytpifkjmdcbieoaa
open Go.RowKit

theorem digits_new (w : World) : (Instr.makeSlice 23 (.int .i64 110) (.int .i64 110)).run Try.prog w = .ok (.slice (some ⟨w.heap.size, 0, none⟩) 110 110) (w.alloc (.cells (Array.replicate 110 (.int .i64 0)) 2)) := by kernel_rfl
theorem digits_at (w : World) (t : TypeId) : LongAt (w.alloc (.cells (Array.replicate 110 (.int .i64 0)) t)) w.heap.size (fun _ => 0) := by
  intro i hi
  refine ⟨?_, ?_⟩
  · rw [World.cell?_alloc_new, Array.getElem?_replicate, if_pos hi]
  · exact frozen_of_row _ _ i _ t (heap_alloc_new w _)
set_option maxHeartbeats 4000000 in
theorem value_any (g : Nat) (f : Nat → Int) (w : World) (hf : LongAt w g f) (hg : g < w.heap.size) (hb : ∀ i, (f i).natAbs ≤ 2305843009213693952) (hv : (lval f).natAbs < bigP) :
    Calls Try.prog 47 #[.pointer (some ⟨g, 0, none⟩)] w fun r w' => ∃ (b : Bool) (h : Nat) (d : Nat → Int), r = .returned (.tuple #[.bool b, .slice (some ⟨h, 0, none⟩) 110 110]) ∧ LongAt w' h d ∧ w.heap.size ≤ h ∧ Digs d 110 ∧ lsum d 110 = ((lval f).natAbs : Nat) ∧ Bel w w' := by
  have hnew := digits_new
  have hB0 := (Bel.refl w).alloc (.cells (Array.replicate 110 (.int .i64 0)) 2)
  have hL0 := digits_at w 2
  have hvH := Lib.hid hv
  clear hv
  obtain ⟨h, hh⟩ : ∃ h, h = w.heap.size := ⟨_, rfl⟩
  rw [← hh] at hL0
  go_enter Try.func47, Try.ntmps47
  go_wp2
  rw [← hh]
  generalize hw1 : w.alloc (.cells (Array.replicate 110 (.int .i64 0)) 2) = w1 at hB0 hL0 ⊢
  have hhH := Lib.hid (Nat.le_of_eq hh.symm)
  clear hw1 hh
  go_loopw [5, 6, 7] (fun a b _ wr => ∃ (c : Int) (i : Nat) (d : Nat → Int), CarInv f d i c ∧ i ≤ 110 ∧ c.natAbs ≤ 4294967296 ∧ a = .int .i64 c ∧ b = .int .i64 (i : Int) ∧ LongAt wr h d ∧ Bel w wr) (fun _ b _ _ => (110 - intOf b).toNat)
  case atStart => exact ⟨0, 0, _, CarInv.start f _, by omega, by decide, rfl, rfl, hL0, hB0⟩
  case round =>
    obtain ⟨c, i, d, hI, hi, hc, rfl, rfl, hL, hB⟩ := hrel
    by_cases hlt : i < 110
    · obtain ⟨c1, z1⟩ := hf i hlt
      have c1' := (hB.cell (p := ⟨g, i, none⟩) hg).trans c1
      obtain ⟨c2, z2⟩ := hL i hlt
      obtain ⟨v, hv⟩ : ∃ v : Int, v = f i := ⟨_, rfl⟩
      have bv := hb i
      rw [← hv] at c1' bv
      have hN := hI.next (v := v + c) (by rw [hv])
      have eA : bits .and .i64 (v + c) 1073741823 = (v + c) % 1073741824 := bits_30i _
      obtain ⟨D, hD⟩ : ∃ D, D = (v + c) % 1073741824 := ⟨_, rfl⟩
      rw [← hD] at eA hN
      have hNH := Lib.hid hN
      have hL2 := hL.put hlt D
      have hB2 := hB.setCell (p := ⟨h, i, none⟩) hhH.out (.int .i64 D)
      clear hN hI hv hD c1 z1 hL
      go_wp2
      go_roundw
      case rel => exact ⟨_, i + 1, _, hNH.out, by omega, by omega, rfl, by simp, hL2, hB2⟩
      case measure => simp [intOf]; omega
    · have h110 : i = 110 := by omega
      subst h110
      rcases hI.done hvH.out with ⟨rfl, hs⟩ | ⟨hc0, hs, hneg⟩
      · have hd := hI.digs
        have hsH := Lib.hid (show lsum d 110 = ((lval f).natAbs : Nat) by
          obtain ⟨b1, _⟩ := hd.sum
          omega)
        clear hs hI
        go_wp2
        go_ret2
        exact ⟨false, h, d, rfl, hL, hhH.out, hd, hsH.out, hB⟩
      · have hd := hI.digs
        have hsH := Lib.hid (And.intro hs hneg)
        have t0 : (c == 0) = false := by rw [beq_eq_false_iff_ne]; exact hc0
        clear hs hneg hI
        go_wp2
        go_loopw [8, 9, 10] (fun a b _ wr => ∃ (m : Int) (i : Nat) (e : Nat → Int), TurInv d e i m ∧ i ≤ 110 ∧ a = .int .i64 m ∧ b = .int .i64 (i : Int) ∧ LongAt wr h e ∧ Bel w wr) (fun _ b _ _ => (110 - intOf b).toNat)
        case atStart => exact ⟨1, 0, d, TurInv.start d, by omega, rfl, by simp, hL, hB⟩
        case round =>
          obtain ⟨m, i, e, hI, hi, rfl, rfl, hL, hB⟩ := hrel
          by_cases hlt : i < 110
          · obtain ⟨c2, z2⟩ := hL i hlt
            rw [hI.rest i (Nat.le_refl i)] at c2
            obtain ⟨v, hv⟩ : ∃ v : Int, v = d i := ⟨_, rfl⟩
            have bv := hd i hlt
            have hm := hI.m
            have hN := hI.next (v := 1073741823 - v + m) bv (by rw [hv])
            rw [← hv] at c2 bv
            have eA : bits .and .i64 (1073741823 - v + m) 1073741823 = (1073741823 - v + m) % 1073741824 := bits_30i _
            obtain ⟨D, hD⟩ : ∃ D, D = (1073741823 - v + m) % 1073741824 := ⟨_, rfl⟩
            rw [← hD] at eA hN
            have hNH := Lib.hid hN
            have hL2 := hL.put hlt D
            have hB2 := hB.setCell (p := ⟨h, i, none⟩) hhH.out (.int .i64 D)
            clear hN hI hv hD hL
            go_wp2
            go_roundw
            case rel => exact ⟨_, i + 1, _, hNH.out, by omega, rfl, by simp, hL2, hB2⟩
            case measure => simp [intOf]; omega
          · have h110 : i = 110 := by omega
            subst h110
            have hfin := Lib.hid (hI.done hsH.out.1 hsH.out.2 hvH.out)
            have hde := hI.digs
            clear hI
            go_wp2
            go_ret2
            exact ⟨true, h, e, rfl, hL, hhH.out, hde, hfin.out, hB⟩

set_option maxHeartbeats 2000000 in
theorem size_any (g : Nat) (f : Nat → Int) (w : World) (hf : LongAt w g f) (hg : g < w.heap.size) (hb : ∀ i, (f i).natAbs ≤ 2305843009213693952) (hv : (lval f).natAbs < bigP) :
    Calls Try.prog 30 #[.pointer (some ⟨g, 0, none⟩)] w fun r w' => ∃ k : Int, r = .returned (.int .i64 k) ∧ SizeIs (lval f).natAbs k ∧ -1200 ≤ k ∧ k ≤ 3000 ∧ Bel w w' := by
  have hval := value_any g f w hf hg hb hv
  clear hf hg hb hv
  go_enter Try.func30, Try.ntmps30
  go_wp2_with fail
  refine hval.mono ?_; rintro r w1 ⟨b, h, d, rfl, hL, hh, hd, hs, hB⟩
  have hsH := Lib.hid hs
  clear hs
  go_wp2
  go_loop [5, 6, 7] (fun a _ _ => ∃ i : Nat, i ≤ 110 ∧ (∀ j, i ≤ j → j < 110 → d j = 0) ∧ a = .int .i64 ((i : Int) - 1)) (fun a _ _ => (intOf a + 1).toNat)
  case atStart => exact ⟨110, by omega, fun j h1 h2 => by omega, rfl⟩
  case round =>
    obtain ⟨i, hi, hz, rfl⟩ := hrel
    by_cases hp : 0 < i
    · obtain ⟨k, hk⟩ : ∃ k, i = k + 1 := ⟨i - 1, by omega⟩
      subst hk
      have ek : ((k + 1 : Nat) : Int) - 1 = (k : Int) := by omega
      rw [ek]
      obtain ⟨c1, z1⟩ := hL k (by omega)
      obtain ⟨d0, d1⟩ := hd k (by omega)
      obtain ⟨v, hv⟩ : ∃ v : Int, v = d k := ⟨_, rfl⟩
      rw [← hv] at c1 d0 d1
      by_cases h0 : v = 0
      · have hzH := Lib.hid (show ∀ j, k ≤ j → j < 110 → d j = 0 from fun j h1 h2 => by
          by_cases c : j = k
          · rw [c, ← hv, h0]
          · exact hz j (by omega) h2)
        have t0 : (v == 0) = true := by rw [beq_iff_eq]; exact h0
        clear hz hv h0 ek
        go_wp2
        go_round
        case rel => exact ⟨k, by omega, hzH.out, by simp⟩
        case measure => simp [intOf]
      · have t0 : (v == 0) = false := by rw [beq_eq_false_iff_ne]; exact h0
        have hzH := Lib.hid hz
        have hvH := Lib.hid hv
        have v0 : 0 < v := by omega
        clear hz hv h0 ek
        go_wp2
        go_loop [6, 7] (fun a b => ∃ (j : Nat) (u : Int), u = v / 2 ^ j ∧ (j = 0 ∨ (2 : Int) ^ (j - 1) ≤ v) ∧ j ≤ 64 ∧ a = .int .i64 (30 * (k : Int) - 1200 + (j : Int)) ∧ b = .int .i64 u) (fun _ b => (intOf b).toNat)
        case atStart => exact ⟨0, v, by simp, Or.inl rfl, by omega, by simp, rfl⟩
        case round =>
          obtain ⟨j, u, hu, hj, hj64, rfl, rfl⟩ := hrel
          have hp2 := two_i j
          by_cases hu0 : 0 < u
          · have h1 : (2 : Int) ^ j ≤ v := by
              refine Classical.byContradiction fun hc => ?_
              have : v / 2 ^ j = 0 := Int.ediv_eq_zero_of_lt (by omega) (by omega)
              omega
            have hj63 : j < 64 := by
              refine Classical.byContradiction fun hc => ?_
              have h2 : (2 : Nat) ^ 40 ≤ 2 ^ j := Nat.pow_le_pow_right (by decide) (by omega)
              have h3 : (2 : Nat) ^ 40 = 1099511627776 := rfl
              have h4 := pw j
              omega
            have hN := Lib.hid (show u / 2 = v / 2 ^ (j + 1) by
              rw [hu, Int.pow_succ, Int.ediv_ediv_of_nonneg (by omega)])
            have hNj := Lib.hid (show (j + 1 = 0 ∨ (2 : Int) ^ (j + 1 - 1) ≤ v) from Or.inr h1)
            have et : u.tdiv 2 = u / 2 := Int.tdiv_eq_ediv_of_nonneg (by omega)
            have um : u ≤ v := by
              rw [hu]; exact Int.ediv_le_self _ (by omega)
            clear hu hj h1 hp2
            go_wp2
            go_round
            case rel => exact ⟨j + 1, u / 2, hN.out, hNj.out, by omega, by simp; omega, by simp⟩
            case measure => simp [intOf]; omega
          · have hj0 : j ≠ 0 := by
              intro hc; subst hc
              simp at hu; omega
            have h1 : (2 : Int) ^ (j - 1) ≤ v := by
              rcases hj with h | h
              · exact absurd h hj0
              · exact h
            have h2 : v < 2 ^ j := by
              refine Classical.byContradiction fun hc => ?_
              have : 1 ≤ v / 2 ^ j := Int.le_ediv_of_mul_le hp2 (by omega)
              omega
            have hS := Lib.hid (size_at hd (by omega) hzH.out hsH.out.symm (by omega) (hvH.out ▸ h1) (hvH.out ▸ h2))
            clear hu hj h1 h2 hp2
            go_wp2
            go_ret
            exact ⟨_, rfl, hS.out, by omega, by omega, hB⟩
    · have hi0 : i = 0 := by omega
      subst hi0
      have hS := Lib.hid (show SizeIs (lval f).natAbs (-1200) from Or.inl ⟨by
        have h5 := lsum_zeros (d := d) (i := 0) 110 (by omega) hz
        have h6 := hsH.out
        have h7 : lsum d 0 = 0 := rfl
        omega, rfl⟩)
      clear hz
      go_wp2
      go_ret
      exact ⟨-1200, rfl, hS.out, by omega, by omega, hB⟩
end Go.Proofs.Ytpifkjmdcbieoaa

/- Float operations of a program, in whole numbers of the least unit. Over any program. -/
namespace Go.Proofs.Ytpifkjmdcbieoaa
open Go.RowKit

theorem near_le {n z : Int} (h : Flt.Near n z) : z.natAbs ≤ 2 * n.natAbs := by
  have := h.le 0 Flt.fl_zero
  omega
def mtop : Nat := 1474
theorem big_ok : 1048576 * 2 ^ mtop < 2 ^ Flt.top := by
  have h : 2 ^ 20 * 2 ^ mtop < 2 ^ Flt.top := by
    rw [← Nat.pow_add]
    exact Nat.pow_lt_pow_right (by decide) (by decide)
  have e : (2 : Nat) ^ 20 = 1048576 := rfl
  rw [e] at h
  exact h
/-- n is at most c times 2^400 -/
def UpTo (c : Nat) (n : Int) : Prop := n.natAbs ≤ c * 2 ^ mtop
theorem UpTo.lt {c : Nat} {n : Int} (h : UpTo c n) (hc : c ≤ 1048576) : n.natAbs < 2 ^ Flt.top :=
  Nat.lt_of_le_of_lt (Nat.le_trans h (Nat.mul_le_mul_right _ hc)) big_ok
theorem UpTo.add {c d : Nat} {m n : Int} (h : UpTo c m) (k : UpTo d n) : UpTo (c + d) (m + n) := by
  unfold UpTo at *
  rw [Nat.add_mul]; omega
theorem UpTo.sub {c d : Nat} {m n : Int} (h : UpTo c m) (k : UpTo d n) : UpTo (c + d) (m - n) := by
  unfold UpTo at *
  rw [Nat.add_mul]; omega
theorem UpTo.near {c : Nat} {n z : Int} (h : UpTo c n) (k : Flt.Near n z) : UpTo (2 * c) z := by
  unfold UpTo at *
  have := near_le k
  rw [Nat.mul_assoc]; omega

/-- a sum in a walk -/
theorem fadd {x y : Nat} {a b : Int} {c d : Nat} (hx : Flt.Num x a) (hy : Flt.Num y b) (ha : UpTo c a) (hb : UpTo d b) (hc : c + d ≤ 1048576) :
    ∃ r z, Ieee.double.add x y = some r ∧ Flt.Num r z ∧ Flt.Near (a + b) z ∧ UpTo (2 * (c + d)) z := by
  obtain ⟨r, z, h1, h2, h3⟩ := Flt.add_num hx hy ((ha.add hb).lt hc)
  exact ⟨r, z, h1, h2, h3, (ha.add hb).near h3⟩
theorem fsub {x y : Nat} {a b : Int} {c d : Nat} (hx : Flt.Num x a) (hy : Flt.Num y b) (ha : UpTo c a) (hb : UpTo d b) (hc : c + d ≤ 1048576) :
    ∃ r z, Ieee.double.sub x y = some r ∧ Flt.Num r z ∧ Flt.Near (a - b) z ∧ UpTo (2 * (c + d)) z := by
  obtain ⟨r, z, h1, h2, h3⟩ := Flt.sub_num hx hy ((ha.sub hb).lt hc)
  exact ⟨r, z, h1, h2, h3, (ha.sub hb).near h3⟩
theorem run_fadd {P : Program} (t : TypeId) {x y r : Nat} (h : Ieee.double.add x y = some r) (w : World) : (binOp .add t (.float .f64 x) (.float .f64 y)).run P w = .ok (.float .f64 r) w := run_float_arith w .add t .f64 x y r h
theorem run_fsub {P : Program} (t : TypeId) {x y r : Nat} (h : Ieee.double.sub x y = some r) (w : World) : (binOp .sub t (.float .f64 x) (.float .f64 y)).run P w = .ok (.float .f64 r) w := run_float_arith w .sub t .f64 x y r h
theorem run_fmul {P : Program} (t : TypeId) {x y r : Nat} (h : Ieee.double.mul x y = some r) (w : World) : (binOp .mul t (.float .f64 x) (.float .f64 y)).run P w = .ok (.float .f64 r) w := run_float_arith w .mul t .f64 x y r h
end Go.Proofs.Ytpifkjmdcbieoaa

/- A float's sign turned. No program is named here. -/
namespace Go.Proofs.Ytpifkjmdcbieoaa
open Go.RowKit

theorem xor_flip {b i : Nat} (h : b < 2 ^ i) : b ^^^ 2 ^ i = 2 ^ i + b := by
  apply Nat.eq_of_testBit_eq
  intro j
  rw [Nat.testBit_xor, Nat.testBit_two_pow]
  rcases Nat.lt_trichotomy j i with c | c | c
  · rw [Nat.testBit_two_pow_add_gt c]
    have : ¬ i = j := by omega
    simp [this]
  · subst c
    rw [Nat.testBit_two_pow_add_eq]
    simp
  · have h1 : 2 ^ i < 2 ^ j := Nat.pow_lt_pow_right (by decide) c
    have h2 : 2 ^ i * 2 ≤ 2 ^ j := by rw [← Nat.pow_succ]; exact Nat.pow_le_pow_right (by decide) c
    rw [Nat.testBit_lt_two_pow (show b < 2 ^ j by omega), Nat.testBit_lt_two_pow (show 2 ^ i + b < 2 ^ j by omega)]
    have : ¬ i = j := by omega
    simp [this]
theorem neg_eq (x : Nat) (hx : x < 18446744073709551616) : Op.negFloat .f64 x = if x < 9223372036854775808 then x + 9223372036854775808 else x - 9223372036854775808 := by
  show x ^^^ 2 ^ 63 = _
  have p : (2 : Nat) ^ 63 = 9223372036854775808 := rfl
  by_cases h : x < 9223372036854775808
  · rw [if_pos h, xor_flip (by rw [p]; exact h), p]; omega
  · rw [if_neg h]
    have e : x = (x - 9223372036854775808) ^^^ 2 ^ 63 := by rw [xor_flip (by rw [p]; omega), p]; omega
    have e2 : x ^^^ 2 ^ 63 = ((x - 9223372036854775808) ^^^ 2 ^ 63) ^^^ 2 ^ 63 := by rw [← e]
    rw [e2, Nat.xor_assoc, Nat.xor_self, Nat.xor_zero]
theorem num_neg {x : Nat} {n : Int} (h : Flt.Num x n) : Flt.Num (Op.negFloat .f64 x) (-n) := by
  have hlt : x < 18446744073709551616 := h.lt
  have hfin := h.fin
  obtain ⟨y, hy⟩ : ∃ y, y = Op.negFloat .f64 x := ⟨_, rfl⟩
  rw [← hy]
  rw [neg_eq x hlt] at hy
  have y1 : y < 18446744073709551616 := by split at hy <;> omega
  have y2 : y % 9223372036854775808 = x % 9223372036854775808 := by split at hy <;> omega
  have y3 : (y / 9223372036854775808 % 2 == 1) = !(x / 9223372036854775808 % 2 == 1) := by
    by_cases c : x < 9223372036854775808
    · rw [if_pos c] at hy
      have a1 : y / 9223372036854775808 = 1 := by omega
      have a2 : x / 9223372036854775808 = 0 := by omega
      rw [a1, a2]; rfl
    · rw [if_neg c] at hy
      have a1 : y / 9223372036854775808 = 0 := by omega
      have a2 : x / 9223372036854775808 = 1 := by omega
      rw [a1, a2]; rfl
  have hv := h.val
  unfold Flt.vI at hv
  by_cases c : x % 9223372036854775808 < 4503599627370496
  · rw [Flt.read_small c] at hv
    have hr := Flt.read_small (x := y) (by omega)
    rw [y2, y3] at hr
    exact ⟨y1, _, _, _, hr, by omega, by omega, by omega, by rw [Flt.sval_not]; exact congrArg (fun z => -z) hv.symm⟩
  · rw [Flt.read_mid c hfin] at hv
    have hr := Flt.read_mid (x := y) (by omega) (by omega)
    rw [y2, y3] at hr
    exact ⟨y1, _, _, _, hr, by omega, by omega, by omega, by rw [Flt.sval_not]; exact congrArg (fun z => -z) hv.symm⟩
theorem run_neg {P : Program} (x : Nat) (w : World) : (Op.unary .neg (.float .f64 x)).run P w = .ok (.float .f64 (Op.negFloat .f64 x)) w := rfl
end Go.Proofs.Ytpifkjmdcbieoaa

/- Layer 5's statements: how far a number is from a fixed one. -/
namespace Go.Proofs.Ytpifkjmdcbieoaa
open Go.RowKit

theorem flong_zero (w : World) : (zeroValue 54).run Try.prog w = .ok (.agg (Array.replicate 110 (.int .i64 0))) w := by kernel_rfl
theorem flong_new (w : World) (t : TypeId) : LongAt (w.alloc (.cells (Array.replicate 110 (.int .i64 0)) t)) w.heap.size (fun _ => 0) := by
  intro i hi
  refine ⟨?_, ?_⟩
  · rw [World.cell?_alloc_new, Array.getElem?_replicate, if_pos hi]
  · exact frozen_of_row _ _ i _ t (heap_alloc_new w _)
theorem flval_zero : lval (fun _ => 0) = 0 := by
  have h : ∀ n, lsum (fun _ => 0) n = 0 := by
    intro n
    induction n with
    | zero => rfl
    | succ n ih =>
      show lsum (fun _ => 0) n + 0 * _ = 0
      rw [ih, Int.zero_mul]; rfl
  rw [lval_eq, h]
def e1080 : Nat := 1080
theorem far_ring (σ a b p c : Int) : σ * a * c + σ * b * (p * c) = σ * (a + b * p) * c := by
  rw [Int.mul_add, Int.add_mul]
  have : σ * b * (p * c) = σ * (b * p) * c := by ac_rfl
  rw [this]
theorem far_step (σ : Int) (f : Nat → Int) (i : Nat) : σ * lsum f i * 2 ^ e1080 + σ * f i * 2 ^ (30 * i + e1080) = σ * lsum f (i + 1) * 2 ^ e1080 := by
  show _ = σ * (lsum f i + f i * 2 ^ (30 * i)) * 2 ^ e1080
  rw [Int.pow_add]
  exact far_ring ..
theorem bel_of_touch {a b c : World} {G : Nat} (h : Bel a b) (t : Touch G b c) (hG : a.heap.size ≤ G) : Bel a c := Below.trans h (Below.mono t.below hG)
set_option maxHeartbeats 4000000 in
theorem far_any (x y : Nat) (H L : Int) (f : Nat → Int) (v : Nat) (σ : Int) (w : World) (hx : Flt.Num x H) (hy : Flt.Num y L) (hf : ∀ i, (f i).natAbs ≤ 1073741824) (hv : lsum f 5 = (v : Int)) (hσ : σ = 1 ∨ σ = -1) (hbd : (σ * (v : Int) * 2 ^ e1080 + -H * 2 ^ 126 + -L * 2 ^ 126).natAbs < bigP) :
    Calls Try.prog 17 #[.agg #[.float .f64 x, .float .f64 y], .agg #[.int .i64 (f 0), .int .i64 (f 1), .int .i64 (f 2), .int .i64 (f 3), .int .i64 (f 4)], .int .i64 σ] w fun r w' => ∃ k : Int, r = .returned (.int .i64 k) ∧ SizeIs (σ * (v : Int) * 2 ^ e1080 + -H * 2 ^ 126 + -L * 2 ^ 126).natAbs k ∧ -1200 ≤ k ∧ k ≤ 3000 ∧ Bel w w' := by
  have hz := flong_zero
  obtain ⟨A, hA⟩ : ∃ A, A = w.heap.size := ⟨_, rfl⟩
  obtain ⟨w1, hw1⟩ : ∃ w1, w1 = ((w.alloc (.cells #[.float .f64 x, .float .f64 y] 30)).alloc (.cells #[.int .i64 (f 0), .int .i64 (f 1), .int .i64 (f 2), .int .i64 (f 3), .int .i64 (f 4)] 37)).alloc (.cells (Array.replicate 110 (.int .i64 0)) 54) := ⟨_, rfl⟩
  have tx : Two w1 A x y := by rw [hw1, hA]; exact ((Two.new w x y _).bel ((Bel.refl _).alloc _) (by simp)).bel ((Bel.refl _).alloc _) (by simp; omega)
  have tf : CellsAt 5 w1 (A + 1) f := by rw [hw1]; exact (five_new _ f _ (A + 1) (by simp [hA])).bel ((Bel.refl _).alloc _) (by simp [hA])
  have tl : LongAt w1 (A + 1 + 1) (fun _ => 0) := by
    have := flong_new ((w.alloc (.cells #[.float .f64 x, .float .f64 y] 30)).alloc (.cells #[.int .i64 (f 0), .int .i64 (f 1), .int .i64 (f 2), .int .i64 (f 3), .int .i64 (f 4)] 37)) 54
    rw [hw1]
    simpa [hA] using this
  have hB : Bel w w1 := by rw [hw1]; exact (((Bel.refl w).alloc _).alloc _).alloc _
  have hs1 : A + 1 + 1 < w1.heap.size := by rw [hw1, hA]; simp
  obtain ⟨G, hG⟩ : ∃ G, G = A + 1 + 1 := ⟨_, rfl⟩
  have hGw := Lib.hid (show w.heap.size ≤ G ∧ A ≠ G ∧ A + 1 ≠ G by omega)
  have hnx := Lib.hid (And.intro (num_neg hx) (And.intro (num_neg hy) hbd))
  have n1 := fun w => run_neg (P := Try.prog) x w
  have n2 := fun w => run_neg (P := Try.prog) y w
  have h0 : lval (fun _ => 0) = σ * lsum f 0 * 2 ^ e1080 := by
    rw [flval_zero]
    show (0 : Int) = σ * 0 * 2 ^ e1080
    rw [Int.mul_zero, Int.zero_mul]
  have h0H := Lib.hid h0
  have hvH := Lib.hid hv
  have hσH := Lib.hid hσ
  clear hx hy hbd h0 hv hσ
  go_enter Try.func17, Try.ntmps17
  go_wp2
  rw [← hw1, ← hA, ← hG]
  rw [← hG] at tl hs1
  have lA := tx.lt
  have lF := tf.lt (by decide)
  clear hw1 hA hG
  go_loopw [8, 11] (fun _ b wr => ∃ (i : Nat) (g : Nat → Int), i ≤ 5 ∧ b = .int .i64 (i : Int) ∧ LongAt wr G g ∧ lval g = σ * lsum f i * 2 ^ e1080 ∧ (∀ j, (g j).natAbs ≤ i * 3221225472) ∧ Two wr A x y ∧ CellsAt 5 wr (A + 1) f ∧ G < wr.heap.size ∧ Touch G w1 wr) (fun _ b _ => (5 - intOf b).toNat)
  case atStart => exact ⟨0, _, by omega, by simp, tl, h0H.out, fun j => by simp, tx, tf, hs1, Touch.refl _ _⟩
  case round =>
    obtain ⟨i, g, hi, rfl, hL, hval, hgb, hT, hF, hGs, hTo⟩ := hrel
    by_cases hlt : i < 5
    · have hdi : decide ((i : Int) < 5) = true := decide_eq_true (by omega)
      obtain ⟨c1, _⟩ := hF i hlt
      obtain ⟨m, hm⟩ : ∃ m, m = σ * f i := ⟨_, rfl⟩
      have bm : m.natAbs ≤ 1073741824 := by
        rw [hm, Int.natAbs_mul]
        have := hf i
        rcases hσH.out with h | h <;> rw [h] <;> simp <;> exact this
      have ws : wrap64 (σ * f i) = m := by rw [← hm]; unfold wrap64; omega
      have ws2 : IntKind.i64.wrap (σ * f i) = m := by rw [← hm, IntKind.wrap_i64]; omega
      have P := fun w hL => put_any G g m (30 * (i : Int) - 120) w hL (by omega) (by omega) (by omega) (by omega) (fun j => by have := hgb j; omega)
      have hvm := Lib.hid (And.intro hval hm)
      have I5 : (i : Int) < 5 := by omega
      clear hval hm bm
      go_wp2_with fail
      refine (P _ hL).mono ?_; rintro r w2 ⟨rfl, g2, l2, v2, d2, e2⟩
      have hT2 : Two w2 A x y := ⟨(e2.cell (p := ⟨A, 0, none⟩) hT.lt hGw.out.2.1).trans hT.c0, (e2.cell (p := ⟨A, 1, none⟩) hT.lt hGw.out.2.1).trans hT.c1, (e2.frozen (p := ⟨A, 0, none⟩) hT.lt hGw.out.2.1).trans hT.z0, (e2.frozen (p := ⟨A, 1, none⟩) hT.lt hGw.out.2.1).trans hT.z1⟩
      have hF2 : CellsAt 5 w2 (A + 1) f := fun j hj => ⟨(e2.cell (p := ⟨A + 1, j, none⟩) (hF.lt (by decide)) hGw.out.2.2).trans (hF j hj).1, (e2.frozen (p := ⟨A + 1, j, none⟩) (hF.lt (by decide)) hGw.out.2.2).trans (hF j hj).2⟩
      have hG2 : G < w2.heap.size := Nat.lt_of_lt_of_le hGs e2.below.size
      have hv2 := Lib.hid (show lval g2 = σ * lsum f (i + 1) * 2 ^ e1080 by
        rw [v2, hvm.out.1, hvm.out.2, show (30 * (i : Int) - 120 + 1200).toNat = 30 * i + e1080 from by unfold e1080; omega]
        exact far_step σ f i)
      have hb2 : ∀ j, (g2 j).natAbs ≤ (i + 1) * 3221225472 := fun j => by have := d2 j; have := hgb j; omega
      have hTo2 := hTo.trans e2
      clear v2 d2 hvm hL hT hF hGs hTo e2 hgb P c1
      go_wp2
      go_roundw
      case rel => exact ⟨i + 1, g2, by omega, by simp, l2, hv2.out, hb2, hT2, hF2, hG2, hTo2⟩
      case measure => simp [intOf]; omega
    · have h5 : i = 5 := by omega
      subst h5
      obtain ⟨nx, ny, hbd⟩ := hnx.out
      rw [hvH.out] at hval
      have P1 := fun w hL => add_any G g _ (-H) w nx hL (fun j => by have := hgb j; omega)
      have tx0 := hT.c0
      have tx1 := hT.c1
      have lT := hT.lt
      have hvH2 := Lib.hid (And.intro hval hbd)
      clear hval hbd hF
      go_wp2_with fail
      refine (P1 _ hL).mono ?_; rintro r w2 ⟨rfl, g2, l2, v2, d2, e2⟩
      have k1 := (e2.cell (p := ⟨A, 1, none⟩) lT hGw.out.2.1).trans tx1
      have b2 : ∀ j, (g2 j).natAbs ≤ 19327352832 := fun j => by have := d2 j; have := hgb j; omega
      have P2 := fun w hL => add_any G g2 _ (-L) w ny hL (fun j => Nat.le_trans (b2 j) (by decide))
      have hG2 := Nat.lt_of_lt_of_le hGs e2.below.size
      have v2H := Lib.hid v2
      clear P1 tx0 tx1 v2 nx ny
      go_wp2_with fail
      refine (P2 _ l2).mono ?_; rintro r w3 ⟨rfl, g3, l3, v3, d3, e3⟩
      have b3 : ∀ j, (g3 j).natAbs ≤ 22548578304 := fun j => by have := d3 j; have := b2 j; omega
      have hG3 := Nat.lt_of_lt_of_le hG2 e3.below.size
      have hval : lval g3 = σ * (v : Int) * 2 ^ e1080 + -H * 2 ^ 126 + -L * 2 ^ 126 := by rw [v3, v2H.out, hvH2.out.1]
      have S := size_any G g3 w3 l3 hG3 (fun j => Nat.le_trans (b3 j) (by decide)) (by rw [hval]; exact hvH2.out.2)
      rw [hval] at S
      have hBz : Bel w w3 := bel_of_touch hB ((hTo.trans e2).trans e3) hGw.out.1
      clear P2 k1 hval v3 v2H d2 d3 hgb b2 b3 hvH2 hT
      go_wp2_with fail
      refine S.mono ?_; rintro r w4 ⟨k, rfl, hk, k0, k1, hB4⟩
      go_wp2
      go_ret
      exact ⟨k, rfl, hk, k0, k1, hBz.trans hB4⟩
end Go.Proofs.Ytpifkjmdcbieoaa

/- The value of a number of two floats, in units of 2^-120, and how far it is from a fixed one (layer 5). -/
namespace Go.Proofs.Ytpifkjmdcbieoaa
open Go.RowKit

def e954 : Nat := 954
theorem pw_pos (k : Nat) : 0 < 2 ^ k := Nat.pow_pos (by decide)
noncomputable def P954 : Nat := Classical.choose (⟨2 ^ e954, rfl⟩ : ∃ v, v = 2 ^ e954)
theorem P954_eq : P954 = 2 ^ e954 := Classical.choose_spec (⟨2 ^ e954, rfl⟩ : ∃ v, v = 2 ^ e954)
theorem P954_pos : 0 < P954 := by rw [P954_eq]; exact pw_pos e954
theorem P954_posR : (0 : Rat) < (P954 : Rat) := by exact_mod_cast P954_pos
/-- N units of 2^-1074, in units of 2^-120 -/
noncomputable def valR (N : Int) : Rat := (N : Rat) / (P954 : Rat)
theorem valR_mul (N : Int) : valR N * (P954 : Rat) = (N : Rat) := by
  have := P954_posR
  unfold valR; grind
theorem valR_add (M N : Int) : valR (M + N) = valR M + valR N := by
  have := P954_posR
  unfold valR
  have : ((M + N : Int) : Rat) = (M : Rat) + (N : Rat) := by exact_mod_cast rfl
  rw [this]; grind
theorem valR_neg (N : Int) : valR (-N) = - valR N := by
  have := P954_posR
  unfold valR
  have : ((-N : Int) : Rat) = -(N : Rat) := by exact_mod_cast rfl
  rw [this]; grind
theorem valR_zero : valR 0 = 0 := by
  have h := valR_neg 0
  have e : (-0 : Int) = 0 := rfl
  rw [e] at h; grind
/-- an error in units of 2^-1074, over the rationals -/
theorem valR_err {M N : Int} {e : Nat} (h : (M - N).natAbs ≤ e * P954) : -(e : Rat) ≤ valR M - valR N ∧ valR M - valR N ≤ (e : Rat) := by
  have z : ((e * P954 : Nat) : Int) = (e : Int) * (P954 : Int) := Int.natCast_mul _ _
  have h1 : N ≤ M + (e : Int) * (P954 : Int) := by omega
  have h2 : M ≤ N + (e : Int) * (P954 : Int) := by omega
  have q1 : (N : Rat) ≤ (M : Rat) + (e : Rat) * (P954 : Rat) := by exact_mod_cast h1
  have q2 : (M : Rat) ≤ (N : Rat) + (e : Rat) * (P954 : Rat) := by exact_mod_cast h2
  rw [← valR_mul M, ← valR_mul N] at q1 q2
  have p := P954_posR
  generalize (P954 : Rat) = P at *
  have k1 := nonneg_of p (d := (e : Rat) - (valR M - valR N)) (by grind)
  have k2 := nonneg_of p (d := (e : Rat) + (valR M - valR N)) (by grind)
  constructor <;> grind
/-- and back -/
theorem err_valR {N T : Int} {e : Nat} (h1 : -(e : Rat) ≤ (T : Rat) - valR N) (h2 : (T : Rat) - valR N ≤ (e : Rat)) : (T * (P954 : Int) - N).natAbs ≤ e * P954 := by
  have p := P954_posR
  have m := valR_mul N
  have a := Rat.mul_nonneg (a := (e : Rat) - ((T : Rat) - valR N)) (b := (P954 : Rat)) (by grind) (by grind)
  have b := Rat.mul_nonneg (a := (e : Rat) + ((T : Rat) - valR N)) (b := (P954 : Rat)) (by grind) (by grind)
  have q1 : (N : Rat) ≤ (T : Rat) * (P954 : Rat) + (e : Rat) * (P954 : Rat) := by grind
  have q2 : (T : Rat) * (P954 : Rat) ≤ (N : Rat) + (e : Rat) * (P954 : Rat) := by grind
  have i1 : N ≤ T * (P954 : Int) + (e : Int) * (P954 : Int) := by exact_mod_cast q1
  have i2 : T * (P954 : Int) ≤ N + (e : Int) * (P954 : Int) := by exact_mod_cast q2
  have : ((e * P954 : Nat) : Int) = (e : Int) * (P954 : Int) := Int.natCast_mul _ _
  omega
theorem far_fin {H L σ : Int} {v e : Nat} (h1 : -(e : Rat) ≤ ((σ * (v : Int) : Int) : Rat) - valR (H + L)) (h2 : ((σ * (v : Int) : Int) : Rat) - valR (H + L) ≤ (e : Rat)) {j : Nat} (he : e < 2 ^ j) :
    (σ * (v : Int) * 2 ^ e1080 + -H * 2 ^ 126 + -L * 2 ^ 126).natAbs < 2 ^ (j + e1080) := by
  have h := err_valR h1 h2
  have e1 : (2 : Int) ^ e1080 = (P954 : Int) * 2 ^ 126 := by
    have : e1080 = e954 + 126 := rfl
    rw [this, P954_eq, Int.pow_add]
    exact congrArg (· * (2 : Int) ^ 126) (Int.natCast_pow 2 e954).symm
  obtain ⟨T, hT⟩ : ∃ T : Int, T = σ * (v : Int) := ⟨_, rfl⟩
  have e2 : σ * (v : Int) * 2 ^ e1080 + -H * 2 ^ 126 + -L * 2 ^ 126 = (T * (P954 : Int) - (H + L)) * 2 ^ 126 := by
    rw [e1, ← hT]
    generalize (2 : Int) ^ 126 = K
    grind
  rw [← hT] at h
  rw [e2, Int.natAbs_mul]
  have e3 : ((2 : Int) ^ 126).natAbs = 2 ^ 126 := by decide
  rw [e3]
  have e4 : 2 ^ (j + e1080) = 2 ^ j * (P954 * 2 ^ 126) := by
    have : e1080 = e954 + 126 := rfl
    rw [Nat.pow_add, this, P954_eq, Nat.pow_add]
  rw [e4]
  have p := P954_pos
  have e5 : e * P954 < 2 ^ j * P954 := (Nat.mul_lt_mul_right p).2 he
  rw [← Nat.mul_assoc]
  exact (Nat.mul_lt_mul_right (pw_pos 126)).2 (Nat.lt_of_le_of_lt h e5)
end Go.Proofs.Ytpifkjmdcbieoaa

/- From 'near the exact cosine and sine' to the sizes that the statements compare (layer 5). -/
namespace Go.Proofs.Ytpifkjmdcbieoaa
open Go.RowKit

/-- the value of a number whose parts add up to N units of 2^-1074 -/
noncomputable def reR (N : Int) : Rat := valR N / uR
theorem reR_mul (N : Int) : reR N * uR = valR N := by
  have := uR_pos
  unfold reR; grind
theorem InU.val {E x : Rat} {N : Int} (h : InU E (reR N) x) : -E ≤ valR N - x * uR ∧ valR N - x * uR ≤ E := by
  obtain ⟨a, b⟩ := h
  rw [← reR_mul]
  constructor <;> grind
/-- the size of the difference from the reference's cosine -/
theorem exact_far {k n : Int} (hn : 0 < n) {e j : Nat} (he : e + 3700 < 2 ^ j) {H L : Int} (h : InU (e : Rat) (reR (H + L)) (cosR (angR k n))) :
    (turnA (octO k n) * ((turnC (octO k n) (turnX k n) : Nat) : Int) * 2 ^ e1080 + -H * 2 ^ 126 + -L * 2 ^ 126).natAbs < 2 ^ (j + e1080) := by
  obtain ⟨a, b⟩ := h.val
  obtain ⟨⟨c, d⟩, _⟩ := ref_truth (k := k) hn
  have q : ((turnA (octO k n) * ((turnC (octO k n) (turnX k n) : Nat) : Int) : Int) : Rat) = (turnA (octO k n) : Rat) * (turnC (octO k n) (turnX k n) : Rat) := by push_cast; rfl
  have z : ((e + 3700 : Nat) : Rat) = (e : Rat) + 3700 := by push_cast; rfl
  exact far_fin (e := e + 3700) (by rw [q, z]; grind) (by rw [q, z]; grind) he
theorem exact_far' {k n : Int} (hn : 0 < n) {e j : Nat} (he : e + 3700 < 2 ^ j) {H L : Int} (h : InU (e : Rat) (reR (H + L)) (sinR (angR k n))) :
    (turnB (octO k n) * ((turnS (octO k n) (turnX k n) : Nat) : Int) * 2 ^ e1080 + -H * 2 ^ 126 + -L * 2 ^ 126).natAbs < 2 ^ (j + e1080) := by
  obtain ⟨a, b⟩ := h.val
  obtain ⟨_, ⟨c, d⟩⟩ := ref_truth (k := k) hn
  have q : ((turnB (octO k n) * ((turnS (octO k n) (turnX k n) : Nat) : Int) : Int) : Rat) = (turnB (octO k n) : Rat) * (turnS (octO k n) (turnX k n) : Rat) := by push_cast; rfl
  have z : ((e + 3700 : Nat) : Rat) = (e : Rat) + 3700 := by push_cast; rfl
  exact far_fin (e := e + 3700) (by rw [q, z]; grind) (by rw [q, z]; grind) he
/-- within 2^-91 of the exact one: the statement's size -/
theorem exact_size {v : Nat} {k : Int} (h : v < 2 ^ (30 + e1080)) (hk : SizeIs v k) : k ≤ -90 := by
  have := hk.le h
  have e : ((30 + e1080 : Nat) : Int) = 1110 := rfl
  omega
end Go.Proofs.Ytpifkjmdcbieoaa

/- Sums without an error by two ways, splitting a float, products without an error: over whole numbers. No program is named here. -/
namespace Flt

/-- the sum of two of which the first is the greater -/
theorem fast_two_sum {a b s z e : Int} (ha : FL a) (hb : FL b) (hab : b.natAbs ≤ a.natAbs) (h1 : Near (a + b) s) (h2 : Near (s - a) z) (h3 : Near (b - z) e) : s + e = a + b := by
  have e1 := h2.self (fast_fl ha hb hab h1)
  subst e1
  have e2 : b - (s - a) = a + b - s := by omega
  rw [e2] at h3
  have e3 := h3.self (err_fl ha hb h1)
  omega

/-- the sum of any two, by six operations -/
theorem two_sum {a b s a' b' da db t : Int} (ha : FL a) (hb : FL b) (h1 : Near (a + b) s) (h2 : Near (s - b) a') (h3 : Near (s - a') b') (h4 : Near (a - a') da) (h5 : Near (b - b') db) (h6 : Near (da + db) t) : s + t = a + b := by
  have herr := err_fl ha hb h1
  by_cases hab : a.natAbs ≤ b.natAbs
  · have e1 := h2.self (fast_fl hb ha hab (by rwa [Int.add_comm]))
    subst e1
    have e2 := h3.self (by have : s - (s - b) = b := by omega
                           rw [this]; exact hb)
    have e3 := h4.self (by have : a - (s - b) = a + b - s := by omega
                           rw [this]; exact herr)
    have e4 := h5.self (by have : b - b' = 0 := by omega
                           rw [this]; exact fl_zero)
    have e5 := h6.self (by have : da + db = a + b - s := by omega
                           rw [this]; exact herr)
    omega
  · by_cases hsb : s.natAbs < b.natAbs
    · have es : s = a + b := by
        refine Classical.byContradiction fun hne => ?_
        obtain ⟨f, hdf, hf, hcf⟩ := canon hb
        have hda : (2 : Int) ^ f ∣ a := by
          rcases hcf with h | h
          · rw [h]; simp
          · exact dvd_of_ge ha (by omega)
        have := (h1.great (Int.dvd_add hda hdf) hne).2
        omega
      have e1 := h2.self (by have : s - b = a := by omega
                             rw [this]; exact ha)
      have e2 := h3.self (by have : s - a' = b := by omega
                             rw [this]; exact hb)
      have e3 := h4.self (by have : a - a' = 0 := by omega
                             rw [this]; exact fl_zero)
      have e4 := h5.self (by have : b - b' = 0 := by omega
                             rw [this]; exact fl_zero)
      have e5 := h6.self (by have : da + db = 0 := by omega
                             rw [this]; exact fl_zero)
      omega
    · have h2' : Near (s + -b) a' := h2
      have f1 := fast_fl h1.fl (fl_neg hb) (by omega) h2'
      have f2 := err_fl h1.fl (fl_neg hb) h2'
      have e2 := h3.self (by have : s - a' = -(a' - s) := by omega
                             rw [this]; exact fl_neg f1)
      have e4 := h5.self (by have : b - b' = -(s + -b - a') := by omega
                             rw [this]; exact fl_neg f2)
      have f3 : FL (a - a') := by
        obtain ⟨e, hde, he, hce⟩ := canon ha
        have herr1 := h1.err (e := e) (by
          have : (2 : Nat) ^ (54 + e) = 2 * 2 ^ (53 + e) := by rw [show 54 + e = 53 + e + 1 from by omega, Nat.pow_succ, Nat.mul_comm]
          omega)
        have hna := h2.le a ha
        have hd : (a - a').natAbs ≤ 2 * 2 ^ e := by omega
        rcases hce with h0 | h0
        · subst h0
          refine fl_small ?_
          have h5 : (2 : Nat) ^ 53 = 9007199254740992 := rfl
          have h6 : (2 : Nat) ^ 0 = 1 := rfl
          omega
        · by_cases e0 : e = 0
          · subst e0
            refine fl_small ?_
            have h5 : (2 : Nat) ^ 53 = 9007199254740992 := rfl
            have h6 : (2 : Nat) ^ 0 = 1 := rfl
            omega
          · obtain ⟨g, rfl⟩ : ∃ g, e = g + 1 := ⟨e - 1, by omega⟩
            have p1 : (2 : Nat) ^ (g + 1) = 2 * 2 ^ g := by rw [Nat.pow_succ, Nat.mul_comm]
            have p2 : (2 : Nat) ^ (52 + (g + 1)) = 9007199254740992 * 2 ^ g := by rw [show 52 + (g + 1) = 53 + g from by omega, Nat.pow_add]
            have p3 : (2 : Nat) ^ (52 + g) = 4503599627370496 * 2 ^ g := by rw [Nat.pow_add]
            have p4 : (2 : Nat) ^ (53 + g) = 9007199254740992 * 2 ^ g := by rw [Nat.pow_add]
            have hpos : 0 < 2 ^ g := Nat.pow_pos (by decide)
            have hda' : (2 : Int) ^ g ∣ a' := dvd_of_ge h2.fl (by omega)
            exact fl_of (Int.dvd_sub (two_dvd_of_le (by omega) hde) hda') (by omega)
      have e3 := h4.self f3
      have e5 := h6.self (by have : da + db = a + b - s := by omega
                             rw [this]; exact herr)
      omega

/-! splitting: by the product with 2^27 + 1 -/
/-- a float of last place e in two halves -/
structure Halves (a : Int) (e : Nat) (hi lo : Int) : Prop where
  sum : a = hi + lo
  lo_dvd : (2 : Int) ^ e ∣ lo
  lo_le : lo.natAbs ≤ 2 ^ (26 + e)
  hi_or : ((2 : Int) ^ (27 + e) ∣ hi ∧ hi.natAbs ≤ 2 ^ (53 + e)) ∨ ((2 : Int) ^ (26 + e) ∣ hi ∧ hi.natAbs ≤ 2 ^ (52 + e) + 2 ^ (26 + e) ∧ a.natAbs = 2 ^ (52 + e))
theorem Halves.neg {a hi lo : Int} {e : Nat} (h : Halves a e hi lo) : Halves (-a) e (-hi) (-lo) := by
  refine ⟨by have := h.sum; omega, Int.dvd_neg.2 h.lo_dvd, by rw [Int.natAbs_neg]; exact h.lo_le, ?_⟩
  rw [Int.natAbs_neg, Int.natAbs_neg]
  rcases h.hi_or with ⟨h1, h2⟩ | ⟨h1, h2, h3⟩
  · exact Or.inl ⟨Int.dvd_neg.2 h1, h2⟩
  · exact Or.inr ⟨Int.dvd_neg.2 h1, h2, h3⟩

theorem split_halves {a c d hi lo : Int} {e : Nat} (hd : (2 : Int) ^ e ∣ a) (hge : 2 ^ (52 + e) ≤ a.natAbs) (hlt : a.natAbs < 2 ^ (53 + e))
    (h1 : Near (134217729 * a) c) (h2 : Near (c - a) d) (h3 : Near (c - d) hi) (h4 : Near (a - hi) lo) : Halves a e hi lo := by
  have key : ∀ a c d hi lo : Int, 0 ≤ a → (2 : Int) ^ e ∣ a → 2 ^ (52 + e) ≤ a.natAbs → a.natAbs < 2 ^ (53 + e) →
      Near (134217729 * a) c → Near (c - a) d → Near (c - d) hi → Near (a - hi) lo → Halves a e hi lo := by
    intro a c d hi lo a0 hd hge hlt h1 h2 h3 h4
    have q (j : Nat) : (2 : Nat) ^ (j + e) = 2 ^ j * 2 ^ e := Nat.pow_add 2 j e
    have hU : 0 < 2 ^ e := Nat.pow_pos (by decide)
    obtain ⟨U, hUe⟩ : ∃ U, U = 2 ^ e := ⟨_, rfl⟩
    have p26 : (2 : Nat) ^ (26 + e) = 67108864 * U := by rw [q 26, hUe]
    have p27 : (2 : Nat) ^ (27 + e) = 134217728 * U := by rw [q 27, hUe]
    have p52 : (2 : Nat) ^ (52 + e) = 4503599627370496 * U := by rw [q 52, hUe]
    have p53 : (2 : Nat) ^ (53 + e) = 9007199254740992 * U := by rw [q 53, hUe]
    have p78 : (2 : Nat) ^ (52 + (26 + e)) = 302231454903657293676544 * U := by rw [show 52 + (26 + e) = 78 + e from by omega, q 78, hUe]
    have p79 : (2 : Nat) ^ (52 + (27 + e)) = 604462909807314587353088 * U := by rw [show 52 + (27 + e) = 79 + e from by omega, q 79, hUe]
    have p80 : (2 : Nat) ^ (54 + (26 + e)) = 1208925819614629174706176 * U := by rw [show 54 + (26 + e) = 80 + e from by omega, q 80, hUe]
    have p81 : (2 : Nat) ^ (54 + (27 + e)) = 2417851639229258349412352 * U := by rw [show 54 + (27 + e) = 81 + e from by omega, q 81, hUe]
    rw [← hUe] at hU
    rw [p52] at hge
    rw [p53] at hlt
    -- a is a multiple of U
    have ha1 : a.natAbs + U ≤ 9007199254740992 * U ∧ ∃ k : Nat, a = (k : Int) * (U : Int) := by
      obtain ⟨k, hk⟩ := hd
      have eU : ((2 : Int) ^ e) = (U : Int) := by rw [hUe, Int.natCast_pow]; rfl
      rw [eU] at hk
      have hk0 : 0 ≤ k := by
        refine Classical.byContradiction fun hc => ?_
        have : (U : Int) * k ≤ (U : Int) * (-1) := Int.mul_le_mul_of_nonneg_left (by omega) (by omega)
        omega
      obtain ⟨m, rfl⟩ := Int.eq_ofNat_of_zero_le hk0
      have hka : a.natAbs = m * U := by rw [hk, Int.natAbs_mul, Nat.mul_comm]; rfl
      have hm : m < 9007199254740992 := by
        refine Classical.byContradiction fun hc => ?_
        have : 9007199254740992 * U ≤ m * U := Nat.mul_le_mul_right _ (by omega)
        omega
      have : (m + 1) * U ≤ 9007199254740992 * U := Nat.mul_le_mul_right _ hm
      rw [Nat.add_mul, Nat.one_mul, ← hka] at this
      exact ⟨this, m, by rw [hk, Int.mul_comm]⟩
    obtain ⟨ha1, k, hak⟩ := ha1
    have E1 := h1.err (e := 27 + e) (by rw [p81]; omega)
    rw [p27] at E1
    have E2 := h2.err (e := 26 + e) (by rw [p80]; omega)
    rw [p26] at E2
    have dc : (2 : Int) ^ (27 + e) ∣ c := dvd_of_ge h1.fl (by rw [p79]; omega)
    have fin : ∀ h : Int, hi = h → (a - h).natAbs ≤ 67108864 * U → (2 : Int) ^ (26 + e) ∣ h → lo = a - h ∧ (2 : Int) ^ e ∣ a - h := by
      intro h eh hle hdh
      subst eh
      have hda : (2 : Int) ^ e ∣ a - hi := Int.dvd_sub hd (two_dvd_of_le (by omega) hdh)
      exact ⟨h4.self (fl_of hda (by rw [p53]; omega)), hda⟩
    by_cases hd79 : 604462909807314587353088 * U ≤ d.natAbs
    · have dd : (2 : Int) ^ (27 + e) ∣ d := dvd_of_ge h2.fl (by rw [p79]; exact hd79)
      have dcd := Int.dvd_sub dc dd
      have e3 := h3.self (fl_of dcd (by rw [show 53 + (27 + e) = 54 + (26 + e) from by omega, p80]; omega))
      obtain ⟨e4, e5⟩ := fin _ e3 (by omega) (two_dvd_of_le (by omega) dcd)
      refine ⟨by omega, e4 ▸ e5, by rw [p26]; omega, Or.inl ⟨e3 ▸ dcd, ?_⟩⟩
      -- a multiple of 2^27 U
      obtain ⟨j, hj⟩ := dcd
      have eV : ((2 : Int) ^ (27 + e)) = 134217728 * (U : Int) := by
        have : ((2 : Int) ^ (27 + e)) = (((2 : Nat) ^ (27 + e) : Nat) : Int) := by rw [Int.natCast_pow]; rfl
        rw [this, p27]; rfl
      rw [eV] at hj
      rw [p53, e3, hj]
      have hja : (134217728 * (U : Int) * j).natAbs = 134217728 * U * j.natAbs := by rw [Int.natAbs_mul, Int.natAbs_mul]; rfl
      rw [hja]
      refine Classical.byContradiction fun hc => ?_
      have hjj : 67108864 < j.natAbs := by
        refine Classical.byContradiction fun hx => hc ?_
        have : 134217728 * U * j.natAbs ≤ 134217728 * U * 67108864 := Nat.mul_le_mul_left _ (by omega)
        omega
      have h7 : 134217728 * U * 67108865 ≤ 134217728 * U * j.natAbs := Nat.mul_le_mul_left _ hjj
      omega
    · -- a is a power of two
      have hf79 : FL ((2 : Int) ^ (52 + (27 + e))) := fl_of (e := 27 + e) ⟨2 ^ 52, by rw [Int.pow_add, Int.mul_comm]⟩ (by rw [natAbs_two]; exact two_le (by omega))
      have e79 : ((2 : Int) ^ (52 + (27 + e))) = 604462909807314587353088 * (U : Int) := by
        have : ((2 : Int) ^ (52 + (27 + e))) = (((2 : Nat) ^ (52 + (27 + e)) : Nat) : Int) := by rw [Int.natCast_pow]; rfl
        rw [this, p79]; rfl
      have hn2 : c - a < 604462909807314587353088 * (U : Int) := by
        refine Classical.byContradiction fun hc => hd79 ?_
        have := h2.ge hf79 (by rw [e79]; omega)
        rw [e79] at this
        omega
      have hak2 : a = 4503599627370496 * (U : Int) := by
        have h8 : k = 4503599627370496 := by
          have h9 : a.natAbs = k * U := by rw [hak, Int.natAbs_mul]; rfl
          have h10 : 4503599627370496 ≤ k := by
            refine Classical.byContradiction fun hc => ?_
            have : k * U ≤ 4503599627370495 * U := Nat.mul_le_mul_right _ (by omega)
            omega
          have h11 : k < 4503599627370497 := by
            refine Classical.byContradiction fun hc => ?_
            have : 4503599627370497 * U ≤ k * U := Nat.mul_le_mul_right _ (by omega)
            omega
          omega
        rw [hak, h8]; rfl
      have dd : (2 : Int) ^ (26 + e) ∣ d := dvd_of_ge h2.fl (by rw [p78]; omega)
      have dcd := Int.dvd_sub (two_dvd_of_le (by omega) dc : (2 : Int) ^ (26 + e) ∣ c) dd
      have e3 := h3.self (fl_of dcd (by rw [show 53 + (26 + e) = 52 + (27 + e) from by omega, p79]; omega))
      obtain ⟨e4, e5⟩ := fin _ e3 (by omega) dcd
      exact ⟨by omega, e4 ▸ e5, by rw [p26]; omega, Or.inr ⟨e3 ▸ dcd, by rw [p52, p26]; omega, by rw [p52]; omega⟩⟩
  rcases Int.lt_or_le a 0 with ha | ha
  · have n1 := h1.neg
    have n2 := h2.neg
    have n3 := h3.neg
    have n4 := h4.neg
    have := key (-a) (-c) (-d) (-hi) (-lo) (by omega) (Int.dvd_neg.2 hd) (by omega) (by omega)
      (by have e : 134217729 * -a = -(134217729 * a) := by omega
          rw [e]; exact n1)
      (by have e : -c - -a = -(c - a) := by omega
          rw [e]; exact n2)
      (by have e : -c - -d = -(c - d) := by omega
          rw [e]; exact n3)
      (by have e : -a - -hi = -(a - hi) := by omega
          rw [e]; exact n4)
    have h5 := this.neg
    rwa [Int.neg_neg, Int.neg_neg, Int.neg_neg] at h5
  · exact key a c d hi lo ha hd hge hlt h1 h2 h3 h4
end Flt

/- Products without an error: over whole numbers. No program is named here. -/
namespace Flt

/-- two halves of a number of 53 bits -/
structure HalvesU (A H L : Int) : Prop where
  ge : 2 ^ 52 ≤ A.natAbs
  lt : A.natAbs < 2 ^ 53
  sum : A = H + L
  lo_le : L.natAbs ≤ 2 ^ 26
  hi_or : ((2 : Int) ^ 27 ∣ H ∧ H.natAbs ≤ 2 ^ 53) ∨ ((2 : Int) ^ 26 ∣ H ∧ H.natAbs ≤ 2 ^ 52 + 2 ^ 26 ∧ A.natAbs = 2 ^ 52)
theorem HalvesU.dvd {A H L : Int} (h : HalvesU A H L) : (2 : Int) ^ 26 ∣ H := by
  rcases h.hi_or with ⟨h1, _⟩ | ⟨h1, _⟩
  · exact two_dvd_of_le (by decide) h1
  · exact h1
theorem HalvesU.le {A H L : Int} (h : HalvesU A H L) : H.natAbs ≤ 2 ^ 53 := by
  rcases h.hi_or with ⟨_, h1⟩ | ⟨_, h1, _⟩
  · exact h1
  · exact Nat.le_trans h1 (by decide)

theorem shift_abs (x : Int) (k : Nat) : (x * 2 ^ k).natAbs = x.natAbs * 2 ^ k := by rw [Int.natAbs_mul, natAbs_two]
theorem shift_dvd {x : Int} {j k : Nat} (h : (2 : Int) ^ j ∣ x) : (2 : Int) ^ (j + k) ∣ x * 2 ^ k := by
  rw [Int.pow_add]; exact Int.mul_dvd_mul h (Int.dvd_refl _)
theorem fl_shift {x : Int} {j k : Nat} (h : (2 : Int) ^ j ∣ x) (hx : x.natAbs ≤ 2 ^ (53 + j)) : FL (x * 2 ^ k) := by
  refine fl_of (shift_dvd h) ?_
  rw [shift_abs, show 53 + (j + k) = 53 + j + k from by omega, Nat.pow_add 2 (53 + j) k]
  exact Nat.mul_le_mul_right _ hx
theorem mul_abs_le {a b : Int} {x y : Nat} (ha : a.natAbs ≤ x) (hb : b.natAbs ≤ y) : (a * b).natAbs ≤ x * y := by
  rw [Int.natAbs_mul]; exact Nat.mul_le_mul ha hb

structure Dekker (A H L B G M : Int) (k : Nat) (p : Int) : Prop where
  hg : FL (H * G * 2 ^ k)
  hm : FL (H * M * 2 ^ k)
  lg : FL (L * G * 2 ^ k)
  lm : FL (L * M * 2 ^ k)
  t1 : FL (H * G * 2 ^ k - p)
  t2 : FL (H * G * 2 ^ k - p + H * M * 2 ^ k)
  t2' : FL (H * G * 2 ^ k - p + L * G * 2 ^ k)
  t3 : FL (H * G * 2 ^ k - p + H * M * 2 ^ k + L * G * 2 ^ k)
  err : FL (A * B * 2 ^ k - p)
  sum : A * B * 2 ^ k = H * G * 2 ^ k + H * M * 2 ^ k + L * G * 2 ^ k + L * M * 2 ^ k

theorem dekker {A H L B G M : Int} {k : Nat} {p : Int} (hx : HalvesU A H L) (hy : HalvesU B G M) (hp : Near (A * B * 2 ^ k) p) : Dekker A H L B G M k p := by
  have xd := hx.dvd
  have yd := hy.dvd
  have xl := hx.le
  have yl := hy.le
  have hsum : A * B * 2 ^ k = H * G * 2 ^ k + H * M * 2 ^ k + L * G * 2 ^ k + L * M * 2 ^ k := by
    rw [hx.sum, hy.sum]
    simp only [Int.add_mul, Int.mul_add]
    omega
  -- the sizes
  have U0 : 0 < 2 ^ k := Nat.pow_pos (by decide)
  obtain ⟨U, hU⟩ : ∃ U, U = 2 ^ k := ⟨_, rfl⟩
  have q (j : Nat) : (2 : Nat) ^ (j + k) = 2 ^ j * U := by rw [Nat.pow_add, hU]
  have b2 : (H * M * 2 ^ k).natAbs ≤ 604462909807314587353088 * U := by rw [shift_abs, hU]; exact Nat.mul_le_mul_right _ (mul_abs_le xl hy.lo_le)
  have b3 : (L * G * 2 ^ k).natAbs ≤ 604462909807314587353088 * U := by rw [shift_abs, hU]; exact Nat.mul_le_mul_right _ (mul_abs_le hx.lo_le yl)
  have b4 : (L * M * 2 ^ k).natAbs ≤ 4503599627370496 * U := by rw [shift_abs, hU]; exact Nat.mul_le_mul_right _ (mul_abs_le hx.lo_le hy.lo_le)
  have bP : (A * B * 2 ^ k).natAbs ≤ 81129638414606681695789005144064 * U := by rw [shift_abs, hU]; exact Nat.mul_le_mul_right _ (mul_abs_le (Nat.le_of_lt hx.lt) (Nat.le_of_lt hy.lt))
  have bP2 : 20282409603651670423947251286016 * U ≤ (A * B * 2 ^ k).natAbs := by
    rw [shift_abs, hU, Int.natAbs_mul]; exact Nat.mul_le_mul_right _ (Nat.mul_le_mul hx.ge hy.ge)
  have E := hp.err (e := 52 + k) (by rw [show 54 + (52 + k) = 106 + k from by omega, q 106]; exact bP)
  rw [q 52] at E
  have dp : (2 : Int) ^ (52 + k) ∣ p := by
    refine dvd_of_ge hp.fl ?_
    have : (2 : Nat) ^ (52 + (52 + k)) = 20282409603651670423947251286016 * U := by rw [show 52 + (52 + k) = 104 + k from by omega, q 104]
    rw [this]
    have f104 : FL ((2 : Int) ^ (104 + k)) := fl_of (e := 52 + k) ⟨2 ^ 52, by rw [← Int.pow_add]; congr 1; omega⟩ (by rw [natAbs_two]; exact two_le (by omega))
    have c104 : ((2 : Int) ^ (104 + k)) = 20282409603651670423947251286016 * (U : Int) := by
      have : ((2 : Int) ^ (104 + k)) = (((2 : Nat) ^ (104 + k) : Nat) : Int) := by rw [Int.natCast_pow]; rfl
      rw [this, q 104]; rfl
    rcases Int.lt_or_le (A * B * 2 ^ k) 0 with h | h
    · have := hp.neg.ge f104 (by rw [c104]; omega)
      rw [c104] at this; omega
    · have := hp.ge f104 (by rw [c104]; omega)
      rw [c104] at this; omega
  have d1 : (2 : Int) ^ (52 + k) ∣ H * G * 2 ^ k := shift_dvd (by rw [show (52 : Nat) = 26 + 26 from rfl, Int.pow_add]; exact Int.mul_dvd_mul xd yd)
  have d2 : (2 : Int) ^ (26 + k) ∣ H * M * 2 ^ k := shift_dvd (Int.dvd_trans xd (Int.dvd_mul_right _ _))
  have d3 : (2 : Int) ^ (26 + k) ∣ L * G * 2 ^ k := shift_dvd (Int.dvd_trans yd (Int.dvd_mul_left _ _))
  have d4 : (2 : Int) ^ k ∣ L * M * 2 ^ k := Int.dvd_mul_left _ _
  have dP : (2 : Int) ^ k ∣ A * B * 2 ^ k := Int.dvd_mul_left _ _
  have dt1 := Int.dvd_sub d1 dp
  have fhg : FL (H * G * 2 ^ k) := by
    rcases hx.hi_or with ⟨x1, x2⟩ | ⟨x1, x2, _⟩ <;> rcases hy.hi_or with ⟨y1, y2⟩ | ⟨y1, y2, _⟩
    · exact fl_shift (j := 54) (by rw [show (54 : Nat) = 27 + 27 from rfl, Int.pow_add]; exact Int.mul_dvd_mul x1 y1) (Nat.le_trans (mul_abs_le x2 y2) (by decide))
    · exact fl_shift (j := 53) (by rw [show (53 : Nat) = 27 + 26 from rfl, Int.pow_add]; exact Int.mul_dvd_mul x1 y1) (Nat.le_trans (mul_abs_le x2 y2) (by decide))
    · exact fl_shift (j := 53) (by rw [show (53 : Nat) = 26 + 27 from rfl, Int.pow_add]; exact Int.mul_dvd_mul x1 y1) (Nat.le_trans (mul_abs_le x2 y2) (by decide))
    · exact fl_shift (j := 52) (by rw [show (52 : Nat) = 26 + 26 from rfl, Int.pow_add]; exact Int.mul_dvd_mul x1 y1) (Nat.le_trans (mul_abs_le x2 y2) (by decide))
  -- where a factor is a power of two, the product is exact
  have exact2 : ∀ A B : Int, A.natAbs = 2 ^ 52 → B.natAbs < 2 ^ 53 → FL (A * B * 2 ^ k) := by
    intro A B hA hB
    have hA2 : (2 : Int) ^ 52 ∣ A := by
      rcases Int.natAbs_eq A with h | h
      · rw [h, hA]; exact ⟨1, by simp⟩
      · rw [h, hA]; exact ⟨-1, by simp⟩
    exact fl_shift (j := 52) (Int.dvd_trans hA2 (Int.dvd_mul_right _ _)) (Nat.le_trans (mul_abs_le (Nat.le_of_eq hA) (Nat.le_of_lt hB)) (by decide))
  refine ⟨fhg, ?_, ?_, ?_, ?_, ?_, ?_, ?_, ?_, hsum⟩
  · exact fl_of d2 (by rw [show 53 + (26 + k) = 79 + k from by omega, q 79]; exact b2)
  · exact fl_of d3 (by rw [show 53 + (26 + k) = 79 + k from by omega, q 79]; exact b3)
  · exact fl_of d4 (by rw [q 53]; omega)
  · exact fl_of dt1 (by rw [show 53 + (52 + k) = 105 + k from by omega, q 105]; omega)
  · rcases hx.hi_or with ⟨x1, _⟩ | ⟨_, _, x3⟩
    · have d2' : (2 : Int) ^ (27 + k) ∣ H * M * 2 ^ k := shift_dvd (Int.dvd_trans x1 (Int.dvd_mul_right _ _))
      exact fl_of (Int.dvd_add (two_dvd_of_le (by omega) dt1) d2') (by rw [show 53 + (27 + k) = 80 + k from by omega, q 80]; omega)
    · have hpe := hp.self (exact2 A B x3 hy.lt)
      have hLB : (L * B * 2 ^ k).natAbs ≤ 604462909807314587353088 * U := by rw [shift_abs, hU]; exact Nat.mul_le_mul_right _ (mul_abs_le hx.lo_le (Nat.le_of_lt hy.lt))
      have eLB : L * B * 2 ^ k = L * G * 2 ^ k + L * M * 2 ^ k := by rw [hy.sum, Int.mul_add, Int.add_mul]
      exact fl_of (Int.dvd_add (two_dvd_of_le (by omega) dt1) d2) (by rw [show 53 + (26 + k) = 79 + k from by omega, q 79]; omega)
  · rcases hy.hi_or with ⟨y1, _⟩ | ⟨_, _, y3⟩
    · have d3' : (2 : Int) ^ (27 + k) ∣ L * G * 2 ^ k := shift_dvd (Int.dvd_trans y1 (Int.dvd_mul_left _ _))
      exact fl_of (Int.dvd_add (two_dvd_of_le (by omega) dt1) d3') (by rw [show 53 + (27 + k) = 80 + k from by omega, q 80]; omega)
    · have hpe := hp.self (by rw [Int.mul_comm A B]; exact exact2 B A y3 hx.lt)
      have hAM : (A * M * 2 ^ k).natAbs ≤ 604462909807314587353088 * U := by
        rw [shift_abs, hU]
        exact Nat.mul_le_mul_right _ (Nat.le_trans (mul_abs_le (Nat.le_of_lt hx.lt) hy.lo_le) (by decide))
      have eAM : A * M * 2 ^ k = H * M * 2 ^ k + L * M * 2 ^ k := by rw [hx.sum, Int.add_mul, Int.add_mul]
      exact fl_of (Int.dvd_add (two_dvd_of_le (by omega) dt1) d3) (by rw [show 53 + (26 + k) = 79 + k from by omega, q 79]; omega)
  · refine fl_of (e := k) (Int.dvd_add (Int.dvd_add (two_dvd_of_le (by omega) dt1) (two_dvd_of_le (by omega) d2)) (two_dvd_of_le (by omega) d3)) ?_
    rw [q 53]; omega
  · exact fl_of (Int.dvd_sub dP (two_dvd_of_le (by omega) dp)) (by rw [q 53]; omega)
end Flt

/- eft.Sum (a playground's). -/
namespace Go.Proofs.Ytpifkjmdcbieoaa
open Go.RowKit

theorem ret_ff {a b c d : Nat} (h : a = b) (k : c = d) : Ending.returned (.tuple #[.float .f64 a, .float .f64 c]) = .returned (.tuple #[.float .f64 b, .float .f64 d]) := by rw [h, k]
theorem sum_run {x y s p q d1 d2 e : Nat} (w : World) (h1 : Ieee.double.add x y = some s) (h2 : Ieee.double.sub s x = some p) (h3 : Ieee.double.sub s p = some q) (h4 : Ieee.double.sub x q = some d1) (h5 : Ieee.double.sub y p = some d2) (h6 : Ieee.double.add d1 d2 = some e) :
    Calls Try.prog 51 #[.float .f64 x, .float .f64 y] w fun r w' => r = .returned (.tuple #[.float .f64 s, .float .f64 e]) ∧ w = w' := by
  have o1 := fun w => run_fadd (P := Try.prog) 28 h1 w
  have o2 := fun w => run_fsub (P := Try.prog) 28 h2 w
  have o3 := fun w => run_fsub (P := Try.prog) 28 h3 w
  have o4 := fun w => run_fsub (P := Try.prog) 28 h4 w
  have o5 := fun w => run_fsub (P := Try.prog) 28 h5 w
  have o6 := fun w => run_fadd (P := Try.prog) 28 h6 w
  clear h1 h2 h3 h4 h5 h6
  go_enter Try.func51, Try.ntmps51
  go_wp2
  go_ret2
  exact ⟨rfl, rfl⟩
set_option maxHeartbeats 1000000 in
theorem sum_any (x y : Nat) (a b : Int) (w : World) (hx : Flt.Num x a) (hy : Flt.Num y b) (ha : UpTo 1 a) (hb : UpTo 1 b) :
    Calls Try.prog 51 #[.float .f64 x, .float .f64 y] w fun r w' => ∃ s e σ ε, r = .returned (.tuple #[.float .f64 s, .float .f64 e]) ∧ Ieee.double.add x y = some s ∧ Flt.Num s σ ∧ Flt.Num e ε ∧ σ + ε = a + b ∧ Flt.Near (a + b) σ ∧ UpTo 4 σ ∧ UpTo 1024 ε ∧ w = w' := by
  obtain ⟨s, σ, h1, n1, r1, u1⟩ := fadd hx hy ha hb (by decide)
  obtain ⟨p, π, h2, n2, r2, u2⟩ := fsub n1 hx u1 ha (by decide)
  obtain ⟨q, κ, h3, n3, r3, u3⟩ := fsub n1 n2 u1 u2 (by decide)
  obtain ⟨d1, δ1, h4, n4, r4, u4⟩ := fsub hx n3 ha u3 (by decide)
  obtain ⟨d2, δ2, h5, n5, r5, u5⟩ := fsub hy n2 hb u2 (by decide)
  obtain ⟨e, ε, h6, n6, r6, u6⟩ := fadd n4 n5 u4 u5 (by decide)
  have hsum := Flt.two_sum hy.fl hx.fl (by rwa [Int.add_comm] at r1) r2 r3 r5 r4 (by rwa [Int.add_comm] at r6)
  exact (sum_run w h1 h2 h3 h4 h5 h6).mono fun r w' h => ⟨s, e, σ, ε, h.1, h1, n1, n6, by omega, r1, u1, Nat.le_trans u6 (Nat.mul_le_mul_right _ (by decide)), h.2⟩
end Go.Proofs.Ytpifkjmdcbieoaa

/- Rounding to nearest, ties to even, as a function of the whole number (of least units) that is rounded. No program is named here. -/
namespace Flt
open Ieee

/-- n over 2^d, to the nearest, ties to even -/
def cutN (n d : Nat) : Nat := n / 2 ^ d + (if 2 ^ d < 2 * (n % 2 ^ d) ∨ (2 ^ d = 2 * (n % 2 ^ d) ∧ n / 2 ^ d % 2 = 1) then 1 else 0)
def rnN (n : Nat) : Nat := if n.log2 ≤ 52 then n else cutN n (n.log2 - 52) * 2 ^ (n.log2 - 52)
/-- the float nearest to n -/
def rn (n : Int) : Int := if n < 0 then -(rnN n.natAbs : Int) else (rnN n.natAbs : Int)

theorem cutN_shift (mag d drop : Nat) : cutN (mag * 2 ^ d) (drop + d) = cutN mag drop := by
  have hp : 0 < 2 ^ d := Nat.pow_pos (by decide)
  have e1 : mag * 2 ^ d / 2 ^ (drop + d) = mag / 2 ^ drop := by rw [Nat.pow_add]; exact Nat.mul_div_mul_right _ _ hp
  have e2 : mag * 2 ^ d % 2 ^ (drop + d) = mag % 2 ^ drop * 2 ^ d := by rw [Nat.pow_add]; exact Nat.mul_mod_mul_right _ _ _
  unfold cutN
  rw [e1, e2, Nat.pow_add]
  obtain ⟨R, hR⟩ : ∃ R, R = mag % 2 ^ drop := ⟨_, rfl⟩
  obtain ⟨G, hG⟩ : ∃ G, G = 2 ^ drop := ⟨_, rfl⟩
  obtain ⟨K, hK⟩ : ∃ K, K = 2 ^ d := ⟨_, rfl⟩
  rw [← hK] at hp
  rw [← hR, ← hG, ← hK]
  have c1 : (G * K < 2 * (R * K)) ↔ (G < 2 * R) := by
    rw [← Nat.mul_assoc]
    exact Nat.mul_lt_mul_right hp
  have c2 : (G * K = 2 * (R * K)) ↔ (G = 2 * R) := by
    rw [← Nat.mul_assoc]
    exact ⟨fun h => Nat.eq_of_mul_eq_mul_right hp h, fun h => by rw [h]⟩
  simp only [c1, c2]
theorem cutN_exact (q d : Nat) : cutN (q * 2 ^ d) d = q := by
  have hp : 0 < 2 ^ d := Nat.pow_pos (by decide)
  have e1 : q * 2 ^ d / 2 ^ d = q := Nat.mul_div_cancel _ hp
  have e2 : q * 2 ^ d % 2 ^ d = 0 := Nat.mul_mod_left _ _
  unfold cutN
  rw [e1, e2]
  have : ¬ (2 ^ d < 2 * 0 ∨ 2 ^ d = 2 * 0 ∧ q % 2 = 1) := by
    intro h
    rcases h with h | ⟨h, _⟩ <;> omega
  rw [if_neg this, Nat.add_zero]
theorem rnN_zero : rnN 0 = 0 := by decide
theorem rn_zero : rn 0 = 0 := by decide
theorem rn_neg (n : Int) : rn (-n) = -rn n := by
  unfold rn
  rw [Int.natAbs_neg]
  by_cases h : n < 0
  · rw [if_pos h, if_neg (by omega : ¬ -n < 0)]; omega
  · rw [if_neg h]
    by_cases h0 : n = 0
    · subst h0; decide
    · rw [if_pos (by omega : -n < 0)]
theorem rn_nat (n : Nat) : rn (n : Int) = (rnN n : Int) := by
  unfold rn
  rw [if_neg (by omega)]
  simp
/-- a number times a power of two, of which the number has up to 53 bits -/
theorem rnN_short (mag d : Nat) (h : mag.log2 ≤ 52) : rnN (mag * 2 ^ d) = mag * 2 ^ d := by
  by_cases h0 : mag = 0
  · subst h0; rw [Nat.zero_mul]; exact rnN_zero
  have hl := log2_shift h0 d
  unfold rnN
  rw [hl]
  by_cases c : mag.log2 + d ≤ 52
  · rw [if_pos c]
  · rw [if_neg c]
    have e : mag * 2 ^ d = mag * 2 ^ (52 - mag.log2) * 2 ^ (mag.log2 + d - 52) := by
      rw [Nat.mul_assoc, ← Nat.pow_add]; congr 2; omega
    rw [e, cutN_exact]
theorem rnN_long (mag d : Nat) (h : ¬ mag.log2 ≤ 52) : rnN (mag * 2 ^ d) = cutN mag (mag.log2 - 52) * 2 ^ (d + (mag.log2 - 52)) := by
  have h0 : mag ≠ 0 := by
    intro hc; subst hc
    exact h (by decide)
  have hl := log2_shift h0 d
  unfold rnN
  rw [hl, if_neg (by omega), show mag.log2 + d - 52 = (mag.log2 - 52) + d from by omega, cutN_shift, Nat.add_comm d]
theorem rn_near (n : Int) : Near n (rn n) := by
  have key : ∀ n : Nat, Near (n : Int) (rnN n : Int) := by
    intro n
    by_cases h : n.log2 ≤ 52
    · have e := rnN_short n 0 h
      rw [Nat.pow_zero, Nat.mul_one] at e
      rw [e]
      refine ⟨fl_small ?_, fun y _ => by omega⟩
      by_cases h0 : n = 0
      · subst h0; decide
      · have := @Nat.lt_log2_self n
        have h1 : 2 ^ (n.log2 + 1) ≤ 2 ^ 53 := two_le (by omega)
        show n ≤ 2 ^ 53
        omega
    · have e := rnN_long n 0 h
      rw [Nat.pow_zero, Nat.mul_one] at e
      have h0 : n ≠ 0 := by
        intro hc; subst hc
        exact h (by decide)
      have hlo := Nat.log2_self_le h0
      have hhi := @Nat.lt_log2_self n
      have q1 : 2 ^ 52 ≤ n / 2 ^ (n.log2 - 52) := by
        refine (Nat.le_div_iff_mul_le (Nat.pow_pos (by decide))).2 ?_
        rw [← Nat.pow_add, show 52 + (n.log2 - 52) = n.log2 from by omega]; exact hlo
      have q2 : n / 2 ^ (n.log2 - 52) < 2 ^ 53 := by
        refine (Nat.div_lt_iff_lt_mul (Nat.pow_pos (by decide))).2 ?_
        rw [← Nat.pow_add, show 53 + (n.log2 - 52) = n.log2 + 1 from by omega]; exact hhi
      have hN := near_cut n 0 (n.log2 - 52) _ q1 q2 rfl
      rw [Int.pow_zero, Int.mul_one] at hN
      rw [e, Int.natCast_mul, Int.natCast_pow]
      exact hN
  rcases Int.lt_or_le n 0 with h | h
  · have hk := (key n.natAbs).neg
    have e1 : -((n.natAbs : Nat) : Int) = n := by omega
    rw [e1] at hk
    unfold rn
    rw [if_pos h]
    exact hk
  · have hk := key n.natAbs
    have e1 : ((n.natAbs : Nat) : Int) = n := by omega
    rw [e1] at hk
    unfold rn
    rw [if_neg (by omega)]
    exact hk
theorem rn_fl {n : Int} (h : FL n) : rn n = n := (rn_near n).self h

/-- the word nearest to a number: that number's rounding -/
theorem nearest_rn (s : Bool) (mag : Nat) (place : Int) (hp : mag = 0 ∨ -1074 ≤ place) (hb : mag * 2 ^ (place + 1074).toNat < 2 ^ top) :
    Num (double.nearest s mag place) (rn (sval s mag place)) := by
  by_cases h0 : mag = 0
  · subst h0
    have hr := (read_word s 0 0 (by decide) (Or.inl rfl) (by decide)).1
    have ez : (if s then -(((0 : Nat) : Int) * 2 ^ 0) else ((0 : Nat) : Int) * 2 ^ 0) = 0 := by cases s <;> rfl
    rw [ez] at hr
    have e1 : double.nearest s 0 place = double.word s (0 * 4503599627370496 + 0) := by unfold Format.nearest; rw [if_pos rfl]
    have e2 : sval s 0 place = 0 := by
      unfold sval
      rw [signed_eq]; cases s <;> simp
    rw [e1, e2, rn_zero]
    exact hr
  · have hp : -1074 ≤ place := by rcases hp with h | h
                                  · exact absurd h h0
                                  · exact h
    obtain ⟨d, hd⟩ : ∃ d : Nat, place = (d : Int) - 1074 := ⟨(place + 1074).toNat, by omega⟩
    subst hd
    rw [show ((d : Int) - 1074 + 1074).toNat = d from by omega] at hb
    have hlo := Nat.log2_self_le h0
    have hkd : d + mag.log2 < 2097 := by
      have h1 : 2 ^ (mag.log2 + d) ≤ mag * 2 ^ d := by rw [Nat.pow_add]; exact Nat.mul_le_mul_right _ hlo
      have := two_lt (Nat.lt_of_le_of_lt h1 hb)
      have ht : top = 2097 := rfl
      omega
    have hhi := @Nat.lt_log2_self mag
    have key : ∃ k c : Nat, double.nearest s mag ((d : Int) - 1074) = double.word s (min (k * 4503599627370496 + c) 9218868437227405312) ∧ c ≤ 2 ^ 53 ∧ (k = 0 ∨ 2 ^ 52 ≤ c) ∧ k ≤ 2044 ∧ rnN (mag * 2 ^ d) = c * 2 ^ k := by
      unfold Format.nearest
      rw [if_neg h0, least, binade_eq, inf_eq, fraction_eq]
      by_cases c1 : d + mag.log2 ≤ 52
      · have e1 : max ((d : Int) - 1074 + (mag.log2 : Int) - ((52 : Nat) : Int)) (-1074) = -1074 := by omega
        refine ⟨0, mag * 2 ^ d, ?_, ?_, Or.inl rfl, by omega, ?_⟩
        · simp only [e1]
          rw [show (-1074 - ((d : Int) - 1074)).toNat = 0 from by omega, cut_zero, show ((d : Int) - 1074 - -1074).toNat = d from by omega, Nat.shiftLeft_eq]
          rfl
        · have h1 : mag * 2 ^ d < 2 ^ (mag.log2 + 1) * 2 ^ d := Nat.mul_lt_mul_of_pos_right hhi (Nat.pow_pos (by decide))
          rw [← Nat.pow_add] at h1
          exact Nat.le_of_lt (Nat.lt_of_lt_of_le h1 (two_le (by omega)))
        · rw [rnN_short mag d (by omega), Nat.pow_zero, Nat.mul_one]
      · have e1 : max ((d : Int) - 1074 + (mag.log2 : Int) - ((52 : Nat) : Int)) (-1074) = ((d + mag.log2 - 52 : Nat) : Int) - 1074 := by omega
        by_cases c2 : mag.log2 ≤ 52
        · refine ⟨d + mag.log2 - 52, mag * 2 ^ (52 - mag.log2), ?_, ?_, Or.inr ?_, by omega, ?_⟩
          · simp only [e1]
            rw [show (((d + mag.log2 - 52 : Nat) : Int) - 1074 - ((d : Int) - 1074)).toNat = 0 from by omega, cut_zero, show ((d : Int) - 1074 - (((d + mag.log2 - 52 : Nat) : Int) - 1074)).toNat = 52 - mag.log2 from by omega, Nat.shiftLeft_eq,
              show (((d + mag.log2 - 52 : Nat) : Int) - 1074 - -1074).toNat = d + mag.log2 - 52 from by omega]
          · have h1 : mag * 2 ^ (52 - mag.log2) < 2 ^ (mag.log2 + 1) * 2 ^ (52 - mag.log2) := Nat.mul_lt_mul_of_pos_right hhi (Nat.pow_pos (by decide))
            rw [← Nat.pow_add] at h1
            exact Nat.le_of_lt (Nat.lt_of_lt_of_le h1 (two_le (by omega)))
          · have h1 : 2 ^ mag.log2 * 2 ^ (52 - mag.log2) ≤ mag * 2 ^ (52 - mag.log2) := Nat.mul_le_mul_right _ hlo
            rw [← Nat.pow_add] at h1
            exact Nat.le_trans (two_le (by omega)) h1
          · rw [rnN_short mag d c2, Nat.mul_assoc, ← Nat.pow_add]; congr 2; omega
        · have hdrop : mag.log2 - 52 ≤ mag.log2 + 2 := by omega
          have q1 : 2 ^ 52 ≤ mag / 2 ^ (mag.log2 - 52) := by
            refine (Nat.le_div_iff_mul_le (Nat.pow_pos (by decide))).2 ?_
            rw [← Nat.pow_add, show 52 + (mag.log2 - 52) = mag.log2 from by omega]; exact hlo
          have q2 : mag / 2 ^ (mag.log2 - 52) < 2 ^ 53 := by
            refine (Nat.div_lt_iff_lt_mul (Nat.pow_pos (by decide))).2 ?_
            rw [← Nat.pow_add, show 53 + (mag.log2 - 52) = mag.log2 + 1 from by omega]; exact hhi
          refine ⟨d + (mag.log2 - 52), cutN mag (mag.log2 - 52), ?_, ?_, Or.inr ?_, by omega, rnN_long mag d c2⟩
          · simp only [e1]
            rw [show (((d + mag.log2 - 52 : Nat) : Int) - 1074 - ((d : Int) - 1074)).toNat = mag.log2 - 52 from by omega, show ((d : Int) - 1074 - (((d + mag.log2 - 52 : Nat) : Int) - 1074)).toNat = 0 from by omega, Nat.shiftLeft_zero, cut_some s mag _ hdrop,
              show (((d + mag.log2 - 52 : Nat) : Int) - 1074 - -1074).toNat = d + (mag.log2 - 52) from by omega]
            rfl
          · unfold cutN; split <;> omega
          · unfold cutN; split <;> omega
    obtain ⟨k, c, e, hc, hl, hk, hN⟩ := key
    obtain ⟨hR, hlt⟩ := read_word s k c hc hl hk
    rw [e, Nat.min_eq_left (Nat.le_of_lt hlt)]
    have hv : rn (sval s mag ((d : Int) - 1074)) = (if s then -((c : Int) * 2 ^ k) else (c : Int) * 2 ^ k) := by
      have e3 : ((rnN (mag * 2 ^ d) : Nat) : Int) = (c : Int) * 2 ^ k := by rw [hN, Int.natCast_mul, Int.natCast_pow]; rfl
      have e4 : (mag : Int) * 2 ^ d = ((mag * 2 ^ d : Nat) : Int) := by rw [Int.natCast_mul, Int.natCast_pow]; rfl
      unfold sval
      rw [signed_eq, show ((d : Int) - 1074 + 1074).toNat = d from by omega]
      cases s
      · show rn ((mag : Int) * 2 ^ d) = _
        rw [e4, rn_nat]; exact e3
      · show rn (-((mag : Int) * 2 ^ d)) = _
        rw [rn_neg, e4, rn_nat, e3]; rfl
    rw [hv]; exact hR

theorem sum_rn {s t : Bool} {m n : Nat} {i j : Int} (hi : -1074 ≤ i) (hj : -1074 ≤ j) (hb : (sval s m i + sval t n j).natAbs < 2 ^ top) :
    ∃ r, ((Datum.number s m i).sum (.number t n j)).map double.write = some r ∧ Num r (rn (sval s m i + sval t n j)) := by
  obtain ⟨base, hbase⟩ : ∃ base, base = min i j := ⟨_, rfl⟩
  have hb0 : -1074 ≤ base := by omega
  have ei : sval s m i = signed s m (i - base).toNat * 2 ^ (base + 1074).toNat := by
    unfold sval
    rw [← signed_scale]; congr 1; omega
  have ej : sval t n j = signed t n (j - base).toNat * 2 ^ (base + 1074).toNat := by
    unfold sval
    rw [← signed_scale]; congr 1; omega
  obtain ⟨T, hT⟩ : ∃ T, T = signed s m (i - base).toNat + signed t n (j - base).toNat := ⟨_, rfl⟩
  have eT : sval s m i + sval t n j = T * 2 ^ (base + 1074).toNat := by rw [ei, ej, hT, Int.add_mul]
  rw [eT] at hb ⊢
  have hw : ((Datum.number s m i).sum (.number t n j)).map double.write = some (double.nearest (if T = 0 then s && t else decide (T < 0)) T.natAbs base) := by
    rw [hT, hbase]; rfl
  rw [Int.natAbs_mul, natAbs_two] at hb
  have h1 := nearest_rn (if T = 0 then s && t else decide (T < 0)) T.natAbs base (Or.inr hb0) hb
  refine ⟨_, hw, ?_⟩
  have : sval (if T = 0 then s && t else decide (T < 0)) T.natAbs base = T * 2 ^ (base + 1074).toNat := by
    unfold sval
    by_cases h0 : T = 0
    · subst h0
      rw [signed_eq]; cases s <;> cases t <;> simp
    · rw [if_neg h0]; exact signed_total _ _
  rw [this] at h1
  exact h1
theorem add_rn {x y : Nat} {a b : Int} (hx : Num x a) (hy : Num y b) (hb : (a + b).natAbs < 2 ^ top) : ∃ r, double.add x y = some r ∧ Num r (rn (a + b)) := by
  obtain ⟨s, m, i, hr, h1, _, _, rfl⟩ := hx.ex
  obtain ⟨t, n, j, hr', h1', _, _, rfl⟩ := hy.ex
  unfold Format.add
  rw [hr, hr']
  exact sum_rn h1 h1' hb
theorem sub_rn {x y : Nat} {a b : Int} (hx : Num x a) (hy : Num y b) (hb : (a - b).natAbs < 2 ^ top) : ∃ r, double.sub x y = some r ∧ Num r (rn (a - b)) := by
  obtain ⟨s, m, i, hr, h1, _, _, rfl⟩ := hx.ex
  obtain ⟨t, n, j, hr', h1', _, _, rfl⟩ := hy.ex
  unfold Format.sub
  rw [hr, hr']
  have e : sval s m i - sval t n j = sval s m i + sval (!t) n j := by rw [sval_not]; omega
  rw [e] at hb ⊢
  exact sum_rn h1 h1' hb
/-- the error: at most 2^-53 times what is rounded -/
theorem Near.rel {n z : Int} (h : Near n z) : (z - n).natAbs * 9007199254740992 ≤ n.natAbs := by
  by_cases hs : n.natAbs ≤ 2 ^ 53
  · have := h.self (fl_small hs)
    subst this
    simp
  · have h0 : n.natAbs ≠ 0 := by omega
    have hlo := Nat.log2_self_le h0
    have hhi := @Nat.lt_log2_self n.natAbs
    have h53 : 53 ≤ n.natAbs.log2 := (Nat.le_log2 h0).2 (by omega)
    obtain ⟨e, he⟩ : ∃ e, n.natAbs.log2 = 53 + e := ⟨n.natAbs.log2 - 53, by omega⟩
    rw [he] at hlo hhi
    have h1 := h.err (e := e) (Nat.le_of_lt (by rw [show 54 + e = 53 + e + 1 from by omega]; exact hhi))
    rw [Nat.pow_add] at hlo
    have e53 : (2 : Nat) ^ 53 = 9007199254740992 := rfl
    rw [e53] at hlo
    omega
end Flt

/- The two halves of a float over its last place; halves have few bits. No program is named here. -/
namespace Flt

/-- fewer than 28 bits, times a power of two -/
def FewI (n : Int) : Prop := ∃ (m : Int) (e : Nat), n = m * 2 ^ e ∧ m.natAbs < 2 ^ 27

theorem Halves.units {X hi lo : Int} {e : Nat} (h : Halves X e hi lo) (hd : (2 : Int) ^ e ∣ X) (hge : 2 ^ (52 + e) ≤ X.natAbs) (hlt : X.natAbs < 2 ^ (53 + e)) :
    ∃ A H L : Int, X = A * 2 ^ e ∧ hi = H * 2 ^ e ∧ lo = L * 2 ^ e ∧ HalvesU A H L := by
  have hU : 0 < 2 ^ e := Nat.pow_pos (by decide)
  have hUi := two_pos e
  obtain ⟨A, rfl⟩ := hd
  obtain ⟨L, hL⟩ := h.lo_dvd
  have hdh : (2 : Int) ^ e ∣ hi := by
    rcases h.hi_or with ⟨h1, _⟩ | ⟨h1, _⟩ <;> exact two_dvd_of_le (by omega) h1
  obtain ⟨H, hH⟩ := hdh
  have nA : ((2 : Int) ^ e * A).natAbs = A.natAbs * 2 ^ e := by rw [Int.mul_comm, shift_abs]
  have nH : hi.natAbs = H.natAbs * 2 ^ e := by rw [hH, Int.mul_comm, shift_abs]
  have nL : lo.natAbs = L.natAbs * 2 ^ e := by rw [hL, Int.mul_comm, shift_abs]
  have can {j : Nat} {x y : Int} (hx : y = 2 ^ e * x) (hdv : (2 : Int) ^ (j + e) ∣ y) : (2 : Int) ^ j ∣ x := by
    obtain ⟨k, hk⟩ := hdv
    refine ⟨k, Int.eq_of_mul_eq_mul_left (Int.ne_of_gt hUi) ?_⟩
    rw [← hx, hk, Int.pow_add]; ac_rfl
  refine ⟨A, H, L, Int.mul_comm _ _, by rw [hH, Int.mul_comm], by rw [hL, Int.mul_comm], ?_⟩
  refine ⟨?_, ?_, ?_, ?_, ?_⟩
  · rw [nA, Nat.pow_add] at hge
    exact Nat.le_of_mul_le_mul_right hge hU
  · rw [nA, Nat.pow_add] at hlt
    exact Nat.lt_of_mul_lt_mul_right hlt
  · have := h.sum
    rw [hH, hL, ← Int.mul_add] at this
    exact Int.eq_of_mul_eq_mul_left (Int.ne_of_gt hUi) this
  · have := h.lo_le
    rw [nL, Nat.pow_add] at this
    exact Nat.le_of_mul_le_mul_right this hU
  · rcases h.hi_or with ⟨h1, h2⟩ | ⟨h1, h2, h3⟩
    · refine Or.inl ⟨can hH h1, ?_⟩
      rw [nH, Nat.pow_add] at h2
      exact Nat.le_of_mul_le_mul_right h2 hU
    · refine Or.inr ⟨can hH h1, ?_, ?_⟩
      · rw [nH, Nat.pow_add, Nat.pow_add, ← Nat.add_mul] at h2
        exact Nat.le_of_mul_le_mul_right h2 hU
      · rw [nA, Nat.pow_add] at h3
        exact Nat.eq_of_mul_eq_mul_right hU h3

theorem HalvesU.few_hi {A H L : Int} (h : HalvesU A H L) : FewI H := by
  rcases h.hi_or with ⟨⟨k, hk⟩, h2⟩ | ⟨⟨k, hk⟩, h2, _⟩
  · refine ⟨k, 27, by rw [hk, Int.mul_comm], ?_⟩
    have : H.natAbs = 134217728 * k.natAbs := by rw [hk, Int.natAbs_mul]; rfl
    have e1 : (2 : Nat) ^ 53 = 9007199254740992 := rfl
    have e2 : (2 : Nat) ^ 27 = 134217728 := rfl
    omega
  · refine ⟨k, 26, by rw [hk, Int.mul_comm], ?_⟩
    have : H.natAbs = 67108864 * k.natAbs := by rw [hk, Int.natAbs_mul]; rfl
    have e1 : (2 : Nat) ^ 52 = 4503599627370496 := rfl
    have e2 : (2 : Nat) ^ 27 = 134217728 := rfl
    have e3 : (2 : Nat) ^ 26 = 67108864 := rfl
    omega
theorem HalvesU.few_lo {A H L : Int} (h : HalvesU A H L) : FewI L :=
  ⟨L, 0, by simp, Nat.lt_of_le_of_lt h.lo_le (by decide)⟩
theorem FewI.shift {n : Int} (h : FewI n) (k : Nat) : FewI (n * 2 ^ k) := by
  obtain ⟨m, e, rfl, hm⟩ := h
  exact ⟨m, e + k, by rw [Int.pow_add]; ac_rfl, hm⟩
end Flt

/- The words of nonnegative floats are in the floats' order. No program is named here. -/
namespace Flt
open Ieee

theorem v_small {x : Nat} (h : x < 4503599627370496) : vI x = x := by
  unfold vI
  rw [read_small (by omega)]
  show sval _ _ _ = _
  unfold sval
  rw [signed_eq, show x / 9223372036854775808 % 2 = 0 from by omega, show x % 9223372036854775808 = x from by omega]
  show (x : Int) * 2 ^ 0 = _
  omega
theorem v_mid {x : Nat} (h1 : 4503599627370496 ≤ x) (h : x < 9218868437227405312) : vI x = ((4503599627370496 + x % 4503599627370496 : Nat) : Int) * 2 ^ (x / 4503599627370496 - 1) := by
  unfold vI
  rw [read_mid (by omega) (by omega)]
  show sval _ _ _ = _
  unfold sval
  rw [signed_eq, show x / 9223372036854775808 % 2 = 0 from by omega, show x % 9223372036854775808 = x from by omega, show (-1074 + ((x / 4503599627370496 - 1 : Nat) : Int) + 1074).toNat = x / 4503599627370496 - 1 from by omega]
  rfl
theorem pw_ge (a : Int) (ha : 0 ≤ a) (k : Nat) : a ≤ a * 2 ^ k := by
  have h : 1 ≤ (2 : Int) ^ k := two_pos k
  have := Int.mul_le_mul_of_nonneg_left h ha
  omega
theorem v_lt {x y : Nat} (hxy : x < y) (hy : y < 9218868437227405312) : vI x < vI y := by
  by_cases h1 : y < 4503599627370496
  · rw [v_small h1, v_small (by omega)]; omega
  · rw [v_mid (by omega) hy]
    by_cases h2 : x < 4503599627370496
    · rw [v_small h2]
      have := pw_ge ((4503599627370496 + y % 4503599627370496 : Nat) : Int) (by omega) (y / 4503599627370496 - 1)
      omega
    · rw [v_mid (by omega) (by omega)]
      by_cases h3 : x / 4503599627370496 = y / 4503599627370496
      · rw [h3]
        exact Int.mul_lt_mul_of_pos_right (by omega) (two_pos _)
      · obtain ⟨d, hd⟩ : ∃ d, y / 4503599627370496 - 1 = (x / 4503599627370496 - 1) + (d + 1) := ⟨y / 4503599627370496 - x / 4503599627370496 - 1, by omega⟩
        have h4 : ((4503599627370496 + x % 4503599627370496 : Nat) : Int) < 2 * ((4503599627370496 + y % 4503599627370496 : Nat) : Int) := by omega
        have h5 := pw_ge (((4503599627370496 + y % 4503599627370496 : Nat) : Int) * 2) (by omega) d
        have h6 : ((4503599627370496 + x % 4503599627370496 : Nat) : Int) < ((4503599627370496 + y % 4503599627370496 : Nat) : Int) * 2 * 2 ^ d := by omega
        have h7 := Int.mul_lt_mul_of_pos_right h6 (two_pos (x / 4503599627370496 - 1))
        have e : ((4503599627370496 + y % 4503599627370496 : Nat) : Int) * 2 ^ (y / 4503599627370496 - 1) = ((4503599627370496 + y % 4503599627370496 : Nat) : Int) * 2 * 2 ^ d * 2 ^ (x / 4503599627370496 - 1) := by
          rw [hd, Int.pow_add, Int.pow_succ]; ac_rfl
        rw [e]; exact h7
theorem v_cmp {x y : Nat} (hx : x < 9218868437227405312) (hy : y < 9218868437227405312) : compare (vI x) (vI y) = compare x y := by
  rcases Nat.lt_trichotomy x y with h | h | h
  · have := v_lt h hy
    simp [compare, compareOfLessAndEq, this, h]
  · subst h
    simp [compare, compareOfLessAndEq]
  · have := v_lt h hx
    have n1 : ¬ vI x < vI y := by omega
    have n2 : ¬ vI x = vI y := by omega
    have n3 : ¬ x < y := by omega
    have n4 : ¬ x = y := by omega
    simp [compare, compareOfLessAndEq, n1, n2, n3, n4]
/-- of two nonnegative finite words -/
theorem order_words {x y : Nat} (hx : x < 9218868437227405312) (hy : y < 9218868437227405312) : double.order x y = some (compare x y) := by
  have e : (2 : Nat) ^ 64 = 18446744073709551616 := rfl
  rw [order_num (num_of (by omega) (by omega)) (num_of (by omega) (by omega)), v_cmp hx hy]
/-- the sign's word -/
theorem v_neg {x y : Nat} (hx : x = y + 9223372036854775808) (hy : y < 9218868437227405312) : vI x = - vI y := by
  have e1 : x % 9223372036854775808 = y := by omega
  have e2 : x / 9223372036854775808 % 2 = 1 := by omega
  clear hx
  by_cases h3 : y < 4503599627370496
  · rw [v_small h3]
    unfold vI
    rw [read_small (by rw [e1]; exact h3)]
    show sval _ _ _ = _
    unfold sval
    rw [signed_eq, e2, e1]
    show -((y : Int) * 2 ^ 0) = _
    omega
  · rw [v_mid (by omega) hy]
    unfold vI
    rw [read_mid (by rw [e1]; exact h3) (by rw [e1]; exact hy)]
    show sval _ _ _ = _
    unfold sval
    rw [signed_eq, e2, e1, show (-1074 + ((y / 4503599627370496 - 1 : Nat) : Int) + 1074).toNat = y / 4503599627370496 - 1 from by omega]
    rfl
theorem v_nonneg {x : Nat} (h : x < 9218868437227405312) : 0 ≤ vI x := by
  have e : vI 0 = 0 := by rw [v_small (by decide)]; rfl
  by_cases h0 : x = 0
  · rw [h0, e]; omega
  · have := v_lt (x := 0) (y := x) (by omega) h
    omega
theorem read_notfin {x : Nat} (h : ¬ x % 9223372036854775808 < 9218868437227405312) : (∃ s, double.read x = .infinity s) ∨ ∃ s p, double.read x = .nan s p := by
  unfold Format.read
  rw [weight_eq, binade_eq, inf_eq]
  have h1 : ¬ x % 9223372036854775808 < 4503599627370496 := by omega
  simp only [h1, h, if_false]
  split
  · exact Or.inl ⟨_, rfl⟩
  · exact Or.inr ⟨_, _, rfl⟩
theorem order_notfin {x y : Nat} (h : ¬ x % 9223372036854775808 < 9218868437227405312) (hy : y % 9223372036854775808 < 9218868437227405312) : (double.order x y == some .eq) = false := by
  have hr : ∃ s m i, double.read y = .number s m i := by
    by_cases c : y % 9223372036854775808 < 4503599627370496
    · exact ⟨_, _, _, read_small c⟩
    · exact ⟨_, _, _, read_mid c hy⟩
  obtain ⟨s, m, i, hr⟩ := hr
  unfold Format.order
  rw [hr]
  rcases read_notfin h with ⟨t, ht⟩ | ⟨t, p, ht⟩
  · rw [ht]; cases t <;> rfl
  · rw [ht]; rfl
theorem order_zero {x : Nat} (hx : x < 18446744073709551616) (h : x % 9223372036854775808 = 0) : double.order x 0 = some .eq := by
  have e : (2 : Nat) ^ 64 = 18446744073709551616 := rfl
  have z : vI 0 = 0 := by rw [v_small (by decide)]; rfl
  have hv : vI x = 0 := by
    by_cases c : x = 0
    · rw [c]; exact z
    · rw [v_neg (y := 0) (by omega) (by decide), z]; rfl
  rw [order_num (num_of (by omega) (by omega)) (num_of (x := 0) (by decide) (by decide)), hv, z]; rfl
theorem order_pos {x : Nat} (h0 : 0 < x) (h : x < 9218868437227405312) : double.order x 0 = some .gt := by
  rw [order_words h (by decide)]
  have n2 : ¬ x = 0 := by omega
  simp [compare, compareOfLessAndEq, n2]
theorem order_neg {x y : Nat} (hx : x = y + 9223372036854775808) (h0 : 0 < y) (h : y < 9218868437227405312) : double.order x 0 = some .lt := by
  have e : (2 : Nat) ^ 64 = 18446744073709551616 := rfl
  have z : vI 0 = 0 := by rw [v_small (by decide)]; rfl
  have hv := v_lt h0 h
  rw [z] at hv
  obtain ⟨q, hqe⟩ : ∃ q, q = - vI y := ⟨_, rfl⟩
  have hq : q < 0 := by omega
  rw [order_num (num_of (by omega) (by omega)) (num_of (x := 0) (by decide) (by decide)), v_neg hx h, z, ← hqe]
  show some (compareOfLessAndEq q 0) = _
  unfold compareOfLessAndEq
  rw [if_pos hq]
theorem cmp_lt {x y : Nat} (h : x < y) : compare x y = .lt := by simp [compare, compareOfLessAndEq, h]
theorem cmp_eq (x : Nat) : compare x x = .eq := by simp [compare, compareOfLessAndEq]
theorem cmp_gt {x y : Nat} (h : y < x) : compare x y = .gt := by
  have n1 : ¬ x < y := by omega
  have n2 : ¬ x = y := by omega
  simp [compare, compareOfLessAndEq, n1, n2]
end Flt

/- A float in two halves by its product with 2^27 + 1, in words; products of floats over their last places. No program is named here. -/
namespace Flt
open Ieee

/-- the last place of 1 -/
def uE : Nat := 1074
theorem two_uE : (2 : Int) ^ uE = 2 ^ 25 * 2 ^ 1049 := by
  show (2 : Int) ^ (25 + 1049) = _
  exact Int.pow_add _ _ _
theorem num_times : Num 4728779608772575232 (134217729 * 2 ^ uE) := by
  have h := num_of (x := 4728779608772575232) (by decide) (by decide)
  rw [v_mid (by decide) (by decide)] at h
  have e1 : ((4503599627370496 + 4728779608772575232 % 4503599627370496 : Nat) : Int) = 134217729 * 2 ^ 25 := by decide
  have e2 : 4728779608772575232 / 4503599627370496 - 1 = 1049 := by decide
  rw [e1, e2, Int.mul_assoc, ← two_uE] at h
  exact h
theorem topN : top = 2097 := rfl
theorem abs_lt_top {n : Int} {k : Nat} (h : n.natAbs ≤ 2 ^ k) (hk : k < 2097) : n.natAbs < 2 ^ top :=
  Nat.lt_of_le_of_lt h (two_lt' (by rw [topN]; exact hk))
theorem near_le2 {n z : Int} (h : Near n z) : z.natAbs ≤ 2 * n.natAbs := by
  have := h.le 0 fl_zero
  omega
/-- a difference of two numbers up to 2^k -/
theorem subx {x y : Nat} {a b : Int} {k : Nat} (hx : Num x a) (hy : Num y b) (ha : a.natAbs ≤ 2 ^ k) (hb : b.natAbs ≤ 2 ^ k) (hk : k + 1 < 2097) :
    ∃ r z, double.sub x y = some r ∧ Num r z ∧ Near (a - b) z ∧ z.natAbs ≤ 2 ^ (k + 2) := by
  have e : (2 : Nat) ^ (k + 1) = 2 * 2 ^ k := by rw [Nat.pow_succ, Nat.mul_comm]
  have e2 : (2 : Nat) ^ (k + 2) = 2 * (2 * 2 ^ k) := by rw [Nat.pow_succ, e, Nat.mul_comm]
  have h0 : (a - b).natAbs ≤ 2 ^ (k + 1) := by rw [e]; omega
  obtain ⟨r, z, h1, h2, h3⟩ := sub_num hx hy (abs_lt_top h0 hk)
  have := near_le2 h3
  exact ⟨r, z, h1, h2, h3, by omega⟩
theorem addx {x y : Nat} {a b : Int} {k : Nat} (hx : Num x a) (hy : Num y b) (ha : a.natAbs ≤ 2 ^ k) (hb : b.natAbs ≤ 2 ^ k) (hk : k + 1 < 2097) :
    ∃ r z, double.add x y = some r ∧ Num r z ∧ Near (a + b) z ∧ z.natAbs ≤ 2 ^ (k + 2) := by
  have e : (2 : Nat) ^ (k + 1) = 2 * 2 ^ k := by rw [Nat.pow_succ, Nat.mul_comm]
  have e2 : (2 : Nat) ^ (k + 2) = 2 * (2 * 2 ^ k) := by rw [Nat.pow_succ, e, Nat.mul_comm]
  have h0 : (a + b).natAbs ≤ 2 ^ (k + 1) := by rw [e]; omega
  obtain ⟨r, z, h1, h2, h3⟩ := add_num hx hy (abs_lt_top h0 hk)
  have := near_le2 h3
  exact ⟨r, z, h1, h2, h3, by omega⟩
/-- a product over the last places -/
theorem mulx {x y : Nat} {X Y : Int} {e f k : Nat} (hx : Num x (X * 2 ^ e)) (hy : Num y (Y * 2 ^ f)) (hX : X.natAbs ≤ 2 ^ 53) (hY : Y.natAbs ≤ 2 ^ 53) (he : 600 ≤ e) (hf : 600 ≤ f) (hk : e + f = k + uE) (hk2 : k ≤ 1980) :
    ∃ r z, double.mul x y = some r ∧ Num r z ∧ Near (X * Y * 2 ^ k) z ∧ z.natAbs ≤ 2 ^ (107 + k) := by
  have hprod : X * 2 ^ e * (Y * 2 ^ f) = X * Y * 2 ^ k * 2 ^ uE := by
    rw [Int.mul_assoc (X * Y), ← Int.pow_add, ← hk, Int.pow_add]; ac_rfl
  have hb : (X * Y * 2 ^ k).natAbs ≤ 2 ^ (106 + k) := by
    rw [shift_abs, Nat.pow_add]
    exact Nat.mul_le_mul_right _ (Nat.le_trans (mul_abs_le hX hY) (by decide))
  have low : ∀ {Z : Int} {g : Nat}, Z ≠ 0 → 600 ≤ g → 2 ^ (52 + (g - 52)) ≤ (Z * 2 ^ g).natAbs := by
    intro Z g hZ hg
    rw [shift_abs, show 52 + (g - 52) = g from by omega]
    have : 1 * 2 ^ g ≤ Z.natAbs * 2 ^ g := Nat.mul_le_mul_right _ (by omega)
    rw [Nat.one_mul] at this
    exact this
  obtain ⟨r, z, h1, h2, h3⟩ := mul_num hx hy (p := X * Y * 2 ^ k) hprod (abs_lt_top hb (by omega)) (by
    by_cases hX0 : X = 0
    · left; rw [hX0, Int.zero_mul]
    · by_cases hY0 : Y = 0
      · right; left; rw [hY0, Int.zero_mul]
      · exact Or.inr (Or.inr ⟨e - 52, f - 52, by omega, low hX0 he, low hY0 hf⟩))
  have h4 := near_le2 h3
  have e2 : (2 : Nat) ^ (107 + k) = 2 * 2 ^ (106 + k) := by rw [show 107 + k = 106 + k + 1 from by omega, Nat.pow_succ, Nat.mul_comm]
  exact ⟨r, z, h1, h2, h3, by omega⟩
theorem near_zero {z : Int} (h : Near 0 z) : z = 0 := h.self fl_zero
/-- a product with a 0 -/
theorem mul0 {x y : Nat} {a b : Int} (hx : Num x a) (hy : Num y b) (h : a = 0 ∨ b = 0) : ∃ r, double.mul x y = some r ∧ Num r 0 := by
  obtain ⟨r, z, h1, h2, h3⟩ := mul_num hx hy (p := 0) ((Int.mul_eq_zero.2 h).trans (Int.zero_mul _).symm) (by
    show 0 < 2 ^ top
    exact Nat.pow_pos (by decide)) (by rcases h with h | h; exact Or.inl h; exact Or.inr (Or.inl h))
  exact ⟨r, h1, near_zero h3 ▸ h2⟩

/-- Split's four operations -/
theorem split_words {x : Nat} {n : Int} {e : Nat} (hx : Num x n) (hd : (2 : Int) ^ e ∣ n) (hge : 2 ^ (52 + e) ≤ n.natAbs) (hlt : n.natAbs < 2 ^ (53 + e)) (he : 600 ≤ e) (he2 : e ≤ 1500) :
    ∃ c d h l H L, double.mul 4728779608772575232 x = some c ∧ double.sub c x = some d ∧ double.sub c d = some h ∧ double.sub x h = some l ∧ Num h H ∧ Num l L ∧ Halves n e H L := by
  have hT := num_times
  obtain ⟨N, hN⟩ := hd
  rw [Int.mul_comm] at hN
  have hN53 : N.natAbs ≤ 2 ^ 53 := by
    rw [hN, shift_abs, Nat.pow_add] at hlt
    exact Nat.le_of_lt (Nat.lt_of_mul_lt_mul_right hlt)
  have hle : n.natAbs ≤ 2 ^ (81 + e + 1) := Nat.le_trans (Nat.le_of_lt hlt) (two_le (by omega))
  obtain ⟨c, C, m1, m2, m3⟩ : ∃ c C, double.mul 4728779608772575232 x = some c ∧ Num c C ∧ Near (134217729 * n) C := by
    obtain ⟨r, z, h1, h2, h3, _⟩ := mulx (k := e) hT (hN ▸ hx) (by decide) hN53 (by decide) he (Nat.add_comm _ _) (by omega)
    refine ⟨r, z, h1, h2, ?_⟩
    rw [hN, ← Int.mul_assoc]; exact h3
  have hC : C.natAbs ≤ 2 ^ (81 + e + 1) := by
    have h1 := near_le2 m3
    have h2 : (134217729 * n).natAbs = 134217729 * n.natAbs := by rw [Int.natAbs_mul]; rfl
    have h3 : (2 : Nat) ^ (81 + e + 1) = 536870912 * 2 ^ (53 + e) := by
      rw [show 81 + e + 1 = 29 + (53 + e) from by omega, Nat.pow_add]
    omega
  obtain ⟨d, D, s1, s2, s3, s4⟩ := subx m2 hx hC hle (by omega)
  obtain ⟨h, H, t1, t2, t3, t4⟩ := subx m2 s2 (Nat.le_trans hC (two_le (by omega))) s4 (by omega)
  obtain ⟨l, L, u1, u2, u3, u4⟩ := subx hx t2 (Nat.le_trans hle (two_le (by omega))) t4 (by omega)
  exact ⟨c, d, h, l, H, L, m1, s1, t1, u1, t2, u2, split_halves ⟨N, by rw [Int.mul_comm]; exact hN⟩ hge hlt m3 s3 t3 u3⟩
theorem split_zero {x : Nat} (hx : Num x 0) : ∃ c d h l, double.mul 4728779608772575232 x = some c ∧ double.sub c x = some d ∧ double.sub c d = some h ∧ double.sub x h = some l ∧ Num h 0 ∧ Num l 0 := by
  obtain ⟨c, m1, m2⟩ := mul0 num_times hx (Or.inr rfl)
  have z0 : (0 : Int).natAbs ≤ 2 ^ 0 := by decide
  have key : ∀ {x y : Nat}, Num x 0 → Num y 0 → ∃ r, double.sub x y = some r ∧ Num r 0 := by
    intro x y h h'
    obtain ⟨r, z, h1, h2, h3, _⟩ := subx h h' z0 z0 (by decide)
    have hz : z = 0 := near_zero (by simpa using h3)
    exact ⟨r, h1, hz ▸ h2⟩
  obtain ⟨d, s1, s2⟩ := key m2 hx
  obtain ⟨h, t1, t2⟩ := key m2 s2
  obtain ⟨l, u1, u2⟩ := key hx t2
  exact ⟨c, d, h, l, m1, s1, t1, u1, t2, u2⟩
end Flt

/- Powers of two as words, and their products: by the kernel. No program is named here. -/
namespace Flt
open Ieee

/-- the word of 2^n (b false) or of 2^-n (b true): an infinity, 0 where it goes over or under -/
def tw (b : Bool) (n : Nat) : Nat :=
  match b with
  | true => if n ≤ 1022 then (1023 - n) * 4503599627370496 else if n ≤ 1074 then 2 ^ (1074 - n) else 0
  | false => if n ≤ 1023 then (1023 + n) * 4503599627370496 else 9218868437227405312
/-- the product of the powers of n without its greatest bit and of that bit -/
def twChk (b : Bool) (i low : Nat) : Bool := match double.mul (tw b low) (tw b (2 ^ i)) with
  | some r => Nat.beq r (tw b (low + 2 ^ i))
  | none => false
def twAll (b : Bool) (i : Nat) : Nat → Bool
  | 0 => true
  | n + 1 => (Nat.blt 1074 (n + 2 ^ i) || twChk b i n) && twAll b i n
theorem twAll_spec {b : Bool} {i : Nat} : ∀ {n : Nat}, twAll b i n = true → ∀ low, low < n → low + 2 ^ i ≤ 1074 → twChk b i low = true
  | 0, _, low, hl, _ => absurd hl (Nat.not_lt_zero _)
  | n + 1, h, low, hl, hle => by
    unfold twAll at h
    rw [Bool.and_eq_true] at h
    by_cases c : low = n
    · subst c
      rcases (Bool.or_eq_true _ _).mp h.1 with h1 | h1
      · exfalso
        have : 1074 < low + 2 ^ i := Nat.le_of_ble_eq_true h1
        omega
      · exact h1
    · exact twAll_spec h.2 low (by omega) hle
def twRows (b : Bool) : Nat → Bool
  | 0 => true
  | i + 1 => twAll b i (2 ^ i) && twRows b i
theorem twRows_spec {b : Bool} : ∀ {n : Nat}, twRows b n = true → ∀ i, i < n → twAll b i (2 ^ i) = true
  | 0, _, i, hi => absurd hi (Nat.not_lt_zero _)
  | n + 1, h, i, hi => by
    unfold twRows at h
    rw [Bool.and_eq_true] at h
    by_cases c : i = n
    · subst c; exact h.1
    · exact twRows_spec h.2 i (by omega)
theorem rows_t : twRows true 11 = true := by decide +kernel
theorem rows_f : twRows false 11 = true := by decide +kernel
theorem tw_mul (b : Bool) {i low : Nat} (hi : i < 11) (hl : low < 2 ^ i) (h : low + 2 ^ i ≤ 1074) : double.mul (tw b low) (tw b (2 ^ i)) = some (tw b (low + 2 ^ i)) := by
  have h1 : twChk b i low = true := by
    cases b
    · exact twAll_spec (twRows_spec rows_f i hi) low hl h
    · exact twAll_spec (twRows_spec rows_t i hi) low hl h
  unfold twChk at h1
  split at h1
  · rename_i r hr
    rw [hr, Nat.eq_of_beq_eq_true h1]
  · cases h1
theorem tw_sq (b : Bool) {i : Nat} (hi : i < 11) : double.mul (tw b (2 ^ i)) (tw b (2 ^ i)) = some (tw b (2 ^ (i + 1))) := by
  have h : ∀ b : Bool, ∀ i : Fin 11, double.mul (tw b (2 ^ i.val)) (tw b (2 ^ i.val)) = some (tw b (2 ^ (i.val + 1))) := by decide +kernel
  exact h b ⟨i, hi⟩

/-- the word of 2^k -/
def twK (k : Int) : Nat := tw (decide (k < 0)) k.natAbs
end Flt
