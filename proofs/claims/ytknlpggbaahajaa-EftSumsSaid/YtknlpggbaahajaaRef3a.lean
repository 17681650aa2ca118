/- The reference's Finite and Parts (layer 3). -/
import Derived.Test.YtknlpggbaahajaaProg
import Derived.Test.YtknlpggbaahajaaBase
import Derived.Test.YtknlpggbaahajaaIeee3
import Derived.Laws.FloatArith
namespace Go.Proofs.Ytknlpggbaahajaa
open Go.RowKit

theorem run_bits (x : Nat) (w : World) : (callFunc 26 #[.float .f64 x]).run Try.prog w = .ok (.value (.int .u64 (x : Int))) w := by kernel_rfl
theorem run_frombits (x : Int) (w : World) : (callFunc 24 #[.int .u64 x]).run Try.prog w = .ok (.value (.float .f64 x.toNat)) w := by kernel_rfl

theorem finite_any (x : Nat) (w : World) :
    Calls Try.prog 12 #[.float .f64 x] w fun e w' => e = .returned (.bool (decide (x % 9223372036854775808 < 9218868437227405312))) ∧ w = w' := by
  have hr := run_bits x w
  have hB := Lib.hid (show decide (x % 9223372036854775808 < 9218868437227405312) = (IntKind.u64.wrap ((x : Int) * 2) / 9007199254740992 != 2047) from by
    rw [IntKind.wrap_u64]
    by_cases h : x % 9223372036854775808 < 9218868437227405312
    · rw [decide_eq_true h]; symm; rw [bne_iff_ne]; omega
    · rw [decide_eq_false h]; symm; rw [bne_eq_false_iff_eq]; omega)
  go_enter Try.func12, Try.ntmps12
  go_wp2
  go_ret
  exact ⟨ret_bool hB.out.symm, rfl⟩

/-- the whole number and the place of a finite float -/
def pE (x : Nat) : Int := if 0 < x % 9223372036854775808 / 4503599627370496 then ((x % 9223372036854775808 / 4503599627370496 : Nat) : Int) - 1075 else -1074
def pA (x : Nat) : Nat := x % 4503599627370496 + if 0 < x % 9223372036854775808 / 4503599627370496 then 4503599627370496 else 0
def pM (x : Nat) : Int := if x / 9223372036854775808 = 1 then -(pA x : Int) else (pA x : Int)
theorem pA_lt (x : Nat) : pA x < 9007199254740992 := by unfold pA; split <;> omega
theorem pM_abs (x : Nat) : (pM x).natAbs = pA x := by unfold pM; split <;> omega
theorem pE_ge (x : Nat) : -1074 ≤ pE x := by unfold pE; split <;> omega
theorem pE_le {x : Nat} (h : x % 9223372036854775808 < 9218868437227405312) : pE x ≤ 971 := by unfold pE; split <;> omega
theorem pE_pos {x : Nat} (h : 0 < x % 9223372036854775808 / 4503599627370496) : pE x = ((x % 9223372036854775808 / 4503599627370496 : Nat) : Int) - 1075 ∧ pA x = x % 4503599627370496 + 4503599627370496 := ⟨if_pos h, by unfold pA; rw [if_pos h]⟩
theorem pE_zero {x : Nat} (h : ¬ 0 < x % 9223372036854775808 / 4503599627370496) : pE x = -1074 ∧ pA x = x % 4503599627370496 := ⟨if_neg h, by unfold pA; rw [if_neg h]; rfl⟩
theorem pM_neg {x : Nat} (h : x / 9223372036854775808 = 1) : pM x = -(pA x : Int) := if_pos h
theorem pM_pos {x : Nat} (h : ¬ x / 9223372036854775808 = 1) : pM x = (pA x : Int) := if_neg h
theorem num_parts {x : Nat} {n : Int} (h : Flt.Num x n) : n = pM x * 2 ^ (pE x + 1074).toNat := by
  have hlt := h.lt
  have hfin := h.fin
  rw [← h.val]
  unfold Flt.vI
  have h64 : (2 : Nat) ^ 64 = 18446744073709551616 := rfl
  have key : ∀ (s : Bool) (m : Nat) (i : Int), s = (x / 9223372036854775808 % 2 == 1) → m = pA x → (i + 1074).toNat = (pE x + 1074).toNat → Flt.sval s m i = pM x * 2 ^ (pE x + 1074).toNat := by
    intro s m i hs hm hi
    unfold Flt.sval
    rw [Flt.signed_eq, hi, hm, hs]
    by_cases h2 : x / 9223372036854775808 = 1
    · rw [pM_neg h2, h2, Int.neg_mul]; rfl
    · have h3 : x / 9223372036854775808 = 0 := by omega
      rw [pM_pos h2, h3]; rfl
  by_cases h1 : x % 9223372036854775808 < 4503599627370496
  · obtain ⟨e1, e2⟩ := pE_zero (x := x) (by omega)
    rw [Flt.read_small h1]
    exact key _ _ _ rfl (by omega) (by omega)
  · obtain ⟨e1, e2⟩ := pE_pos (x := x) (by omega)
    rw [Flt.read_mid h1 hfin]
    exact key _ _ _ rfl (by omega) (by omega)

theorem ret_parts {a b c d : Int} (h : a = b) (k : c = d) : Ending.returned (.tuple #[.int .i64 a, .int .i64 c]) = .returned (.tuple #[.int .i64 b, .int .i64 d]) := by rw [h, k]

theorem parts_any (x : Nat) (w : World) :
    Calls Try.prog 27 #[.float .f64 x] w fun e w' => e = .returned (.tuple #[.int .i64 (pM x), .int .i64 (pE x)]) ∧ w = w' := by
  have hr := run_bits x w
  have h64 : (2 : Nat) ^ 64 = 18446744073709551616 := rfl
  obtain ⟨E, hE⟩ : ∃ E : Int, E = ((x % 9223372036854775808 / 4503599627370496 : Nat) : Int) := ⟨_, rfl⟩
  obtain ⟨F, hF⟩ : ∃ F : Int, F = ((x % 4503599627370496 : Nat) : Int) := ⟨_, rfl⟩
  have eE : wrap64 (IntKind.u64.wrap ((x : Int) * 2) / 9007199254740992) = E := by rw [IntKind.wrap_u64]; unfold wrap64; omega
  have eF : wrap64 (IntKind.u64.wrap ((x : Int) * 4096) / 4096) = F := by rw [IntKind.wrap_u64]; unfold wrap64; omega
  have E0 : 0 ≤ E := by omega
  have E1 : E ≤ 2047 := by omega
  have F0 : 0 ≤ F := by omega
  have F1 : F < 4503599627370496 := by omega
  by_cases h1 : 0 < E
  · obtain ⟨p1, p2⟩ := pE_pos (x := x) (by omega)
    by_cases h2 : x / 9223372036854775808 = 1
    · have t2 : ((x : Int) / 9223372036854775808 == 1) = true := by rw [beq_iff_eq]; omega
      have R1 := Lib.hid (show -(F + 4503599627370496) = pM x by rw [pM_neg h2]; omega)
      have R2 := Lib.hid (show E - 1075 = pE x by omega)
      clear hE hF p1 p2 h2 h64
      go_enter Try.func27, Try.ntmps27
      go_wp2
      go_ret2
      exact ⟨ret_parts R1.out R2.out, rfl⟩
    · have t2 : ((x : Int) / 9223372036854775808 == 1) = false := by rw [beq_eq_false_iff_ne]; omega
      have R1 := Lib.hid (show F + 4503599627370496 = pM x by rw [pM_pos h2]; omega)
      have R2 := Lib.hid (show E - 1075 = pE x by omega)
      clear hE hF p1 p2 h2 h64
      go_enter Try.func27, Try.ntmps27
      go_wp2
      go_ret2
      exact ⟨ret_parts R1.out R2.out, rfl⟩
  · obtain ⟨p1, p2⟩ := pE_zero (x := x) (by omega)
    by_cases h2 : x / 9223372036854775808 = 1
    · have t2 : ((x : Int) / 9223372036854775808 == 1) = true := by rw [beq_iff_eq]; omega
      have R1 := Lib.hid (show -F = pM x by rw [pM_neg h2]; omega)
      have R2 := Lib.hid (show (-1074 : Int) = pE x by omega)
      clear hE hF p1 p2 h2 h64
      go_enter Try.func27, Try.ntmps27
      go_wp2
      go_ret2
      exact ⟨ret_parts R1.out R2.out, rfl⟩
    · have t2 : ((x : Int) / 9223372036854775808 == 1) = false := by rw [beq_eq_false_iff_ne]; omega
      have R1 := Lib.hid (show F = pM x by rw [pM_pos h2]; omega)
      have R2 := Lib.hid (show (-1074 : Int) = pE x by omega)
      clear hE hF p1 p2 h2 h64
      go_enter Try.func27, Try.ntmps27
      go_wp2
      go_ret2
      exact ⟨ret_parts R1.out R2.out, rfl⟩
end Go.Proofs.Ytknlpggbaahajaa
