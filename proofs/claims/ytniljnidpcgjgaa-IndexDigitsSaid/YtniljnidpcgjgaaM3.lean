/- Merged texts: Trn7, Str7, SaidG7, CycR7, RegC7, LIndexCycles0, Wakes7, ThereP7. -/
import Derived.Test.YtniljnidpcgjgaaM2
import Derived.Test.YtniljnidpcgjgaaM1
import Derived.Deep.DeepCutAuto
import Derived.Deep.CutBlock
import Derived.Deep.AppendLies
/- ref07's Transpose, of lists up to 2^20. -/
namespace Go.Proofs.Ytniljnidpcgjgaa
open Go.RowKit
set_option linter.unusedVariables false

def trE (n r c : Int) : Int := if r < 1 ∨ c < 1 then 2 else if r * c = n then 0 else 4
/-- what stands at a place behind Transpose -/
def trV (zs : List Int) (r c i : Nat) : Int := zs.getD (i % r * c + i / r) 0
def trL (zs : List Int) (r c : Int) : List Int := if trE zs.length r c = 0 then (List.range zs.length).map (trV zs r.toNat c.toNat) else zs
theorem make_ints (n : Nat) (hn : n * 8 ≤ 281474976710656) (w : World) : (Instr.makeSlice 22 (.int .i64 (n : Int)) (.int .i64 (n : Int))).run Try.prog w = .ok (.slice (some ⟨w.heap.size, 0, none⟩) n n) (w.alloc (.cells (madeCells #[.int .i64 0] n) 3)) := by
  obtain ⟨i0, hi, hz0, hz1, hz2⟩ := info_parts int_info
  have h := run_make (P := Try.prog) w 22 3 i0 _ Try.underlying22 hi hz0 .i64 .i64 n n (by omega) (Int.le_refl _) (by rw [hz2]; omega) (by omega)
  rw [hz1, Nat.mul_one] at h
  exact h
theorem made_ints (w : World) (n : Nat) (t : TypeId) (N : Nat) (h : N = w.heap.size) : WL (w.alloc (.cells (madeCells #[.int .i64 0] n) t)) N 0 n (List.replicate n 0) := by
  refine ⟨List.length_replicate, by rw [h]; simp, fun j z hz => ?_, fun j hj => ?_⟩
  · have hj := (List.getElem?_eq_some_iff.1 hz).1
    rw [List.length_replicate] at hj
    obtain rfl : 0 = z := by rw [List.getElem?_replicate, if_pos hj] at hz; exact Option.some.inj hz
    refine (World.cell?_alloc_at _ _ _ _ h).trans ?_
    unfold madeCells
    rw [Nat.zero_add, Array.getElem?_map, Array.getElem?_range, if_pos hj]
    simp [Nat.mod_one]
  · subst h; exact frozen_of_row _ _ _ _ t (heap_alloc_new w _)
theorem tr_div {R i C : Nat} (hR : 0 < R) (hi : i < R * C) : i / R < C := by
  rw [Nat.div_lt_iff_lt_mul hR, Nat.mul_comm]; exact hi
theorem tr_at {R C rr cc : Nat} (hr : rr < R) (hc : cc < C) : (cc * R + rr) % R = rr ∧ (cc * R + rr) / R = cc ∧ cc * R + rr < R * C ∧ rr * C + cc < R * C := by
  have h1 : (cc * R + rr) % R = rr := by rw [Nat.add_comm, Nat.add_mul_mod_self_right]; exact Nat.mod_eq_of_lt hr
  have h2 : (cc * R + rr) / R = cc := by rw [Nat.add_comm, Nat.add_mul_div_right _ _ (by omega), Nat.div_eq_of_lt hr]; omega
  have h3 : (cc + 1) * R ≤ C * R := Nat.mul_le_mul_right _ (by omega)
  have h4 : (rr + 1) * C ≤ R * C := Nat.mul_le_mul_right _ (by omega)
  rw [Nat.add_mul, Nat.one_mul] at h3 h4
  rw [Nat.mul_comm C R] at h3
  exact ⟨h1, h2, by omega, by omega⟩
theorem tr_one {R i rr cc : Nat} (h1 : i % R = rr) (h2 : i / R = cc) : i = cc * R + rr := by
  have := Nat.div_add_mod i R
  rw [h1, h2, Nat.mul_comm] at this
  exact this.symm
set_option maxHeartbeats 4000000 in
theorem reftrn_run (p : Option Addr) (n cap : Nat) (zs : List Int) (r c : Int) (w : World) (hA : IL w p n zs) (hn : n ≤ 1048576) (hr : r ≤ 9223372036854775807) (hc : c ≤ 9223372036854775807) :
    Calls Try.prog 19 #[.slice p n cap, .int .i64 r, .int .i64 c] w fun e w' => ∃ q m cq, e = .returned (.tuple #[.slice q m cq, .int .i64 (trE n r c)]) ∧ IL w' q m (trL zs r c) ∧ Bel w w' ∧ (q = p ∨ ∃ B b, q = some ⟨B, b, none⟩ ∧ w.heap.size ≤ B) := by
  have hlen := hA.len
  by_cases hb : r < 1 ∨ c < 1
  · have e1 : trE n r c = 2 := by unfold trE; rw [if_pos hb]
    have e2 : trL zs r c = zs := by unfold trL; rw [hlen, e1]; rfl
    rw [e1, e2]
    by_cases b1 : r < 1
    · clear hb e1 e2
      have HA := Lib.hid hA
      clear hA
      go_enter Try.func19, Try.ntmps19
      go_wp2
      refine bodyPost_ret (by simp [results, go_sem]; try rfl) rfl ?_
      first | exact ⟨_, _, _, rfl, HA.out, Bel.refl _, Or.inl rfl⟩ | exact ⟨_, _, ⟨_, rfl⟩, HA.out, Bel.refl _, Or.inl rfl⟩
    · have b2 : c < 1 := by omega
      clear hb e1 e2
      have HA := Lib.hid hA
      clear hA
      go_enter Try.func19, Try.ntmps19
      go_wp2
      refine bodyPost_ret (by simp [results, go_sem]; try rfl) rfl ?_
      first | exact ⟨_, _, _, rfl, HA.out, Bel.refl _, Or.inl rfl⟩ | exact ⟨_, _, ⟨_, rfl⟩, HA.out, Bel.refl _, Or.inl rfl⟩
  · obtain ⟨R, rfl⟩ : ∃ R : Nat, r = (R : Int) := ⟨r.toNat, by omega⟩
    obtain ⟨C, rfl⟩ : ∃ C : Nat, c = (C : Int) := ⟨c.toNat, by omega⟩
    have hR1 : 1 ≤ R := by omega
    have hC1 : 1 ≤ C := by omega
    have g1 : R * 1 ≤ R * C := Nat.mul_le_mul_left _ hC1
    have g2 : 1 * C ≤ R * C := Nat.mul_le_mul_right _ hR1
    by_cases h0 : R * C = n
    · have e1 : trE n R C = 0 := by unfold trE; rw [if_neg hb, if_pos (by rw [← h0, Int.natCast_mul])]
      have e2 : trL zs R C = (List.range n).map (trV zs R C) := by unfold trL; rw [hlen, e1, if_pos rfl]; rfl
      rw [e1, e2]
      obtain ⟨T, hT⟩ : ∃ T, T = (List.range n).map (trV zs R C) := ⟨_, rfl⟩
      have hTa : ∀ i, i < n → T[i]? = some (trV zs R C i) := fun i hi => by rw [hT, List.getElem?_map, List.getElem?_range hi]; rfl
      have hTl : T.length = n := by rw [hT, List.length_map, List.length_range]
      have hm := make_ints n (by omega)
      have sf := run_store_int Try.prog
      have f0 : ((R : Nat) : Int) * ((C : Nat) : Int) = (n : Int) := by rw [← h0, Int.natCast_mul]
      rw [← hT]
      have HA := Lib.hid hA
      have HTA := Lib.hid hTa
      have HTL := Lib.hid hTl
      have HN := Lib.hid h0
      clear hA e1 e2 hb hT hTa hTl hr hc h0
      go_enter Try.func19, Try.ntmps19
      go_wp2
      obtain ⟨G, hG⟩ : ∃ G, G = w.heap.size := ⟨_, rfl⟩
      have W1 := made_ints w n 3 G hG
      obtain ⟨w1, hw1⟩ : ∃ w1, w1 = w.alloc (.cells (madeCells #[.int .i64 0] n) 3) := ⟨_, rfl⟩
      have B1 : Bel w w1 := by rw [hw1]; exact (Bel.refl w).alloc _
      have hG1 : w.heap.size ≤ G := by omega
      rw [← hw1] at W1 ⊢
      rw [← hG]
      clear hw1 hG hm
      go_loopw [9, 10] (fun a _ wr => ∃ (x : Nat) (L : List Int), x ≤ R ∧ a = .int .i64 (x : Int) ∧ WL wr G 0 n L ∧ (∀ i, i < n → i % R < x → L[i]? = some (trV zs R C i)) ∧ Bel w wr) (fun a _ _ => R - (intOf a).toNat)
      case atStart => exact ⟨0, _, by omega, by simp, W1, fun i _ h => absurd h (by omega), B1⟩
      case round =>
        obtain ⟨x, L, hx, rfl, hW, hL, hB⟩ := hrel
        clear W1 B1
        by_cases hlt : x < R
        · go_wp2
          go_loopw [10] (fun b wq => ∃ (y : Nat) (L : List Int), y ≤ C ∧ b = .int .i64 (y : Int) ∧ WL wq G 0 n L ∧ (∀ i, i < n → (i % R < x ∨ (i % R = x ∧ i / R < y)) → L[i]? = some (trV zs R C i)) ∧ Bel w wq) (fun b _ => C - (intOf b).toNat)
          case atStart => exact ⟨0, L, by omega, by simp, hW, fun i h1 h2 => hL i h1 (h2.elim id fun h => absurd h.2 (Nat.not_lt_zero _)), hB⟩
          case round =>
            obtain ⟨y, M, hy, rfl, hW2, hM, hB2⟩ := hrel
            clear hW hL hB
            by_cases hlt2 : y < C
            · obtain ⟨d1, d2, d3, d4⟩ := tr_at hlt hlt2
              rw [HN.out] at d3 d4
              obtain ⟨a1, ha1⟩ : ∃ a1, a1 = y * R := ⟨_, rfl⟩
              obtain ⟨a2, ha2⟩ : ∃ a2, a2 = x * C := ⟨_, rfl⟩
              have f1 : ((y : Nat) : Int) * ((R : Nat) : Int) = (a1 : Int) := by rw [ha1, Int.natCast_mul]
              have f2 : ((x : Nat) : Int) * ((C : Nat) : Int) = (a2 : Int) := by rw [ha2, Int.natCast_mul]
              rw [← ha1] at d1 d2 d3
              rw [← ha2] at d4
              obtain ⟨A, oa, z, rfl, hAl, hz, hAc⟩ := HA.out.at d4
              have kA := (hB2.cell (p := ⟨A, oa + (a2 + y), none⟩) hAl).trans hAc
              obtain ⟨z0, hz0⟩ : ∃ z0, M[a1 + x]? = some z0 := ⟨_, List.getElem?_eq_getElem (by rw [hW2.len]; exact d3)⟩
              have q0 := hW2.c (a1 + x) z0 hz0
              have q1 := hW2.z (a1 + x) d3
              rw [Nat.zero_add] at q0 q1
              obtain ⟨w7, hw7⟩ : ∃ w7, w7 = wr.setCell ⟨G, a1 + x, none⟩ (.int .i64 z) := ⟨_, rfl⟩
              have hW7 : WL w7 G 0 n (M.set (a1 + x) z) := by
                have k := hW2.set d3 z
                rw [Nat.zero_add] at k
                rw [hw7]; exact k
              have hB7 : Bel w w7 := by rw [hw7]; exact hB2.setCell (p := ⟨G, a1 + x, none⟩) hG1 _
              have hTz : trV zs R C (a1 + x) = z := by
                unfold trV
                rw [d1, d2, ← ha2, List.getD_eq_getElem?_getD, hz]; rfl
              have hM7 : ∀ i, i < n → (i % R < x ∨ (i % R = x ∧ i / R < y + 1)) → (M.set (a1 + x) z)[i]? = some (trV zs R C i) := by
                intro i h1 h2
                by_cases e : i = a1 + x
                · subst e
                  rw [List.getElem?_set_self (by rw [hW2.len]; exact d3), hTz]
                · rw [List.getElem?_set_ne (fun k => e k.symm)]
                  refine hM i h1 ?_
                  rcases h2 with h2 | ⟨h2, h3⟩
                  · exact Or.inl h2
                  · refine Or.inr ⟨h2, ?_⟩
                    refine Classical.byContradiction fun hc => e ?_
                    rw [ha1]
                    exact tr_one h2 (by omega)
              have HW7 := Lib.hid hw7
              have HM7 := Lib.hid hM7
              clear hw7 hz hAc hz0 hW2 hM hM7 hB2 hTz d1 d2 ha1 ha2 HA HTA HTL HN g1 g2
              go_wp2
              go_roundw
              case rel =>
                rw [← HW7.out]
                exact ⟨y + 1, _, by omega, (by first | rfl | simp), hW7, HM7.out, hB7⟩
              case measure => first | (simp [intOf]; done) | (simp [intOf]; omega)
            · have hyC : y = C := by omega
              have hM2 : ∀ i, i < n → i % R < x + 1 → M[i]? = some (trV zs R C i) := by
                intro i h1 h2
                refine hM i h1 ?_
                rcases Nat.lt_or_ge (i % R) x with h | h
                · exact Or.inl h
                · exact Or.inr ⟨by omega, by rw [hyC]; exact tr_div (by omega) (by rw [HN.out]; exact h1)⟩
              have HM2 := Lib.hid hM2
              clear hM hM2 HA HTA HTL HN g1 g2 hyC
              go_wp2
              go_roundw
              case rel => exact ⟨x + 1, M, by omega, (by first | rfl | simp), hW2, HM2.out, hB2⟩
              case measure => first | (simp [intOf]; done) | (simp [intOf]; omega)
        · have hxR : x = R := by omega
          have hLT : L = T := by
            refine List.ext_getElem? fun i => ?_
            by_cases hi : i < n
            · rw [HTA.out i hi]
              exact hL i hi (by rw [hxR]; exact Nat.mod_lt _ (by omega))
            · rw [List.getElem?_eq_none (by rw [hW.len]; omega), List.getElem?_eq_none (by rw [HTL.out]; omega)]
          subst hLT
          clear hL HA HTA HTL HN g1 g2 hxR
          go_wp2
          refine bodyPost_ret (by simp [results, go_sem]; try rfl) rfl ?_
          first | exact ⟨_, _, _, rfl, hW.il, hB, Or.inr ⟨G, 0, rfl, hG1⟩⟩ | exact ⟨_, _, ⟨_, rfl⟩, hW.il, hB, Or.inr ⟨G, 0, rfl, hG1⟩⟩
    · have e1 : trE n R C = 4 := by unfold trE; rw [if_neg hb, if_neg (fun h => h0 (by rw [← Int.natCast_mul] at h; omega))]
      have e2 : trL zs R C = zs := by unfold trL; rw [hlen, e1]; rfl
      rw [e1, e2]
      have HA := Lib.hid hA
      clear hA e1 e2 hb
      by_cases b1 : n < R
      · clear h0
        go_enter Try.func19, Try.ntmps19
        go_wp2
        refine bodyPost_ret (by simp [results, go_sem]; try rfl) rfl ?_
        first | exact ⟨_, _, _, rfl, HA.out, Bel.refl _, Or.inl rfl⟩ | exact ⟨_, _, ⟨_, rfl⟩, HA.out, Bel.refl _, Or.inl rfl⟩
      · by_cases b2 : n < C
        · clear h0
          go_enter Try.func19, Try.ntmps19
          go_wp2
          refine bodyPost_ret (by simp [results, go_sem]; try rfl) rfl ?_
          first | exact ⟨_, _, _, rfl, HA.out, Bel.refl _, Or.inl rfl⟩ | exact ⟨_, _, ⟨_, rfl⟩, HA.out, Bel.refl _, Or.inl rfl⟩
        · have g3 : R * C ≤ 1048576 * 1048576 := Nat.mul_le_mul (by omega) (by omega)
          obtain ⟨Pr, hPr⟩ : ∃ Pr : Nat, Pr = R * C := ⟨_, rfl⟩
          have f0 : ((R : Nat) : Int) * ((C : Nat) : Int) = (Pr : Int) := by rw [hPr, Int.natCast_mul]
          rw [← hPr] at g3 h0
          have t1 : ((Pr : Int) != (n : Int)) = true := by rw [bne_iff_ne]; omega
          clear g1 g2 hPr h0
          go_enter Try.func19, Try.ntmps19
          go_wp2
          refine bodyPost_ret (by simp [results, go_sem]; try rfl) rfl ?_
          first | exact ⟨_, _, _, rfl, HA.out, Bel.refl _, Or.inl rfl⟩ | exact ⟨_, _, ⟨_, rfl⟩, HA.out, Bel.refl _, Or.inl rfl⟩
end Go.Proofs.Ytniljnidpcgjgaa

/- ref07's Strided: may so many be had at a stride? -/
namespace Go.Proofs.Ytniljnidpcgjgaa
open Go.RowKit

def strE (n o s c : Int) : Int := if o < 0 ∨ c < 0 ∨ s < 1 then 2 else if c = 0 ∨ o + (c - 1) * s < n then 0 else 4
theorem str_bad {n o s c : Int} (h : o < 0 ∨ c < 0 ∨ s < 1) : strE n o s c = 2 := by unfold strE; rw [if_pos h]
theorem str_next (o s : Int) (i : Nat) : o + ((i + 1 : Nat) : Int) * s = o + (i : Int) * s + s := by
  rw [Int.natCast_add, Int.add_mul]; simp; omega
theorem str_no {n o s c : Int} {i : Nat} (h : ¬ (o < 0 ∨ c < 0 ∨ s < 1)) (hi : (i : Int) < c) (hx : n ≤ o + (i : Int) * s) : strE n o s c = 4 := by
  unfold strE
  have k : (i : Int) * s ≤ (c - 1) * s := Int.mul_le_mul_of_nonneg_right (by omega) (by omega)
  rw [if_neg h, if_neg (by omega)]
theorem str_yes {n o s c : Int} {i : Nat} (h : ¬ (o < 0 ∨ c < 0 ∨ s < 1)) (hi : (i : Int) = c) (hx : i = 0 ∨ o + ((i : Int) - 1) * s < n) : strE n o s c = 0 := by
  unfold strE
  rw [if_neg h, if_pos]
  rcases hx with hx | hx
  · exact Or.inl (by omega)
  · exact Or.inr (by rw [← hi]; exact hx)
set_option maxHeartbeats 1000000 in
theorem str_run (n o s c : Int) (w : World) (hn0 : 0 ≤ n) (hn1 : n ≤ 4611686018427387904) (hc : c ≤ 9223372036854775807) (hs : s ≤ 9223372036854775807) :
    Calls Try.prog 21 #[.int .i64 n, .int .i64 o, .int .i64 s, .int .i64 c] w fun r w' => r = .returned (.int .i64 (strE n o s c)) ∧ w = w' := by
  by_cases hb : o < 0 ∨ c < 0 ∨ s < 1
  · rw [str_bad hb]
    by_cases b1 : o < 0
    · clear hb
      go_enter Try.func21, Try.ntmps21
      go_wp2
      go_ret
      exact ⟨rfl, rfl⟩
    · by_cases b2 : c < 0
      · clear hb
        go_enter Try.func21, Try.ntmps21
        go_wp2
        go_ret
        exact ⟨rfl, rfl⟩
      · have b3 : s < 1 := by omega
        clear hb
        go_enter Try.func21, Try.ntmps21
        go_wp2
        go_ret
        exact ⟨rfl, rfl⟩
  · have b1 : ¬ o < 0 := by omega
    have b2 : ¬ c < 0 := by omega
    have b3 : ¬ s < 1 := by omega
    have HB := Lib.hid hb
    obtain ⟨R, hR⟩ : ∃ R, R = strE n o s c := ⟨_, rfl⟩
    rw [← hR]
    have HR := Lib.hid hR
    clear hb hR
    go_enter Try.func21, Try.ntmps21
    go_wp2
    go_loop [9, 10] (fun a b => ∃ (at' : Int) (i : Nat), a = .int .i64 at' ∧ b = .int .i64 (i : Int) ∧ (i : Int) ≤ c ∧ 0 ≤ at' ∧ (i = 0 ∨ at' ≤ n) ∧ (at' = o + (i : Int) * s ∨ (at' = n ∧ n ≤ o + (i : Int) * s)) ∧ (i = 0 ∨ o + ((i : Int) - 1) * s < n)) (fun _ b => (c - intOf b).toNat)
    case atStart => exact ⟨o, 0, rfl, by simp, by omega, by omega, Or.inl rfl, Or.inl (by simp), Or.inl rfl⟩
    case round =>
      obtain ⟨at', i, rfl, rfl, hi, ha0, ha1, hat, hpr⟩ := hrel
      by_cases hlt : (i : Int) < c
      · by_cases hge : n ≤ at'
        · have hR : R = 4 := HR.out.trans (str_no HB.out hlt (by omega))
          have HR2 := Lib.hid hR
          clear hat hpr ha1 hR HR
          go_wp2
          go_ret
          exact ⟨by rw [HR2.out]; rfl, rfl⟩
        · have hat2 : at' = o + (i : Int) * s := by omega
          have hn1 := str_next o s i
          have hpr2 : o + (((i + 1 : Nat) : Int) - 1) * s < n := by
            have e : ((i + 1 : Nat) : Int) - 1 = (i : Int) := by omega
            rw [e]; omega
          have HP := Lib.hid hpr2
          have HN : Hid (o + ((i + 1 : Nat) : Int) * s = at' + s) := Lib.hid (by omega)
          clear hat hpr ha1 hat2 hpr2 hn1
          by_cases hst : n - at' < s
          · go_wp2
            go_round
            case rel => exact ⟨n, i + 1, rfl, (by first | rfl | simp), by omega, by omega, Or.inr (Int.le_refl _), Or.inr ⟨rfl, by rw [HN.out]; omega⟩, Or.inr HP.out⟩
            case measure => first | (simp [intOf]; done) | (simp [intOf]; omega)
          · go_wp2
            go_round
            case rel => exact ⟨at' + s, i + 1, rfl, (by first | rfl | simp), by omega, by omega, Or.inr (by omega), Or.inl HN.out.symm, Or.inr HP.out⟩
            case measure => first | (simp [intOf]; done) | (simp [intOf]; omega)
      · have hR : R = 0 := HR.out.trans (str_yes HB.out (by omega) hpr)
        have HR2 := Lib.hid hR
        clear hat hpr ha1 hR HR
        go_wp2
        go_ret
        exact ⟨by rw [HR2.out]; rfl, rfl⟩
end Go.Proofs.Ytniljnidpcgjgaa

/- What the landed Gather and Scatter are to answer. -/
namespace Go.Proofs.Ytniljnidpcgjgaa
open Go.RowKit

def I64 (x : Int) : Prop := -9223372036854775808 ≤ x ∧ x ≤ 9223372036854775807
def gatL (zs : List Int) (o s c : Int) : List Int := if strE zs.length o s c = 0 then (List.range c.toNat).map (fun i : Nat => zs.getD (o + (i : Int) * s).toNat 0) else []
/-- one place behind Scatter -/
def scaV (zs fs : List Int) (o s : Int) (i : Nat) : Int := if strE zs.length o s fs.length = 0 ∧ o ≤ (i : Int) ∧ ((i : Int) - o) % s = 0 ∧ ((i : Int) - o) / s < (fs.length : Int) then fs.getD (((i : Int) - o) / s).toNat 0 else zs.getD i 0
def scaL (zs fs : List Int) (o s : Int) : List Int := (List.range zs.length).map (scaV zs fs o s)
def GatSaid7 : Prop := ∀ (p : Option Addr) (n cap : Nat) (zs : List Int) (o s c : Int) (w : World), IL w p n zs → n * 8 ≤ 140737488351232 → I64 o → I64 s → I64 c →
  Calls Try.prog 22 #[.slice p n cap, .int .i64 o, .int .i64 s, .int .i64 c] w fun r w' => ∃ q m cq, r = .returned (.tuple #[.slice q m cq, .int .i64 (strE n o s c)]) ∧ GL w w' q m (gatL zs o s c) ∧ Bel w w'
/-- onto a list that may be written; what is put there lies apart -/
def ScaSaid7 : Prop := ∀ (G off n cap : Nat) (zs : List Int) (p : Option Addr) (m cb : Nat) (fs : List Int) (o s : Int) (w : World), WL w G off n zs → IL w p m fs → (m = 0 ∨ ∀ B b, p = some ⟨B, b, none⟩ → B ≠ G) → n * 8 ≤ 140737488355328 → m * 8 ≤ 140737488355328 → I64 o → I64 s →
  Calls Try.prog 23 #[.slice (some ⟨G, off, none⟩) n cap, .slice p m cb, .int .i64 o, .int .i64 s] w fun r w' => r = .returned (.int .i64 (strE n o s m)) ∧ Touch G w w' ∧ WL w' G off n (scaL zs fs o s)
def ScaNil7 : Prop := ∀ (q : Option Addr) (cap : Nat) (p : Option Addr) (m cb : Nat) (fs : List Int) (o s : Int) (w : World), IL w p m fs → m * 8 ≤ 140737488355328 → I64 o → I64 s →
  Calls Try.prog 23 #[.slice q 0 cap, .slice p m cb, .int .i64 o, .int .i64 s] w fun r w' => r = .returned (.int .i64 (strE 0 o s m)) ∧ Bel w w'
theorem strE_two (n o s c : Int) : strE n o s c = 0 ∨ strE n o s c = 2 ∨ strE n o s c = 4 := by
  unfold strE
  split
  · exact Or.inr (Or.inl rfl)
  · split
    · exact Or.inl rfl
    · exact Or.inr (Or.inr rfl)
theorem strE_zero {n o s c : Int} (h : strE n o s c = 0) : 0 ≤ o ∧ 0 ≤ c ∧ 1 ≤ s ∧ (c = 0 ∨ o + (c - 1) * s < n) := by
  unfold strE at h
  split at h
  · cases h
  · split at h
    · omega
    · cases h
theorem gat_at {zs : List Int} {o s c : Int} {i : Nat} (h : strE zs.length o s c = 0) (hi : (i : Int) < c) : ∃ k z, o + (i : Int) * s = ((k : Nat) : Int) ∧ k < zs.length ∧ zs[k]? = some z ∧ (gatL zs o s c)[i]? = some z ∧ (i : Int) * s ≤ (k : Int) := by
  obtain ⟨h1, h2, h3, h4⟩ := strE_zero h
  have h5 : o + (c - 1) * s < zs.length := by omega
  have k1 : (i : Int) * s ≤ (c - 1) * s := Int.mul_le_mul_of_nonneg_right (by omega) (by omega)
  have k0 : 0 ≤ (i : Int) * s := Int.mul_nonneg (by omega) (by omega)
  have hk : (o + (i : Int) * s).toNat < zs.length := by omega
  refine ⟨(o + (i : Int) * s).toNat, zs[(o + (i : Int) * s).toNat], by omega, hk, List.getElem?_eq_getElem hk, ?_, by omega⟩
  unfold gatL
  rw [if_pos h, List.getElem?_map, List.getElem?_range (by omega)]
  simp only [Option.map_some]
  rw [List.getD_eq_getElem?_getD, List.getElem?_eq_getElem hk]; rfl
theorem gat_len (zs : List Int) (o s c : Int) : (gatL zs o s c).length = if strE zs.length o s c = 0 then c.toNat else 0 := by
  unfold gatL
  split
  · rw [List.length_map, List.length_range]
  · rfl
theorem sca_at {zs fs : List Int} {o s : Int} {i : Nat} (hi : i < zs.length) : (scaL zs fs o s)[i]? = some (scaV zs fs o s i) := by
  unfold scaL
  rw [List.getElem?_map, List.getElem?_range hi]; rfl
theorem sca_len (zs fs : List Int) (o s : Int) : (scaL zs fs o s).length = zs.length := by
  unfold scaL
  rw [List.length_map, List.length_range]
theorem gl_len {w w' : World} {q : Option Addr} {n m : Nat} {zs : List Int} {o s c : Int} (hl : zs.length = n) (h : GL w w' q m (gatL zs o s c)) : (strE n o s c = 0 → (m : Int) = c) ∧ (strE n o s c ≠ 0 → m = 0) := by
  subst hl
  have e := h.len
  rw [gat_len] at e
  constructor
  · intro h0
    rw [if_pos h0] at e
    have := (strE_zero h0).2.1
    omega
  · intro h0
    rw [if_neg h0] at e
    omega
theorem gat_bound {zs : List Int} {o s c : Int} (h : strE zs.length o s c = 0) : c ≤ zs.length := by
  obtain ⟨h1, h2, h3, h4⟩ := strE_zero h
  rcases h4 with h4 | h4
  · omega
  · by_cases c0 : c = 0
    · omega
    · have k1 : (c - 1) * 1 ≤ (c - 1) * s := Int.mul_le_mul_of_nonneg_left (by omega) (by omega)
      omega
end Go.Proofs.Ytniljnidpcgjgaa

/- ref07's Cycles, of lists up to 2^20. -/
namespace Go.Proofs.Ytniljnidpcgjgaa
open Go.RowKit
set_option linter.unusedVariables false

/-- a block of Booleans that may be written -/
structure BArr (w : World) (G n : Nat) (F : Nat → Bool) : Prop where
  lt : G < w.heap.size
  c : ∀ j, j < n → w.cell? ⟨G, j, none⟩ = some (.bool (F j))
  z : ∀ j, j < n → w.frozen? ⟨G, j, none⟩ = false
theorem BArr.set {w : World} {G n i : Nat} {F : Nat → Bool} (h : BArr w G n F) (hi : i < n) (x : Bool) : BArr (w.setCell ⟨G, i, none⟩ (.bool x)) G n (fun j => if j = i then x else F j) := by
  refine ⟨by simp; exact h.lt, fun j hj => ?_, fun j hj => by rw [World.frozen?_setCell]; exact h.z j hj⟩
  by_cases e : j = i
  · subst e
    rw [if_pos rfl]
    exact World.cell?_setCell_same' w _ _ (by rw [h.c j hj]; rfl)
  · rw [if_neg e]
    exact (World.cell?_setCell_other _ _ _ _ (by intro k; exact e (congrArg Addr.off k).symm)).trans (h.c j hj)
theorem run_store_bool (P : Program) (a : Addr) (x : Bool) (m : Mode) (w : World) : (store a (.bool x) m).run P w = stored P w a (.bool x) m := run_store P w a _ m rfl
theorem bool_info : (Try.prog.info? 4).map (fun i => (i.zero, i.size, i.bytes)) = some (some (.bool false), 1, 1) := by kernel_rfl
theorem make_bools (n : Nat) (hn : n * 8 ≤ 281474976710656) (w : World) : (Instr.makeSlice 62 (.int .i64 (n : Int)) (.int .i64 (n : Int))).run Try.prog w = .ok (.slice (some ⟨w.heap.size, 0, none⟩) n n) (w.alloc (.cells (madeCells #[.bool false] n) 4)) := by
  obtain ⟨i0, hi, hz0, hz1, hz2⟩ := info_parts bool_info
  have h := run_make (P := Try.prog) w 62 4 i0 _ Try.underlying62 hi hz0 .i64 .i64 n n (by omega) (Int.le_refl _) (by rw [hz2]; omega) (by omega)
  rw [hz1, Nat.mul_one] at h
  exact h
theorem made_bools (w : World) (n : Nat) (t : TypeId) (N : Nat) (h : N = w.heap.size) : BArr (w.alloc (.cells (madeCells #[.bool false] n) t)) N n (fun _ => false) := by
  refine ⟨by rw [h]; simp, fun j hj => ?_, fun j hj => ?_⟩
  · refine (World.cell?_alloc_at _ _ _ _ h).trans ?_
    unfold madeCells
    rw [Array.getElem?_map, Array.getElem?_range, if_pos hj]
    simp [Nat.mod_one]
  · subst h; exact frozen_of_row _ _ _ _ t (heap_alloc_new w _)
/-- the first i are different numbers below n; met tells which -/
def Good (zs : List Int) (i : Nat) (F : Nat → Bool) : Prop := (∀ j z, j < i → zs[j]? = some z → 0 ≤ z ∧ z < (zs.length : Int)) ∧ (∀ j k z, j < i → k < i → zs[j]? = some z → zs[k]? = some z → j = k) ∧ ∀ x, F x = true ↔ ∃ j, j < i ∧ zs[j]? = some ((x : Nat) : Int)
theorem Good.perm {zs : List Int} {F : Nat → Bool} (h : Good zs zs.length F) : Perm7 zs := by
  refine ⟨fun x hx => ?_, ?_⟩
  · obtain ⟨j, hj⟩ := List.mem_iff_getElem?.1 hx
    exact h.1 j x (List.getElem?_eq_some_iff.1 hj).1 hj
  · rw [List.nodup_iff_pairwise_ne, List.pairwise_iff_getElem]
    intro i j hi hj hij e
    have := h.2.1 i j _ hi hj (List.getElem?_eq_getElem hi) (by rw [List.getElem?_eq_getElem hj, e])
    omega
theorem Good.zero (zs : List Int) : Good zs 0 (fun _ => false) := ⟨fun j z h => absurd h (Nat.not_lt_zero _), fun j k z h => absurd h (Nat.not_lt_zero _), fun x => ⟨fun h => (Bool.false_ne_true h).elim, fun ⟨j, h, _⟩ => absurd h (Nat.not_lt_zero _)⟩⟩
theorem Good.next {zs : List Int} {i m : Nat} {F : Nat → Bool} (h : Good zs i F) (hz : zs[i]? = some ((m : Nat) : Int)) (hm : m < zs.length) (hf : F m = false) : Good zs (i + 1) (fun x => if x = m then true else F x) := by
  have hno : ∀ j, j < i → zs[j]? ≠ some ((m : Nat) : Int) := fun j hj e => by
    have := (h.2.2 m).2 ⟨j, hj, e⟩
    rw [hf] at this; cases this
  refine ⟨fun j z hj hjz => ?_, fun j k z hj hk hjz hkz => ?_, fun x => ⟨fun hx => ?_, fun ⟨j, hj, hjx⟩ => ?_⟩⟩
  · by_cases e : j = i
    · subst e
      rw [hz] at hjz
      obtain rfl := Option.some.inj hjz
      omega
    · exact h.1 j z (by omega) hjz
  · by_cases e : j = i
    · by_cases e2 : k = i
      · omega
      · subst e
        rw [hz] at hjz
        obtain rfl := Option.some.inj hjz
        exact absurd hkz (hno k (by omega))
    · by_cases e2 : k = i
      · subst e2
        rw [hz] at hkz
        obtain rfl := Option.some.inj hkz
        exact absurd hjz (hno j (by omega))
      · exact h.2.1 j k z (by omega) (by omega) hjz hkz
  · by_cases e : x = m
    · subst e; exact ⟨i, by omega, hz⟩
    · have hx : (if x = m then true else F x) = true := hx
      rw [if_neg e] at hx
      obtain ⟨j, hj, hjx⟩ := (h.2.2 x).1 hx
      exact ⟨j, by omega, hjx⟩
  · show (if x = m then true else F x) = true
    by_cases e : x = m
    · rw [if_pos e]
    · rw [if_neg e]
      refine (h.2.2 x).2 ⟨j, ?_, hjx⟩
      by_cases e2 : j = i
      · subst e2
        rw [hz] at hjx
        have := Option.some.inj hjx
        omega
      · omega
/-- a list of lists that a call answers: a row of slices -/
structure LL (w : World) (po : Option Addr) (m : Nat) (ls : List (List Nat)) : Prop where
  len : ls.length = m
  form : m = 0 ∨ ∃ G, po = some ⟨G, 0, none⟩ ∧ G < w.heap.size ∧ ∀ (i : Nat) l, ls[i]? = some l → ∃ p n c, w.cell? ⟨G, i, none⟩ = some (.slice p n c) ∧ IL w p n (l.map fun x : Nat => (x : Int))
theorem LL.bel {w w' : World} {po : Option Addr} {m : Nat} {ls : List (List Nat)} (h : LL w po m ls) (k : Bel w w') : LL w' po m ls := by
  refine ⟨h.len, ?_⟩
  rcases h.form with h | ⟨G, h1, h2, h3⟩
  · exact Or.inl h
  · refine Or.inr ⟨G, h1, Nat.lt_of_lt_of_le h2 k.size, fun i l hl => ?_⟩
    obtain ⟨p, n, c, e1, e2⟩ := h3 i l hl
    exact ⟨p, n, c, (k.cell (p := ⟨G, i, none⟩) h2).trans e1, e2.bel k⟩
/-- what a call of Cycles is to answer -/
def CycR (zs : List Int) (w : World) (r : Ending) (w' : World) : Prop := (Perm7 zs ∧ ∃ ls po m co, Circs (pf zs) zs.length ls ∧ r = .returned (.tuple #[.slice po m co, .int .i64 0]) ∧ LL w' po m ls ∧ Bel w w') ∨ (¬ Perm7 zs ∧ r = .returned (.tuple #[.slice none 0 0, .int .i64 2]) ∧ Bel w w')
theorem circle_info : (Try.prog.info? 54).map (fun i => (i.zero, i.size, i.bytes)) = some (some (.agg #[.slice none 0 0]), 1, 24) := by kernel_rfl
abbrev ints (l : List Nat) : List Int := l.map fun x : Nat => (x : Int)
theorem fr_new7 (w : World) (cs : Array Value) (t : TypeId) (N j : Nat) (h : N = w.heap.size) : (w.alloc (.cells cs t)).frozen? ⟨N, j, none⟩ = false := by
  subst h; exact frozen_of_row _ _ j _ t (heap_alloc_new w _)
/-- how long the slice in a cell is -/
def clen (w : World) (C : Nat) : Nat := match w.cell? ⟨C, 0, none⟩ with | some (.slice _ n _) => n | _ => 0
theorem clen_at {w : World} {C n c : Nat} {p : Option Addr} (h : w.cell? ⟨C, 0, none⟩ = some (.slice p n c)) : clen w C = n := by unfold clen; rw [h]
theorem ownsRow_off {w : World} {base size n g cap X k : Nat} {e : TypeId} {xs : List Value} (h : w.ownsRow base e size (.slice (some ⟨g, 0, none⟩) n cap) n xs) (hne : g ≠ X) (u : Value) : (w.setCell ⟨X, k, none⟩ u).ownsRow base e size (.slice (some ⟨g, 0, none⟩) n cap) n xs := by
  refine ⟨h.1, ?_⟩
  rcases h.2 with ⟨hn, _⟩ | ⟨b, c, cur, hv, hb, hgg, rest⟩
  · cases hn
  · refine .inr ⟨b, c, cur, hv, hb, ?_, rest⟩
    have e1 : g = b := by
      injection hv with h1
      injection h1 with h1
      injection h1
    subst e1
    rw [Below.heap_setCell w ⟨X, k, none⟩ u g hne]
    exact hgg
theorem ownsRow_lt7 {w : World} {base size n : Nat} {e : TypeId} {v : Value} {xs : List Value} (h : w.ownsRow base e size v n xs) : ∀ k, v.ownBlock = some k → k < w.heap.size := by
  intro k hk
  rcases ownsRow_form' h with ⟨rfl, _⟩ | ⟨g, cap, rfl, _, hg, _⟩
  · simp [Value.ownBlock] at hk
  · simp [Value.ownBlock] at hk; omega
theorem ne_own {v : Value} {g H B n c : Nat} (hg : v.ownBlock = some g ∨ g = H) (h1 : B < H) (h2 : v.ownBlock ≠ some B) : (Value.slice (some ⟨g, 0, none⟩) n c).ownBlock ≠ some B := by
  intro e
  have e : some g = some B := e
  have e := Option.some.inj e
  rcases hg with h | h
  · exact h2 (by rw [h, e])
  · omega
theorem range_next (f : Nat → Nat) (k j : Nat) : ((List.range j).map fun i => Value.int .i64 ((it f i k : Nat) : Int)) ++ [Value.int .i64 ((it f j k : Nat) : Int)] = (List.range (j + 1)).map fun i => Value.int .i64 ((it f i k : Nat) : Int) := by
  rw [List.range_succ]; simp
theorem il_circ {w : World} {base B cc t k : Nat} {e : TypeId} {f : Nat → Nat} (h : w.ownsRow base e 1 (.slice (some ⟨B, 0, none⟩) t cc) t ((List.range t).map fun i => Value.int .i64 ((it f i k : Nat) : Int))) (hB : B < w.heap.size) : IL w (some ⟨B, 0, none⟩) t (ints (circ f k t)) := by
  refine ⟨by simp [ints, circ], Or.inr ⟨B, 0, rfl, hB, fun j z hz => ?_⟩⟩
  have hj := (List.getElem?_eq_some_iff.1 hz).1
  have hj : j < t := by simpa [ints, circ] using hj
  rw [Nat.zero_add, h.cellAt j (by omega), List.getElem?_map, List.getElem?_range hj]
  unfold ints circ at hz
  rw [List.getElem?_map, List.getElem?_map, List.getElem?_range hj] at hz
  obtain rfl := Option.some.inj hz
  rfl
/-- one of the lists, in a block that is not the row's own -/
def InnerAt (w : World) (v u : Value) (l : List Nat) : Prop := ∃ B n c, u = .slice (some ⟨B, 0, none⟩) n c ∧ IL w (some ⟨B, 0, none⟩) n (ints l) ∧ B < w.heap.size ∧ v.ownBlock ≠ some B
theorem InnerAt.bel {w w' : World} {v u : Value} {l : List Nat} (h : InnerAt w v u l) (k : Bel w w') : InnerAt w' v u l := by
  obtain ⟨B, n, c, h1, h2, h3, h4⟩ := h
  exact ⟨B, n, c, h1, h2.bel k, Nat.lt_of_lt_of_le h3 k.size, h4⟩
theorem IL.grown {w w' : World} {row : Option Nat} {B n : Nat} {zs : List Int} (h : IL w (some ⟨B, 0, none⟩) n zs) (hg : w.grownBy w' row) (hne : row ≠ some B) : IL w' (some ⟨B, 0, none⟩) n zs := by
  refine ⟨h.len, ?_⟩
  rcases h.form with h | ⟨B', off, e, h2, h3⟩
  · exact Or.inl h
  · injection e with e
    injection e with e1 e2
    subst e1 e2
    exact Or.inr ⟨B, 0, rfl, Nat.lt_of_lt_of_le h2 hg.size, fun j z hz => (World.cell?_of_block (hg.block B h2 (fun e => hne e.symm))).trans (h3 j z hz)⟩
set_option maxHeartbeats 8000000 in
theorem refcyc_run (p : Option Addr) (n cap : Nat) (zs : List Int) (w : World) (hA : IL w p n zs) (hn : n ≤ 1048576) :
    Calls Try.prog 25 #[.slice p n cap] w fun r w' => CycR zs w r w' := by
  have hlen := Lib.hid hA.len
  have HA := Lib.hid hA
  have hm := make_bools n (by omega)
  have sb := run_store_bool Try.prog
  clear hA
  go_enter Try.func25, Try.ntmps25
  go_wp2
  obtain ⟨G, hG⟩ : ∃ G, G = w.heap.size := ⟨_, rfl⟩
  have W1 := made_bools w n 4 G hG
  obtain ⟨w1, hw1⟩ : ∃ w1, w1 = w.alloc (.cells (madeCells #[.bool false] n) 4) := ⟨_, rfl⟩
  have B1 : Bel w w1 := by rw [hw1]; exact (Bel.refl w).alloc _
  have hG1 : w.heap.size ≤ G := by omega
  rw [← hw1] at W1 ⊢
  rw [← hG]
  clear hw1 hG hm
  go_loopw [5] (fun a wr => ∃ (i : Nat) (F : Nat → Bool), i ≤ n ∧ a = .int .i64 (i : Int) ∧ BArr wr G n F ∧ Good zs i F ∧ Bel w wr) (fun a _ => n - (intOf a).toNat)
  case atStart => exact ⟨0, _, by omega, by simp, W1, Good.zero zs, B1⟩
  case round =>
    obtain ⟨i, F, hi, rfl, hW, hF, hB⟩ := hrel
    clear W1 B1
    by_cases hlt : i < n
    · obtain ⟨A, oa, z, rfl, hAl, hz, hAc⟩ := HA.out.at hlt
      have kA := (hB.cell (p := ⟨A, oa + i, none⟩) hAl).trans hAc
      by_cases c0 : z < 0
      · have hnp : ¬ Perm7 zs := fun h => by have := (h.1 z (List.mem_of_getElem? hz)).1; omega
        have HN := Lib.hid hnp
        clear hF hz hAc HA hlen hW hnp
        go_wp2
        refine bodyPost_ret (by simp [results, go_sem]; try rfl) rfl ?_
        exact Or.inr ⟨HN.out, rfl, hB⟩
      · obtain ⟨x, rfl⟩ : ∃ x : Nat, z = (x : Int) := ⟨z.toNat, by omega⟩
        by_cases c1 : n ≤ x
        · have hnp : ¬ Perm7 zs := fun h => by have := (h.1 _ (List.mem_of_getElem? hz)).2; have := hlen.out; omega
          have HN := Lib.hid hnp
          clear hF hz hAc HA hlen hW hnp
          go_wp2
          refine bodyPost_ret (by simp [results, go_sem]; try rfl) rfl ?_
          exact Or.inr ⟨HN.out, rfl, hB⟩
        · have hx : x < n := by omega
          have q0 := hW.c x hx
          have q1 := hW.z x hx
          cases hf : F x with
          | true =>
            have hnp : ¬ Perm7 zs := fun h => by
              obtain ⟨j, hj, hjx⟩ := (hF.2.2 x).1 hf
              have hl := hlen.out
              have := (List.getElem_inj (h₀ := show j < zs.length by omega) (h₁ := show i < zs.length by omega) h.2).1 (by
                have e1 := List.getElem?_eq_getElem (l := zs) (i := j) (by omega)
                have e2 := List.getElem?_eq_getElem (l := zs) (i := i) (by omega)
                rw [hjx] at e1
                rw [hz] at e2
                exact (Option.some.inj e1).symm.trans (Option.some.inj e2))
              omega
            rw [hf] at q0
            have HN := Lib.hid hnp
            clear hF hz hAc HA hlen hW hnp hf
            go_wp2
            refine bodyPost_ret (by simp [results, go_sem]; try rfl) rfl ?_
            exact Or.inr ⟨HN.out, rfl, hB⟩
          | false =>
            rw [hf] at q0
            have hF7 := hF.next hz (by rw [hlen.out]; exact hx) hf
            obtain ⟨w7, hw7⟩ : ∃ w7, w7 = wr.setCell ⟨G, x, none⟩ (.bool true) := ⟨_, rfl⟩
            have hW7 : BArr w7 G n (fun y => if y = x then true else F y) := by rw [hw7]; exact hW.set hx true
            have hB7 : Bel w w7 := by rw [hw7]; exact hB.setCell (p := ⟨G, x, none⟩) hG1 _
            have HW7 := Lib.hid hw7
            have HF7 := Lib.hid hF7
            clear hw7 hF7 hF hz hAc HA hlen hW hf hB
            go_wp2
            go_roundw
            case rel =>
              rw [← HW7.out]
              exact ⟨i + 1, _, by omega, (by first | rfl | simp), hW7, HF7.out, hB7⟩
            case measure => first | (simp [intOf]; done) | (simp [intOf]; omega)
    · have hin : i = n := by omega
      have hperm : Perm7 zs := by rw [hin, ← hlen.out] at hF; exact hF.perm
      obtain ⟨f, hf⟩ : ∃ f, f = pf zs := ⟨_, rfl⟩
      have hft : Turns f n := by rw [hf, ← hlen.out]; exact hperm.turns
      have hfa : ∀ i, i < n → zs[i]? = some ((f i : Nat) : Int) := fun i hi => by rw [hf]; exact (pf_at hperm (by rw [hlen.out]; exact hi)).1
      have HP := Lib.hid hperm
      have HT := Lib.hid hft
      have HFA := Lib.hid hfa
      have HFF := Lib.hid hf
      have ss : ∀ (a : Addr) (p : Option Addr) (n c : Nat) (m : Mode) (w : World), (store a (.slice p n c) m).run Try.prog w = stored Try.prog w a (.slice p n c) m := fun a p n c m w => run_store _ w a _ m rfl
      obtain ⟨i0, hi0, hz0, hz1, hz2⟩ := info_parts int_info
      obtain ⟨i1, hj0, hj1, hj2, hj3⟩ := info_parts circle_info
      clear hF hW hperm hft hfa hf hin
      obtain ⟨w2, rfl⟩ : ∃ w2 : World, w2 = wr := ⟨_, rfl⟩
      go_wp2
      go_loopw [6, 7, 8, 9, 10] (fun v a _ _ _ wr => ∃ (k : Nat) (ls : List (List Nat)) (vs : List Value), k ≤ n ∧ a = .int .i64 (k : Int) ∧ Circs f k ls ∧ ls.length ≤ k ∧ vs.length = ls.length ∧ wr.ownsRow w2.heap.size 54 1 v ls.length vs ∧ (∀ (i : Nat) u l, vs[i]? = some u → ls[i]? = some l → InnerAt wr v u l) ∧ Bel w2 wr) (fun _ a _ _ _ _ => n - (intOf a).toNat)
      case atStart => exact ⟨0, [], [], by omega, by simp, rfl, by simp, rfl, ⟨by simp, Or.inl ⟨rfl, rfl⟩⟩, fun i u l h => by simp at h, Bel.refl _⟩
      case round =>
        obtain ⟨k, ls, vs, hk, rfl, hcs, hlk, hvl, hown, hin', hB2⟩ := hrel
        by_cases hkn : k < n
        · obtain ⟨t, htn, hper⟩ := HT.out.per hkn
          obtain ⟨A, oa, z, rfl, hAl, hz, hAc⟩ := HA.out.at hkn
          obtain rfl : ((f k : Nat) : Int) = z := by rw [HFA.out k hkn] at hz; exact Option.some.inj hz
          have kA := ((hB.trans hB2).cell (p := ⟨A, oa + k, none⟩) hAl).trans hAc
          have sA := Nat.lt_of_lt_of_le hAl (hB.trans hB2).size
          obtain ⟨w4, rfl⟩ : ∃ w4 : World, w4 = wr := ⟨_, rfl⟩
          clear hz
          go_upto_block 4 with fail
          obtain ⟨w5, hw5⟩ : ∃ w5, w5 = (w4.alloc (Obj.cells #[.int .i64 (k : Int)] 3)).alloc (Obj.cells #[.slice (some ⟨w4.heap.size, 0, none⟩) 1 1] 54) := ⟨_, rfl⟩
          obtain ⟨C, hC⟩ : ∃ C, C = w4.heap.size + 1 := ⟨_, rfl⟩
          have b5 : Bel w4 w5 := by rw [hw5]; exact ((Bel.refl _).alloc _).alloc _
          have cC : w5.cell? ⟨C, 0, none⟩ = some (.slice (some ⟨w4.heap.size, 0, none⟩) 1 1) := by rw [hw5]; exact World.cell?_alloc_at _ _ _ _ (by simp; exact hC)
          have zC : w5.frozen? ⟨C, 0, none⟩ = false := by rw [hw5]; exact fr_new7 _ _ _ _ _ (by simp; exact hC)
          have lC : C < w5.heap.size := by rw [hw5, hC]; simp
          have o5 : w5.ownsRow w4.heap.size 3 1 (.slice (some ⟨w4.heap.size, 0, none⟩) 1 1) 1 ((List.range 1).map fun i => Value.int .i64 ((it f i k : Nat) : Int)) := by
            rw [hw5]
            exact (World.ownsRow_lit w4 #[.int .i64 (k : Int)] 1 (Nat.le_refl _) (by decide) rfl).alloc _
          have neC : w4.heap.size ≠ C := by omega
          have hCw : w4.heap.size ≤ C := by omega
          rw [← hw5]
          rw [← hC]
          clear hw5 hC
          go_cut [9, 10] (fun b _ wx => Bel w4 wx ∧ ∃ B nn cc, wx.cell? ⟨C, 0, none⟩ = some (.slice (some ⟨B, 0, none⟩) nn cc) ∧ C < wx.heap.size ∧ ((b = .bool true ∧ (∀ j, j < t → k ≤ it f j k) ∧ nn = t ∧ w4.heap.size ≤ B ∧ B < wx.heap.size ∧ IL wx (some ⟨B, 0, none⟩) t (ints (circ f k t))) ∨ (b = .bool false ∧ ∃ j, j < t ∧ it f j k < k)))
          case first =>
            have hp1 := hper.1
            have hper2 := hper.2.1
            clear hown hin' hcs
            go_wp2_with fail
            go_loopw [9, 10] (fun b a wx => b = .bool true ∧ ∃ (j B cc : Nat), 1 ≤ j ∧ j ≤ t ∧ a = .int .i64 ((it f j k : Nat) : Int) ∧ (∀ i, i < j → k ≤ it f i k) ∧ wx.cell? ⟨C, 0, none⟩ = some (.slice (some ⟨B, 0, none⟩) j cc) ∧ wx.frozen? ⟨C, 0, none⟩ = false ∧ wx.ownsRow w4.heap.size 3 1 (.slice (some ⟨B, 0, none⟩) j cc) j ((List.range j).map fun i => Value.int .i64 ((it f i k : Nat) : Int)) ∧ B ≠ C ∧ C < wx.heap.size ∧ Bel w4 wx) (fun _ _ wx => t - clen wx C)
            case atStart => exact ⟨rfl, 1, w4.heap.size, 1, Nat.le_refl _, hp1, rfl, fun i hi => by (have e : i = 0 := by omega); rw [e]; exact Nat.le_refl _, cC, zC, o5, neC, lC, b5⟩
            case round =>
              obtain ⟨rfl, j, B, cc, j1, jt, rfl, hge, c0, z0, ho, hBC, hCl, hBel⟩ := hrel
              clear cC zC o5 neC lC b5
              by_cases hjt : j = t
              · have t1 : (((it f j k : Nat) : Int) != (k : Int)) = false := by rw [hjt, hper2]; exact bne_self_eq_false _
                have hBl : B < wr.heap.size := by
                  rcases ownsRow_form' ho with ⟨h, _⟩ | ⟨g, _, e, _, h, _⟩
                  · cases h
                  · injection e with e
                    injection e with e
                    injection e with e
                    omega
                have hBw := ownsRow_block ho B rfl
                subst hjt
                have hil := il_circ ho hBl
                clear HA HFA hper kA ho
                go_wp2
                go_meet
                case rel => exact ⟨hBel, B, _, cc, c0, hCl, Or.inl ⟨rfl, hge, rfl, hBw, hBl, hil⟩⟩
              · have hne := hper.2.2 j j1 (by omega)
                have t1 : (((it f j k : Nat) : Int) != (k : Int)) = true := by rw [bne_iff_ne]; omega
                have hlj := HT.out.it_lt hkn j
                obtain ⟨A', oa', z', e1, hAl', hz', hAc'⟩ := HA.out.at hlj
                injection e1 with e1
                injection e1 with e1 e2
                subst e1 e2
                obtain rfl : ((f (it f j k) : Nat) : Int) = z' := by rw [HFA.out _ hlj] at hz'; exact Option.some.inj hz'
                have kA' := fun (w' : World) (b : Bel w4 w') => (((hB.trans hB2).trans b).cell (p := ⟨A, oa + it f j k, none⟩) hAl).trans hAc'
                have hBw := ownsRow_block ho B rfl
                have hs4 := hBel.size
                have hnextH := Lib.hid (range_next f k j)
                have hcl : clen wr C = j := clen_at c0
                obtain ⟨a, ha⟩ : ∃ a, a = it f j k := ⟨_, rfl⟩
                have hfa' : it f (j + 1) k = f a := by rw [ha]; rfl
                rw [← ha] at hlj kA' hne t1 hnextH ⊢
                obtain ⟨L, hL⟩ : ∃ L, L = (List.range j).map fun i => Value.int .i64 ((it f i k : Nat) : Int) := ⟨_, rfl⟩
                rw [← hL] at ho hnextH
                have HPER := Lib.hid hper
                have HAA := Lib.hid ha
                have HFF2 := Lib.hid hfa'
                have HGE := Lib.hid hge
                have HCL := Lib.hid hcl
                clear hz' hAc' HA HFA hper ha hfa' hge hcl hL hper2 kA
                go_wp2_with (at_builtin; refine wpList_append_lies _ rfl _ _ 22 rfl w4.heap.size 3 i0 (.int .i64 0) 1 8 Try.underlying22 hi0 hz0 hz1 hz2 rfl (by decide) _ _ _ rfl (ho.alloc _) ⟨wr.heap.size, 0, none⟩ 1 1 [.int .i64 ((a : Nat) : Int)] rfl rfl ?h1 ?h2 (by decide) ?h3 ?h4 ?h5 (wr.heap.size + 1) (by simp) ?_)
                case h2 => first | rfl | (intro x hx; simp at hx; subst hx; rfl)
                case h3 => first | omega | (unfold maxLen; omega)
                case h4 => omega
                case h5 => first | omega | (simp; omega)
                intro g cap' w6 ho6 hgrow hg hgl
                have hgC : g ≠ C := by
                  rcases hg with hg | hg
                  · intro e
                    have : some B = some g := hg
                    have := Option.some.inj this
                    omega
                  · omega
                have c6 : w6.cell? ⟨C, 0, none⟩ = some (.slice (some ⟨B, 0, none⟩) j cc) := by
                  refine (World.cell?_of_block (hgrow.block C (by simp; omega) (fun e => hBC (Option.some.inj e).symm))).trans ?_
                  exact (World.cell?_alloc_past _ _ _ hCl).trans c0
                have z6 : w6.frozen? ⟨C, 0, none⟩ = false := by
                  refine (World.frozen?_of_block (hgrow.block C (by simp; omega) (fun e => hBC (Option.some.inj e).symm))).trans ?_
                  exact ((((Bel.refl wr).alloc _).frozen (p := ⟨C, 0, none⟩) hCl)).trans z0
                have b6 := ((hBel.alloc _).grown hgrow (ownsRow_block ho))
                rw [hnextH.out] at ho6
                obtain ⟨w7, hw7⟩ : ∃ w7, w7 = w6.setCell ⟨C, 0, none⟩ (.slice (some ⟨g, 0, none⟩) (j + 1) cap') := ⟨_, rfl⟩
                have b7 : Bel w4 w7 := by rw [hw7]; exact b6.setCell (p := ⟨C, 0, none⟩) hCw _
                have c7 : w7.cell? ⟨C, 0, none⟩ = some (.slice (some ⟨g, 0, none⟩) (j + 1) cap') := by rw [hw7]; exact World.cell?_setCell_same' _ _ _ (by rw [c6]; rfl)
                have z7 : w7.frozen? ⟨C, 0, none⟩ = false := by rw [hw7, World.frozen?_setCell]; exact z6
                have o7 := ownsRow_off (X := C) (k := 0) ho6 hgC (.slice (some ⟨g, 0, none⟩) (j + 1) cap')
                rw [← hw7] at o7
                have l7 : C < w7.heap.size := by
                  have h1 := hgrow.size
                  have h2 : (wr.alloc (Obj.cells #[.int .i64 ((a : Nat) : Int)] 3)).heap.size = wr.heap.size + 1 := by simp
                  rw [hw7]; simp; omega
                have kA7 := kA' _ b7
                rw [hw7] at kA7
                have HW7 := Lib.hid hw7
                have sA7 : A < (w6.setCell ⟨C, 0, none⟩ (.slice (some ⟨g, 0, none⟩) (j + 1) cap')).heap.size := by rw [← hw7]; have := b7.size; omega
                clear hgrow ho ho6 hw7 b6 hBel kA' c0 z0
                by_cases c2 : a < k
                · go_wp2
                  go_meet
                  case rel =>
                    rw [← HW7.out]
                    exact ⟨b7, g, _, _, c7, l7, Or.inr ⟨rfl, j, by omega, by rw [← HAA.out]; exact c2⟩⟩
                · go_wp2
                  go_roundw
                  case rel =>
                    rw [← HW7.out]
                    refine ⟨rfl, j + 1, g, _, by omega, by omega, by rw [HFF2.out], fun i hi => ?_, c7, z7, o7, hgC, l7, b7⟩
                    by_cases e : i = j
                    · rw [e, ← HAA.out]; omega
                    · exact HGE.out i (by omega)
                  case measure =>
                    rw [← HW7.out, clen_at c7, HCL.out]
                    omega
          case rest =>
            obtain ⟨b6, B, nn, cc, c6, l6, hor⟩ := hcut
            obtain ⟨w6, rfl⟩ : ∃ w6 : World, w6 = wc := ⟨_, rfl⟩
            have hown6 := ownsRow_bel hown b6
            have hvb4 := ownsRow_lt7 hown
            have hB6 := hB2.trans b6
            have hin6 : ∀ (i : Nat) u l, vs[i]? = some u → ls[i]? = some l → InnerAt w6 _ u l := fun i u l h1 h2 => (hin' i u l h1 h2).bel b6
            clear cC zC o5 neC lC b5 hown hin'
            rcases hor with ⟨rfl, hge, rfl, hBw, hBl, hil⟩ | ⟨rfl, j, hjt, hjk⟩
            · have hcs' : Circs f (k + 1) (ls ++ [circ f k nn]) := ⟨ls, nn, hcs, hper, Or.inl ⟨hge, rfl⟩⟩
              have HCS := Lib.hid hcs'
              have hvb := ownsRow_lt7 hown6
              have hvw := ownsRow_block hown6
              have hBv := hown6
              have s26 : w2.heap.size ≤ w6.heap.size := hB6.size
              clear hcs hcs' hper HA HFA hge kA b6
              go_wp2_with (at_builtin; refine wpList_append_lies _ rfl _ _ 50 rfl w2.heap.size 54 i1 (.agg #[.slice none 0 0]) 1 24 Try.underlying50 hj0 hj1 hj2 hj3 rfl (by decide) _ _ _ rfl (hown6.alloc _) ⟨w6.heap.size, 0, none⟩ 1 1 [.slice (some ⟨B, 0, none⟩) nn cc] rfl rfl ?k1 ?k2 (by decide) ?k3 ?k4 ?k5 (w6.heap.size + 1) (by simp) ?_)
              case k1 =>
                intro i x hi
                match i, hi with
                | 0, hi => simp at hi; subst hi; simp [Addr.add]
                | i + 1, hi => simp at hi
              case k2 => intro x hx; simp at hx; subst hx; rfl
              case k3 => unfold maxLen; omega
              case k4 => omega
              case k5 => simp; omega
              intro g cap' w7 ho7 hgrow hg hgl
              have b7 := ((hB6.alloc _).grown hgrow hvw)
              have l7 : (w6.alloc (Obj.cells #[.slice (some ⟨B, 0, none⟩) nn cc] 54)).heap.size = w6.heap.size + 1 := by simp
              have hin7 : ∀ (i : Nat) u l, (vs ++ [.slice (some ⟨B, 0, none⟩) nn cc])[i]? = some u → (ls ++ [circ f k nn])[i]? = some l → InnerAt w7 (.slice (some ⟨g, 0, none⟩) (ls.length + 1) cap') u l := by
                intro i u l h1 h2
                by_cases hi : i < ls.length
                · rw [List.getElem?_append_left (by omega)] at h1
                  rw [List.getElem?_append_left hi] at h2
                  obtain ⟨B', n', c', e1, e2, e3, e4⟩ := hin6 i u l h1 h2
                  exact ⟨B', n', c', e1, (e2.bel ((Bel.refl _).alloc _)).grown hgrow e4, by have := hgrow.size; omega, ne_own hg (by omega) e4⟩
                · have hi2 : i = ls.length := by
                    have := (List.getElem?_eq_some_iff.1 h2).1
                    simp at this
                    omega
                  rw [List.getElem?_append_right (by omega), hi2, hvl, Nat.sub_self] at h1
                  rw [List.getElem?_append_right (by omega), hi2, Nat.sub_self] at h2
                  obtain rfl := Option.some.inj h1
                  obtain rfl := Option.some.inj h2
                  exact ⟨B, nn, cc, rfl, (hil.bel ((Bel.refl _).alloc _)).grown hgrow (fun e => absurd (hvb4 B e) (by omega)), by have := hgrow.size; omega, ne_own hg (by omega) (fun e => absurd (hvb4 B e) (by omega))⟩
              have ho8 : w7.ownsRow w2.heap.size 54 1 (.slice (some ⟨g, 0, none⟩) (ls.length + 1) cap') (ls ++ [circ f k nn]).length (vs ++ [.slice (some ⟨B, 0, none⟩) nn cc]) := by
                rw [List.length_append]; exact ho7
              have HI := Lib.hid hin7
              clear hin7 hgrow hil c6 hown6 hin6 hB6 hvb hvw hBv ho7 hg
              go_wp2
              go_roundw
              case rel => exact ⟨k + 1, ls ++ [circ f k nn], vs ++ [.slice (some ⟨B, 0, none⟩) nn cc], by omega, (by first | rfl | simp), HCS.out, by rw [List.length_append]; simp; omega, by rw [List.length_append, List.length_append, hvl]; rfl, ho8, HI.out, b7⟩
              case measure => first | (simp [intOf]; done) | (simp [intOf]; omega)
            · have hcs' : Circs f (k + 1) ls := ⟨ls, t, hcs, hper, Or.inr ⟨⟨j, hjt, hjk⟩, rfl⟩⟩
              have HCS := Lib.hid hcs'
              clear hcs hcs' hper HA HFA hjk hjt c6 kA b6
              go_wp2
              go_roundw
              case rel => exact ⟨k + 1, ls, vs, by omega, (by first | rfl | simp), HCS.out, by omega, hvl, hown6, hin6, hB6⟩
              case measure => first | (simp [intOf]; done) | (simp [intOf]; omega)
        · have hkn2 : k = n := by omega
          have HC := Lib.hid hcs
          rcases ownsRow_form' hown with ⟨rfl, h2⟩ | ⟨g, co, rfl, _, hg, _, _⟩
          · have hl0 : LL wr none 0 ls := ⟨h2, Or.inl rfl⟩
            have hB3 := hB.trans hB2
            clear hown hin' HA HFA hcs
            go_wp2
            refine bodyPost_ret (by simp [results, go_sem]; try rfl) rfl ?_
            exact Or.inl ⟨HP.out, ls, _, _, _, by rw [hlen.out, ← HFF.out, ← hkn2]; exact HC.out, rfl, hl0, hB3⟩
          · have hl0 : LL wr (some ⟨g, 0, none⟩) ls.length ls := by
              refine ⟨rfl, Or.inr ⟨g, rfl, hg, fun i l hl => ?_⟩⟩
              have hi := (List.getElem?_eq_some_iff.1 hl).1
              have hu : vs[i]? = some vs[i] := List.getElem?_eq_getElem (by omega)
              obtain ⟨B, n', c', e1, e2, _, _⟩ := hin' i _ l hu hl
              exact ⟨_, n', c', by rw [hown.cellAt i (by omega), hu, e1], e2⟩
            have hB3 := hB.trans hB2
            clear hown hin' HA HFA hcs
            go_wp2
            refine bodyPost_ret (by simp [results, go_sem]; try rfl) rfl ?_
            exact Or.inl ⟨HP.out, ls, _, _, _, by rw [hlen.out, ← HFF.out, ← hkn2]; exact HC.out, rfl, hl0, hB3⟩
end Go.Proofs.Ytniljnidpcgjgaa

/- The region of IndexCycles that draws its order. -/
namespace Go.Proofs.Ytniljnidpcgjgaa
open Go.RowKit
set_option linter.unusedVariables false

theorem index_ll (g n cap i : Nat) (hi : i < n) (w : World) : (Instr.indexAt 47 (.slice (some ⟨g, 0, none⟩) n cap) (.int .i64 (i : Int))).run Try.prog w = .ok (.pointer (some ⟨g, i, none⟩)) w := by
  simp [go_sem, hi]
theorem index_cc (g n cap i : Nat) (hi : i < n) (w : World) : (Instr.indexAt 50 (.slice (some ⟨g, 0, none⟩) n cap) (.int .i64 (i : Int))).run Try.prog w = .ok (.pointer (some ⟨g, i, none⟩)) w := by
  simp [go_sem, hi]
theorem field_cc {w : World} {A j : Nat} : (Instr.fieldAt 54 (.pointer (some ⟨A, j, none⟩)) 0).run Try.prog w = .ok (.pointer (some ⟨A, j, none⟩)) w := by simp [go_sem]
theorem load_sl {w : World} {A j n c : Nat} {p : Option Addr} (h : w.cell? ⟨A, j, none⟩ = some (.slice p n c)) : (Instr.loadAt 22 (.pointer (some ⟨A, j, none⟩))).run Try.prog w = .ok (.slice p n c) w := by simp [go_sem, h]
def cyc7_regPre (i : Nat) : List Nat := match i with | 2 => [0, 1] | 3 => [2] | 6 => [4, 5] | 7 => [6] | 8 => [7] | 9 => [3, 8] | 10 => [9] | _ => []
def cyc7_regIts : Its := [(0, 37), (1, 38), (2, 39), (3, 40), (4, 41), (5, 42), (6, 43), (7, 44), (8, 45), (9, 46), (10, 47)]
def cyc7_regPhi (L G n cl cg m k ka kb : Nat) (pa pb : Option Addr) (i : Nat) (z : Value) : Prop := match i with
  | 0 => z = .slice (some ⟨L, 0, none⟩) n cl
  | 1 => z = .int .i64 (m : Int)
  | 2 => z = .pointer (some ⟨L, m, none⟩)
  | 3 => z = .slice pa k ka
  | 4 => z = .slice (some ⟨G, 0, none⟩) n cg
  | 5 => z = .int .i64 (m : Int)
  | 6 => z = .pointer (some ⟨G, m, none⟩)
  | 7 => z = .pointer (some ⟨G, m, none⟩)
  | 8 => z = .slice pb k kb
  | 9 => z = .bool true
  | 10 => z = .bool false
  | _ => True
set_option maxHeartbeats 4000000 in
theorem cyc7_reg {Q : Exit → Act → World → Prop} {ops : Array Oper} {id : Nat} {w1 : World} (a0 : Act) (L G n cl cg m k ka kb : Nat) (pa pb : Option Addr)
    (k0 : OpAt ops 0 (some 37) (.move (.tmp 3)) none)
    (k1 : OpAt ops 1 (some 38) (.move (.tmp 7)) none)
    (k2 : OpAt ops 2 (some 39) (.indexAddr 47 (.tmp 37) (.tmp 38)) none)
    (k3 : OpAt ops 3 (some 40) (.load 22 (.tmp 39)) none)
    (k4 : OpAt ops 4 (some 41) (.move (.tmp 5)) none)
    (k5 : OpAt ops 5 (some 42) (.move (.tmp 7)) none)
    (k6 : OpAt ops 6 (some 43) (.indexAddr 50 (.tmp 41) (.tmp 42)) none)
    (k7 : OpAt ops 7 (some 44) (.fieldAddr 54 (.tmp 43) 0) none)
    (k8 : OpAt ops 8 (some 45) (.load 22 (.tmp 44)) none)
    (k9 : OpAt ops 9 (some 46) (.call { callee := .value (.func 15), args := #[.tmp 40, .tmp 45], argTypes := #[22, 22] }) none)
    (k10 : OpAt ops 10 (some 47) (.unOp .not 4 (.tmp 46)) none)
    (hn : ops.size = 11) (hchk : chkN cyc7_regPre ops = true) (hsz : a0.tmps.size = 49) (e3 : a0.eval (.tmp 3) = .slice (some ⟨L, 0, none⟩) n cl) (e5 : a0.eval (.tmp 5) = .slice (some ⟨G, 0, none⟩) n cg) (e7 : a0.eval (.tmp 7) = .int .i64 (m : Int)) 
    (hlt : m < n)
    (cL : ∀ w, Bel w1 w → w.cell? ⟨L, m, none⟩ = some (.slice pa k ka))
    (cG : ∀ w, Bel w1 w → w.cell? ⟨G, m, none⟩ = some (.slice pb k kb))
    (s1 : ∀ w, Bel w1 w → Calls Try.prog 15 #[.slice pa k ka, .slice pb k kb] w fun r w' => r = .returned (.bool true) ∧ Bel w w')
    (hQ : ∀ f w, Bel w1 w → ((f 47) = .bool false) → Q .normal (actOf a0 [37, 38, 39, 40, 41, 42, 43, 44, 45, 46, 47] f) w) : (Code.region id ops true).wp Try.prog Q a0 w1 := by
  obtain ⟨ds, hds⟩ : ∃ ds, ds = [37, 38, 39, 40, 41, 42, 43, 44, 45, 46, 47] := ⟨_, rfl⟩
  rw [← hds] at hQ
  have out : ∀ f t, t ∉ ds → (actOf a0 ds f).eval (.tmp t) = a0.eval (.tmp t) := fun f t h => actOf_out a0 _ f h
  have inn : ∀ f t, t ∈ ds → t < 49 → (actOf a0 ds f).eval (.tmp t) = f t := fun f t h h2 => actOf_in a0 _ f h (by rw [hsz]; exact h2)
  rw [← actOf_self a0 ds]
  refine wp_region_pv (pre := cyc7_regPre) (actOf a0 ds) (fun t => a0.eval (.tmp t)) (by kernel_rfl) hchk cyc7_regIts (cyc7_regPhi L G n cl cg m k ka kb pa pb) [] (by rw [hn]; decide +kernel) ?_ ?_
  · intro i hi
    rw [hn] at hi
    match i, hi with
    | 0, _ =>
      obtain ⟨o, o1, o2, o3, o4⟩ := k0
      exact does_val 37 (by decide) fun f w hB h => wpOp_go o1 o4 (step_move (d := some 37) o2 (Or.inl o3) ((out f 3 (by rw [hds]; decide)).trans e3) ⟨_, (actOf_put _ _ _ (by rw [hds]; decide) _), rfl, Bel.refl _⟩)
    | 1, _ =>
      obtain ⟨o, o1, o2, o3, o4⟩ := k1
      exact does_val 38 (by decide) fun f w hB h => wpOp_go o1 o4 (step_move (d := some 38) o2 (Or.inl o3) ((out f 7 (by rw [hds]; decide)).trans e7) ⟨_, (actOf_put _ _ _ (by rw [hds]; decide) _), rfl, Bel.refl _⟩)
    | 2, _ =>
      obtain ⟨o, o1, o2, o3, o4⟩ := k2
      exact does_val 39 (by decide) fun f w hB h => wpOp_go o1 o4 (step_indexM (d := some 39) o2 o3 ((inn f 37 (by rw [hds]; decide) (by decide)).trans (h 0 37 (by decide) (by decide))) ((inn f 38 (by rw [hds]; decide) (by decide)).trans (h 1 38 (by decide) (by decide))) (index_ll _ _ _ _ hlt _) ⟨_, (actOf_put _ _ _ (by rw [hds]; decide) _), rfl, Bel.refl _⟩)
    | 3, _ =>
      obtain ⟨o, o1, o2, o3, o4⟩ := k3
      exact does_val 40 (by decide) fun f w hB h => wpOp_go o1 o4 (step_load (d := some 40) o2 o3 ((inn f 39 (by rw [hds]; decide) (by decide)).trans (h 2 39 (by decide) (by decide))) (load_sl (cL _ hB)) ⟨_, (actOf_put _ _ _ (by rw [hds]; decide) _), rfl, Bel.refl _⟩)
    | 4, _ =>
      obtain ⟨o, o1, o2, o3, o4⟩ := k4
      exact does_val 41 (by decide) fun f w hB h => wpOp_go o1 o4 (step_move (d := some 41) o2 (Or.inl o3) ((out f 5 (by rw [hds]; decide)).trans e5) ⟨_, (actOf_put _ _ _ (by rw [hds]; decide) _), rfl, Bel.refl _⟩)
    | 5, _ =>
      obtain ⟨o, o1, o2, o3, o4⟩ := k5
      exact does_val 42 (by decide) fun f w hB h => wpOp_go o1 o4 (step_move (d := some 42) o2 (Or.inl o3) ((out f 7 (by rw [hds]; decide)).trans e7) ⟨_, (actOf_put _ _ _ (by rw [hds]; decide) _), rfl, Bel.refl _⟩)
    | 6, _ =>
      obtain ⟨o, o1, o2, o3, o4⟩ := k6
      exact does_val 43 (by decide) fun f w hB h => wpOp_go o1 o4 (step_indexM (d := some 43) o2 o3 ((inn f 41 (by rw [hds]; decide) (by decide)).trans (h 4 41 (by decide) (by decide))) ((inn f 42 (by rw [hds]; decide) (by decide)).trans (h 5 42 (by decide) (by decide))) (index_cc _ _ _ _ hlt _) ⟨_, (actOf_put _ _ _ (by rw [hds]; decide) _), rfl, Bel.refl _⟩)
    | 7, _ =>
      obtain ⟨o, o1, o2, o3, o4⟩ := k7
      exact does_val 44 (by decide) fun f w hB h => wpOp_go o1 o4 (step_field (d := some 44) o2 o3 ((inn f 43 (by rw [hds]; decide) (by decide)).trans (h 6 43 (by decide) (by decide))) field_cc ⟨_, (actOf_put _ _ _ (by rw [hds]; decide) _), rfl, Bel.refl _⟩)
    | 8, _ =>
      obtain ⟨o, o1, o2, o3, o4⟩ := k8
      exact does_val 45 (by decide) fun f w hB h => wpOp_go o1 o4 (step_load (d := some 45) o2 o3 ((inn f 44 (by rw [hds]; decide) (by decide)).trans (h 7 44 (by decide) (by decide))) (load_sl (cG _ hB)) ⟨_, (actOf_put _ _ _ (by rw [hds]; decide) _), rfl, Bel.refl _⟩)
    | 9, _ =>
      obtain ⟨o, o1, o2, o3, o4⟩ := k9
      exact does_val 46 (by decide) fun f w hB h => wpOp_go o1 o4 (step_callN2 (d := some 46) o2 o3 ((inn f 40 (by rw [hds]; decide) (by decide)).trans (h 3 40 (by decide) (by decide))) ((inn f 45 (by rw [hds]; decide) (by decide)).trans (h 8 45 (by decide) (by decide))) (by kernel_rfl) ((s1 _ hB).mono fun _ _ ⟨k1, k2⟩ => ⟨_, k1, _, (actOf_put _ _ _ (by rw [hds]; decide) _), rfl, k2⟩))
    | 10, _ =>
      obtain ⟨o, o1, o2, o3, o4⟩ := k10
      exact does_val 47 (by decide) fun f w hB h => wpOp_go o1 o4 (step_not (b := true) (d := some 47) o2 o3 ((inn f 46 (by rw [hds]; decide) (by decide)).trans (h 9 46 (by decide) (by decide))) ⟨_, (actOf_put _ _ _ (by rw [hds]; decide) _), rfl, Bel.refl _⟩)
    | (m + 11), hi => exact absurd hi (by omega)
  · intro f w hB h _
    exact hQ f w hB (h 10 47 (by decide))
end Go.Proofs.Ytniljnidpcgjgaa

/- IndexCycles' whole walk, of lists up to 2^20. -/
namespace Go.Proofs.Ytniljnidpcgjgaa
open Go.RowKit
set_option linter.unusedVariables false

/-- what the landed Cycles is to answer -/
def CycSaid7 : Prop := ∀ (p : Option Addr) (n cap : Nat) (zs : List Int) (w : World), IL w p n zs → n ≤ 1048576 →
  Calls Try.prog 24 #[.slice p n cap] w fun r w' => (Perm7 zs ∧ ∃ ls po m co, Circs (pf zs) zs.length ls ∧ r = .returned (.tuple #[.slice po m co, .int .i64 0]) ∧ LL w' po m ls ∧ Bel w w') ∨ (¬ Perm7 zs ∧ ∃ po co, r = .returned (.tuple #[.slice po 0 co, .int .i64 2]) ∧ Bel w w')
theorem Circs.short {f : Nat → Nat} : ∀ {m : Nat} {ls : List (List Nat)}, Circs f m ls → ls.length ≤ m
  | 0, ls, h => by rw [h]; exact Nat.le_refl _
  | m + 1, ls, ⟨l', t, h1, h2, h3⟩ => by
    have := h1.short
    rcases h3 with ⟨_, rfl⟩ | ⟨_, rfl⟩
    · rw [List.length_append]; simp; omega
    · omega
theorem Circs.each {f : Nat → Nat} {n : Nat} (hf : Turns f n) : ∀ {m : Nat} {ls : List (List Nat)}, m ≤ n → Circs f m ls → ∀ (i : Nat) l, ls[i]? = some l → l.length ≤ n
  | 0, ls, _, h, i, l, hl => by rw [h] at hl; simp at hl
  | m + 1, ls, hm, ⟨l', t, h1, h2, h3⟩, i, l, hl => by
    rcases h3 with ⟨_, rfl⟩ | ⟨_, rfl⟩
    · by_cases hi : i < l'.length
      · rw [List.getElem?_append_left hi] at hl
        exact h1.each hf (by omega) i l hl
      · rw [List.getElem?_append_right (by omega)] at hl
        have hi2 := (List.getElem?_eq_some_iff.1 hl).1
        have : i - l'.length = 0 := by simp at hi2; omega
        rw [this] at hl
        obtain rfl := Option.some.inj hl
        obtain ⟨t', ht', hp⟩ := hf.per (show m < n by omega)
        have := hp.unique h2
        unfold circ
        rw [List.length_map, List.length_range]
        omega
    · exact h1.each hf (by omega) i l hl
set_option maxHeartbeats 4000000 in
theorem cycles7 (hwk : WakesSaid7) (hC : CycSaid7) (p : Option Addr) (n ca : Nat) (zs : List Int) (w : World) (hA : IL w p n zs) (hn : n ≤ 1048576) :
    Calls Try.prog 7 #[.slice p n ca] w fun r w' => r = .returned (.bool true) ∧ Bel w w' := by
  have hlen := hA.len
  have h1 := hC p n ca zs w hA hn
  have h2 := fun w' (g : Bel w w') => refcyc_run p n ca zs w' (hA.bel g) hn
  clear hC hA
  go_enter Try.func7, Try.ntmps7
  go_wp2_with fail
  refine h1.mono ?_; intro r w1 hr1
  rcases hr1 with ⟨hp, ls, po, m, co, hcs, rfl, hl1, g1⟩ | ⟨hp, po, co, rfl, g1⟩
  · go_wp2_with fail
    refine (h2 _ g1).mono ?_; intro r w2 hr2
    rcases hr2 with ⟨_, ls', po', m', co', hcs', rfl, hl2, g2⟩ | ⟨hp', _⟩
    · obtain rfl := hcs.unique hcs'
      have hmm : m' = m := hl2.len.symm.trans hl1.len
      subst hmm
      have hsh := hcs.short
      have hm : m' ≤ 1048576 := by rw [← hl1.len]; omega
      have hft : Turns (pf zs) zs.length := hp.turns
      have hea : ∀ (i : Nat) l, ls[i]? = some l → l.length ≤ n := fun i l h => by rw [← hlen]; exact hcs.each hft (Nat.le_refl _) i l h
      go_wp2_with fail
      refine (hwk _).mono ?_; rintro r w3 ⟨rfl, g3⟩
      have G3 := (g1.trans g2).trans g3
      have L1 := Lib.hid ((hl1.bel g2).bel g3)
      have L2 := Lib.hid (hl2.bel g3)
      have HEA := Lib.hid hea
      clear hl1 hl2 g1 g2 g3 hcs hcs' hp hft hea hsh h2 hlen
      go_wp2
      go_loopw [7, 34] (fun _ a wr => ∃ i : Nat, i ≤ m' ∧ a = .int .i64 (i : Int) ∧ Bel w3 wr) (fun _ a _ => m' - (intOf a).toNat)
      case atStart => exact ⟨0, by omega, by simp, Bel.refl _⟩
      case round =>
        obtain ⟨i, hi, rfl, hB⟩ := hrel
        by_cases hlt : i < m'
        · rcases L1.out.form with h | ⟨L, rfl, hLl, hLc⟩
          · omega
          rcases L2.out.form with h | ⟨G, rfl, hGl, hGc⟩
          · omega
          have hll := L1.out.len
          obtain ⟨l, hl⟩ : ∃ l, ls[i]? = some l := ⟨_, List.getElem?_eq_getElem (by omega)⟩
          obtain ⟨pa, na, ka, ea, la⟩ := hLc i l hl
          obtain ⟨pb, nb, kb, eb, lb⟩ := hGc i l hl
          have hnn : nb = na := by rw [← la.len, ← lb.len]
          subst hnn
          have hna : nb ≤ n := by
            have := HEA.out i l hl
            rw [← la.len]; simpa [ints] using this
          have kA := (hB.cell (p := ⟨L, i, none⟩) hLl).trans ea
          have kG := (hB.cell (p := ⟨G, i, none⟩) hGl).trans eb
          have sL := Nat.lt_of_lt_of_le hLl hB.size
          have sG := Nat.lt_of_lt_of_le hGl hB.size
          have s1 := fun w' (b : Bel wr w') => same_ints pa pb nb ka kb (l.map fun x : Nat => (x : Int)) w' ((la.bel hB).bel b) ((lb.bel hB).bel b) (by omega)
          clear hLc hGc ea eb la lb L1 L2 HEA hll hl
          go_upto_region 8 with fail
          refine cyc7_reg _ L G m' co co' i nb ka kb pa pb ⟨_, rfl, rfl, rfl, rfl⟩ ⟨_, rfl, rfl, rfl, rfl⟩ ⟨_, rfl, rfl, rfl, rfl⟩ ⟨_, rfl, rfl, rfl, rfl⟩ ⟨_, rfl, rfl, rfl, rfl⟩ ⟨_, rfl, rfl, rfl, rfl⟩ ⟨_, rfl, rfl, rfl, rfl⟩ ⟨_, rfl, rfl, rfl, rfl⟩ ⟨_, rfl, rfl, rfl, rfl⟩ ⟨_, rfl, rfl, rfl, rfl⟩ ⟨_, rfl, rfl, rfl, rfl⟩  rfl (by decide +kernel) rfl rfl rfl rfl hlt (fun w' h => (h.cell sL).trans kA) (fun w' h => (h.cell sG).trans kG) s1 ?_
          intro f w4 g4 hf
          have b4 := hB.trans g4
          clear g4 hB kA kG sL sG s1
          unfold actOf
          simp only [List.mapIdx_toArray, List.mapIdx_cons, List.mapIdx_nil, List.mem_cons, List.mem_nil_iff, Nat.reduceEqDiff, Nat.reduceAdd, or_false, or_true, if_true, if_false, hf]
          go_wp2
          go_roundw
          case rel => exact ⟨i + 1, by omega, (by first | rfl | simp), b4⟩
          case measure => first | (simp [intOf]; done) | (simp [intOf]; omega)
        · have b4 := G3.trans hB
          clear L1 L2 HEA hB G3
          go_wp2
          go_ret
          exact ⟨rfl, b4⟩
    · exact absurd hp hp'
  · go_wp2_with fail
    refine (h2 _ g1).mono ?_; intro r w2 hr2
    rcases hr2 with ⟨hp', _⟩ | ⟨_, rfl, g2⟩
    · exact absurd hp' hp
    · clear h2
      go_wp2_with fail
      refine (hwk _).mono ?_; rintro r w3 ⟨rfl, g3⟩
      have G3 := (g1.trans g2).trans g3
      clear g1 g2 g3 hp
      go_wp2
      go_loopw [7, 34] (fun _ a wr => a = .int .i64 0 ∧ wr = w3) (fun _ _ _ => 0)
      case atStart => exact ⟨rfl, rfl⟩
      case round =>
        obtain ⟨rfl, rfl⟩ := hrel
        go_wp2
        go_ret
        exact ⟨rfl, G3⟩
end Go.Proofs.Ytniljnidpcgjgaa

/- Law 7's wakes. -/
namespace Go.Proofs.Ytniljnidpcgjgaa
open Go.RowKit
set_option linter.unusedVariables false

theorem IL.lit (w : World) (l : List Int) (cs : Array Value) (t : TypeId) (N n : Nat) (h : N = w.heap.size) (hl : l.length = n) (hcs : cs = (l.map (Value.int .i64)).toArray) : IL (w.alloc (.cells cs t)) (some ⟨N, 0, none⟩) n l := by
  subst hcs
  refine ⟨hl, Or.inr ⟨N, 0, rfl, by rw [h]; simp, fun j z hz => ?_⟩⟩
  refine (World.cell?_alloc_at _ _ _ _ h).trans ?_
  rw [Nat.zero_add, List.getElem?_toArray, List.getElem?_map, hz]; rfl
theorem perm_three : Perm7 [1, 0, 2] := by
  refine ⟨fun x hx => ?_, by decide⟩
  simp at hx
  rcases hx with rfl | rfl | rfl <;> simp
theorem circs_three : Circs (pf [1, 0, 2]) 3 [[0, 1], [2]] := by
  refine ⟨[[0, 1]], 1, ⟨[[0, 1]], 2, ⟨[], 2, rfl, ⟨by decide, rfl, ?_⟩, Or.inl ⟨?_, rfl⟩⟩, ⟨by decide, rfl, ?_⟩, Or.inr ⟨⟨1, by decide, by decide⟩, rfl⟩⟩, ⟨by decide, rfl, ?_⟩, Or.inl ⟨?_, rfl⟩⟩
  · intro j h1 h2
    obtain rfl : j = 1 := by omega
    decide
  · intro j h; exact Nat.zero_le _
  · intro j h1 h2
    obtain rfl : j = 1 := by omega
    decide
  · intro j h1 h2; omega
  · intro j h
    obtain rfl : j = 0 := by omega
    exact Nat.le_refl _
set_option maxHeartbeats 2000000 in
theorem wakes7 (hD : DigSaid7) (hR : RevSaid7) (hC : CycSaid7) : WakesSaid7 := by
  intro w
  have d1 : digE 11 [2, 3, 2] = 0 := by decide
  have d2 : digL 11 [2, 3, 2] = [1, 2, 1] := by decide
  have r1 : revE [2, 3] = 0 := by decide
  have r2 : revI [2, 3] = [0, 3, 1, 4, 2, 5] := by decide
  go_enter Try.func14, Try.ntmps14
  go_wp2_with fail
  have a1 : IL (w.alloc (Obj.cells #[.int .i64 2, .int .i64 3, .int .i64 2] 3)) (some ⟨w.heap.size, 0, none⟩) 3 [2, 3, 2] := IL.lit _ _ _ _ _ _ rfl rfl rfl
  have h1 := hD 11 (some ⟨w.heap.size, 0, none⟩) 3 3 [2, 3, 2] _ a1 (by omega) (by omega)
  rw [d1, d2] at h1
  refine h1.mono ?_; rintro r w1 ⟨qd, md, cd, rfl, ld, g1⟩
  have em1 : md = 3 := ld.len.symm
  subst em1
  have b1 := ((Bel.refl w).alloc (Obj.cells #[.int .i64 2, .int .i64 3, .int .i64 2] 3)).trans g1
  clear a1 h1 g1 d1 d2 hD
  go_wp2_with fail
  have a2 : IL (w1.alloc (Obj.cells #[.int .i64 2, .int .i64 3] 3)) (some ⟨w1.heap.size, 0, none⟩) 2 [2, 3] := IL.lit _ _ _ _ _ _ rfl rfl rfl
  have h2 := hR (some ⟨w1.heap.size, 0, none⟩) 2 2 [2, 3] _ a2 (by omega)
  rw [r1, r2] at h2
  refine h2.mono ?_; rintro r w2 ⟨qr, mr, cr, rfl, lr, g2⟩
  have em2 : mr = 6 := lr.len.symm
  subst em2
  have c12 := ((Bel.refl w1).alloc (Obj.cells #[.int .i64 2, .int .i64 3] 3)).trans g2
  have b2 := b1.trans c12
  have ld2 := ld.bel c12
  clear a2 h2 g2 r1 r2 hR b1 c12 ld
  go_wp2_with fail
  have a3 : IL (w2.alloc (Obj.cells #[.int .i64 1, .int .i64 0, .int .i64 2] 3)) (some ⟨w2.heap.size, 0, none⟩) 3 [1, 0, 2] := IL.lit _ _ _ _ _ _ rfl rfl rfl
  have h3 := hC (some ⟨w2.heap.size, 0, none⟩) 3 3 [1, 0, 2] _ a3 (by omega)
  refine h3.mono ?_; intro r w3 hr3
  rcases hr3 with ⟨_, ls, po, mc, co, hcs, rfl, lc, g3⟩ | ⟨hp, _⟩
  · obtain rfl := hcs.unique circs_three
    have em3 : mc = 2 := lc.len.symm
    subst em3
    have c23 := ((Bel.refl w2).alloc (Obj.cells #[.int .i64 1, .int .i64 0, .int .i64 2] 3)).trans g3
    have b3 := b2.trans c23
    have ld3 := ld2.bel c23
    have lr3 := lr.bel c23
    clear a3 h3 g3 hC b2 c23 ld2 lr hcs
    rcases lc.form with h | ⟨G, rfl, hGl, hGc⟩
    · cases h
    obtain ⟨p0, n0, c0, e0, l0⟩ := hGc 0 _ rfl
    obtain ⟨p1, n1, c1, e1, l1⟩ := hGc 1 _ rfl
    have en0 : n0 = 2 := l0.len.symm
    have en1 : n1 = 1 := l1.len.symm
    subst en0
    subst en1
    clear lc hGc
    go_wp2_with fail
    refine (same_ints _ _ 3 _ _ [1, 2, 1] _ (ld3.bel ((Bel.refl _).alloc _)) (IL.lit w3 [1, 2, 1] _ _ _ _ rfl rfl rfl) (by omega)).mono ?_; rintro r w4 ⟨rfl, g4⟩
    have B4 := (((Bel.refl w3).alloc (Obj.cells #[.int .i64 1, .int .i64 2, .int .i64 1] 3)).trans g4)
    clear g4 ld3
    go_wp2_with fail
    refine (same_ints _ _ 6 _ _ [0, 3, 1, 4, 2, 5] _ ((lr3.bel B4).bel ((Bel.refl _).alloc _)) (IL.lit w4 [0, 3, 1, 4, 2, 5] _ _ _ _ rfl rfl rfl) (by omega)).mono ?_; rintro r w5 ⟨rfl, g5⟩
    have B5 := B4.trans (((Bel.refl w4).alloc (Obj.cells #[.int .i64 0, .int .i64 3, .int .i64 1, .int .i64 4, .int .i64 2, .int .i64 5] 3)).trans g5)
    have f0 := (B5.cell (p := ⟨G, 0, none⟩) hGl).trans e0
    have hG5 := Nat.lt_of_lt_of_le hGl B5.size
    clear g5 lr3 B4
    go_wp2_with fail
    refine (same_ints _ _ 2 _ _ [0, 1] _ ((l0.bel B5).bel ((Bel.refl _).alloc _)) (IL.lit w5 [0, 1] _ _ _ _ rfl rfl rfl) (by omega)).mono ?_; rintro r w6 ⟨rfl, g6⟩
    have B6 := B5.trans (((Bel.refl w5).alloc (Obj.cells #[.int .i64 0, .int .i64 1] 3)).trans g6)
    have f1 := (B6.cell (p := ⟨G, 1, none⟩) hGl).trans e1
    have hG6 := Nat.lt_of_lt_of_le hGl B6.size
    clear g6 B5 f0
    go_wp2_with fail
    refine (same_ints _ _ 1 _ _ [2] _ ((l1.bel B6).bel ((Bel.refl _).alloc _)) (IL.lit w6 [2] _ _ _ _ rfl rfl rfl) (by omega)).mono ?_; rintro r w7 ⟨rfl, g7⟩
    have B7 := b3.trans (B6.trans (((Bel.refl w6).alloc (Obj.cells #[.int .i64 2] 3)).trans g7))
    clear g7 B6 f1 b3 e0 e1 l0 l1
    go_wp2
    go_ret
    exact ⟨rfl, B7⟩
  · exact absurd perm_three hp
end Go.Proofs.Ytniljnidpcgjgaa

/- What is gathered and put back: by value. -/
namespace Go.Proofs.Ytniljnidpcgjgaa
open Go.RowKit
set_option linter.unusedVariables false

def bump (z : Int) : Int := IntKind.i64.wrap (z + 1)
theorem bump_ne {z : Int} (h : I64 z) : bump z ≠ z := by
  unfold bump I64 at *
  rw [IntKind.wrap_i64]
  omega
/-- is a place one of the gathered ones? -/
def Hit (o s : Int) (g : Nat) (i : Nat) : Prop := o ≤ (i : Int) ∧ ((i : Int) - o) % s = 0 ∧ ((i : Int) - o) / s < (g : Int)
theorem hit_at {zs : List Int} {o s c : Int} {g i : Nat} (h : strE zs.length o s c = 0) (hg : (g : Int) = c) (hi : i < zs.length) (hh : Hit o s g i) : ∃ k : Nat, ((i : Int) - o) / s = (k : Int) ∧ k < g ∧ (i : Int) = o + (k : Int) * s ∧ (gatL zs o s c)[k]? = zs[i]? := by
  obtain ⟨h1, h2, h3⟩ := hh
  obtain ⟨z0, _, z3, _⟩ := strE_zero h
  have e := Int.mul_ediv_add_emod ((i : Int) - o) s
  rw [h2, Int.add_zero, Int.mul_comm] at e
  have y0 : 0 ≤ ((i : Int) - o) / s := Int.ediv_nonneg (by omega) (by omega)
  obtain ⟨k, hk⟩ : ∃ k : Nat, ((i : Int) - o) / s = (k : Int) := ⟨(((i : Int) - o) / s).toNat, by omega⟩
  rw [hk] at e h3
  obtain ⟨k', z, e1, e2, e3, e4, _⟩ := gat_at h (show (k : Int) < c by omega)
  have : k' = i := by omega
  subst this
  exact ⟨k, hk, by omega, by omega, by rw [e4, e3]⟩
theorem gat_g {zs : List Int} {o s c : Int} {g : Nat} (h : strE zs.length o s c = 0) (hg : (g : Int) = c) : (gatL zs o s c).length = g := by
  rw [gat_len, if_pos h]; omega
/-- put back: nothing turns -/
theorem sca_back {zs : List Int} {o s c : Int} {g : Nat} (h : strE zs.length o s c = 0) (hg : (g : Int) = c) : scaL zs (gatL zs o s c) o s = zs := by
  have hl := gat_g h hg
  refine List.ext_getElem? fun i => ?_
  by_cases hi : i < zs.length
  · rw [sca_at hi]
    have hzi : zs[i]? = some (zs.getD i 0) := by rw [List.getD_eq_getElem?_getD, List.getElem?_eq_getElem hi]; rfl
    rw [hzi]
    unfold scaV
    split
    · rename_i hc
      rw [hl] at hc
      obtain ⟨k, e1, e2, _, e4⟩ := hit_at h hg hi hc.2
      rw [e1, Int.toNat_natCast, List.getD_eq_getElem?_getD, e4, hzi]; rfl
    · rfl
  · rw [List.getElem?_eq_none (by rw [sca_len]; omega), List.getElem?_eq_none (by omega)]
/-- each one more, put back: what stands at a place -/
theorem sca_bump {zs : List Int} {o s c : Int} {g i : Nat} (h : strE zs.length o s c = 0) (hg : (g : Int) = c) (hi : i < zs.length) : (Hit o s g i → scaV zs ((gatL zs o s c).map bump) o s i = bump (zs.getD i 0)) ∧ (¬ Hit o s g i → scaV zs ((gatL zs o s c).map bump) o s i = zs.getD i 0) := by
  have hl := gat_g h hg
  have hgl : strE zs.length o s (((gatL zs o s c).map bump).length : Nat) = 0 := by rw [List.length_map, hl, hg]; exact h
  have hzi : zs[i]? = some (zs.getD i 0) := by rw [List.getD_eq_getElem?_getD, List.getElem?_eq_getElem hi]; rfl
  constructor
  · intro hh
    unfold scaV
    rw [if_pos ⟨hgl, by rw [List.length_map, hl]; exact hh⟩]
    obtain ⟨k, e1, e2, _, e4⟩ := hit_at h hg hi hh
    rw [e1, Int.toNat_natCast, List.getD_eq_getElem?_getD, List.getElem?_map, e4, hzi]; rfl
  · intro hh
    unfold scaV
    rw [if_neg (fun hc => hh (by have := hc.2; rw [List.length_map, hl] at this; exact this))]
/-- how many places below j are hit -/
def Hits (o s : Int) (g t j : Nat) : Prop := t ≤ g ∧ (t = 0 ∨ o + ((t : Int) - 1) * s < (j : Int)) ∧ (t = g ∨ (j : Int) ≤ o + (t : Int) * s)
theorem hits_zero {o s : Int} {g : Nat} (ho : 0 ≤ o) : Hits o s g 0 0 := ⟨Nat.zero_le _, Or.inl rfl, Or.inr (by simp; exact ho)⟩
theorem mul_lt_of {a b s : Int} (hs : 1 ≤ s) (h : a * s < b * s) : a < b := by
  refine Classical.byContradiction fun hc => ?_
  have := Int.mul_le_mul_of_nonneg_right (show b ≤ a by omega) (show 0 ≤ s by omega)
  omega
theorem hits_step {o s : Int} {g t j : Nat} (hs : 1 ≤ s) (h : Hits o s g t j) : (Hit o s g j → t + 1 ≤ g ∧ Hits o s g (t + 1) (j + 1)) ∧ (¬ Hit o s g j → Hits o s g t (j + 1)) := by
  obtain ⟨h1, h2, h3⟩ := h
  have e1 : ((t + 1 : Nat) : Int) - 1 = (t : Int) := by omega
  have e2 : ((t + 1 : Nat) : Int) * s = (t : Int) * s + s := by rw [Int.natCast_add, Int.add_mul]; simp
  constructor
  · rintro ⟨a1, a2, a3⟩
    have e := Int.mul_ediv_add_emod ((j : Int) - o) s
    rw [a2, Int.add_zero, Int.mul_comm] at e
    obtain ⟨k, hk⟩ : ∃ k : Int, k = ((j : Int) - o) / s := ⟨_, rfl⟩
    rw [← hk] at e a3
    have k0 : 0 ≤ k := by rw [hk]; exact Int.ediv_nonneg (by omega) (by omega)
    -- k = t
    have kt : (t : Int) - 1 < k := by
      rcases h2 with h2 | h2
      · omega
      · exact mul_lt_of hs (by omega)
    have hk2 : k = (t : Int) := by
      rcases h3 with h3 | h3
      · omega
      · refine Classical.byContradiction fun hc => ?_
        have : ((t : Int) + 1) * s ≤ k * s := Int.mul_le_mul_of_nonneg_right (by omega) (by omega)
        rw [Int.add_mul, Int.one_mul] at this
        have : k * s ≤ (t : Int) * s := by omega
        omega
    subst hk2
    refine ⟨by omega, by omega, Or.inr (by rw [e1]; omega), Or.inr (by omega)⟩
  · intro hn
    refine ⟨h1, ?_, ?_⟩
    · rcases h2 with h2 | h2
      · exact Or.inl h2
      · exact Or.inr (by omega)
    · rcases h3 with h3 | h3
      · exact Or.inl h3
      · by_cases htg : t = g
        · exact Or.inl htg
        · refine Or.inr ?_
          refine Classical.byContradiction fun hc => hn ?_
          have ej : (j : Int) - o = (t : Int) * s := by omega
          have t0 : 0 ≤ (t : Int) * s := Int.mul_nonneg (by omega) (by omega)
          refine ⟨by omega, by rw [ej]; exact Int.mul_emod_left _ _, ?_⟩
          rw [ej, Int.mul_ediv_cancel _ (by omega)]
          omega
theorem hits_end {n o s : Int} {g t j : Nat} (h : strE n o s g = 0) (hj : (j : Int) = n) (hh : Hits o s g t j) : t = g := by
  obtain ⟨h1, h2, h3⟩ := hh
  rcases h3 with h3 | h3
  · exact h3
  · refine Classical.byContradiction fun hc => ?_
    obtain ⟨z0, z1, z2, z3⟩ := strE_zero h
    rcases z3 with z3 | z3
    · omega
    · have : (t : Int) * s ≤ ((g : Int) - 1) * s := Int.mul_le_mul_of_nonneg_right (by omega) (by omega)
      omega
end Go.Proofs.Ytniljnidpcgjgaa
