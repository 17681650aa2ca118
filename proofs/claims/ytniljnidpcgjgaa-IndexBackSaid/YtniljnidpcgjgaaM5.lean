/- Merged texts: DigC7, NumP7, NumC7, RevC7, CloneC7, TrnC7, CycS7, CycC7, Landed7, Arr, KeepA, Bulk7. -/
import Derived.Test.YtniljnidpcgjgaaM3
import Derived.Test.YtniljnidpcgjgaaM4
import Derived.Lib.SliceRun
import Derived.Test.YtniljnidpcgjgaaM1
import Derived.WalkKit
import Derived.ProofKit
import Derived.OpenShut
import Derived.Lib.SmallJoins
import Derived.Laws.IdiomArrays
import Derived.SizedLaws
import Derived.Test.YtniljnidpcgjgaaRows
/- The landed product of radices (by a division; no look at how many) and Digits. -/
namespace Go.Proofs.Ytniljnidpcgjgaa
open Go.RowKit
set_option linter.unusedVariables false

def okI (rs : List Int) : Bool := decide (prodI rs ≠ 0)
theorem prod_grow : ∀ (rs : List Int) (n : Int), 0 ≤ n → prodFrom n rs ≠ 0 → n * 2 ^ rs.length ≤ prodFrom n rs
  | [], n, _, _ => by show n * 2 ^ 0 ≤ n; omega
  | x :: rs, n, h0, h => by
    unfold prodFrom at h ⊢
    split
    · rw [if_pos (by assumption)] at h; exact absurd rfl h
    · rw [if_neg (by assumption)] at h
      split
      · rw [if_pos (by assumption)] at h; exact absurd rfl h
      · rw [if_neg (by assumption)] at h
        have hx : 0 ≤ n * x := Int.mul_nonneg h0 (by omega)
        have k := prod_grow rs (n * x) hx h
        have k1 : n * 2 ≤ n * x := Int.mul_le_mul_of_nonneg_left (by omega) h0
        have k2 : (0 : Int) ≤ 2 ^ rs.length := Int.pow_nonneg (by omega)
        have k3 := Int.mul_le_mul_of_nonneg_right k1 k2
        rw [List.length_cons, Int.pow_succ, Int.mul_comm (2 ^ rs.length) 2, ← Int.mul_assoc]
        exact Int.le_trans k3 k
theorem prodI_from (rs : List Int) : prodI rs = prodFrom 1 rs := by
  unfold prodI
  by_cases h : 30 < rs.length
  · rw [if_pos h]
    refine Classical.byContradiction fun hc => ?_
    have k := prod_grow rs 1 (by omega) (fun e => hc e.symm)
    have k1 := (prodFrom_le rs 1 (by omega) (by omega)).2
    have k2 : 2 ^ 31 ≤ 2 ^ rs.length := Nat.pow_le_pow_right (by omega) h
    have k3 : ((2 ^ rs.length : Nat) : Int) = (2 : Int) ^ rs.length := by simp
    rw [← k3] at k
    omega
  · rw [if_neg h]
set_option maxHeartbeats 1000000 in
theorem product_run (p : Option Addr) (n cap : Nat) (rs : List Int) (w : World) (hA : IL w p n rs) (hn : n ≤ 4611686018427387904) :
    Calls Try.prog 26 #[.slice p n cap] w fun r w' => r = .returned (.tuple #[.int .i64 (prodI rs), .bool (okI rs)]) ∧ w = w' := by
    have e : prodI rs = prodFrom 1 (rs.drop 0) := prodI_from rs
    have HA := Lib.hid hA
    have HK : Hid (okI rs = decide (prodI rs ≠ 0)) := Lib.hid rfl
    obtain ⟨K, hK⟩ : ∃ K, K = okI rs := ⟨_, rfl⟩
    obtain ⟨R, hR⟩ : ∃ R, R = prodI rs := ⟨_, rfl⟩
    rw [← hR, ← hK] at HK
    rw [← hK]
    rw [← hR] at e ⊢
    have hlen := hA.len
    clear hA hR hK
    go_enter Try.func26, Try.ntmps26
    go_wp2
    go_loop [4, 6, 9] (fun a _ b => ∃ (m : Int) (i : Nat), i ≤ n ∧ a = .int .i64 m ∧ b = .int .i64 (i : Int) ∧ 1 ≤ m ∧ m ≤ 1048576 ∧ R = prodFrom m (rs.drop i)) (fun _ _ b => n - (intOf b).toNat)
    case atStart => exact ⟨1, 0, by omega, rfl, rfl, by omega, by omega, e⟩
    case round =>
      obtain ⟨m, i, hi, rfl, rfl, m1, m2, hm⟩ := hrel
      clear e
      by_cases hlt : i < n
      · obtain ⟨A, oa, x, rfl, hAl, hx, hAc⟩ := HA.out.at hlt
        have hd : rs.drop i = x :: rs.drop (i + 1) := by
          rw [List.drop_eq_getElem_cons (by omega)]
          obtain ⟨h1, h2⟩ := List.getElem?_eq_some_iff.1 hx
          rw [h2]
        rw [hd] at hm
        unfold prodFrom at hm
        have t1 : (m == 0) = false := by rw [beq_eq_false_iff_ne]; omega
        obtain ⟨y, hy⟩ : ∃ y, y = 1048576 / m := ⟨_, rfl⟩
        have y0 : 0 ≤ y := by rw [hy]; exact Int.ediv_nonneg (by omega) (by omega)
        have y1 : y ≤ 1048576 := by rw [hy]; exact Int.ediv_le_self _ (by omega)
        have y2 : Int.tdiv 1048576 m = y := by rw [hy]; exact Int.tdiv_eq_ediv_of_nonneg (by omega)
        have y3 : x ≤ y ↔ x * m ≤ 1048576 := by rw [hy]; exact Int.le_ediv_iff_mul_le (by omega)
        rw [Int.mul_comm] at y3
        by_cases c0 : x < 2
        · rw [if_pos (Or.inl c0)] at hm
          subst hm
          have hKf : K = false := HK.out
          subst hKf
          clear hd hx HA HK hy y3
          go_wp2
          refine bodyPost_ret (by simp [results, go_sem]; try rfl) rfl ?_
          exact ⟨rfl, rfl⟩
        · by_cases c1 : y < x
          · have hm0 : R = 0 := by
              by_cases c2 : 1048576 < x
              · rw [if_pos (Or.inr c2)] at hm; exact hm
              · rw [if_neg (by omega), if_pos (by omega)] at hm; exact hm
            clear hm
            subst hm0
            have hKf : K = false := HK.out
            subst hKf
            clear hd hx HA HK hy y3
            go_wp2
            refine bodyPost_ret (by simp [results, go_sem]; try rfl) rfl ?_
            exact ⟨rfl, rfl⟩
          · have b2 : m * x ≤ 1048576 := y3.1 (by omega)
            have b0 : 1 * 2 ≤ m * x := Int.mul_le_mul m1 (by omega) (by omega) (by omega)
            rw [if_neg (by omega), if_neg (by omega)] at hm
            have HM := Lib.hid hm
            clear hd hx HA HK hm hy y3
            go_wp2
            go_round
            case rel => exact ⟨m * x, i + 1, by omega, rfl, (by first | rfl | simp), by omega, by omega, HM.out⟩
            case measure => simp [intOf]; omega
      · have hi2 : i = n := by omega
        subst hi2
        rw [List.drop_eq_nil_of_le (by omega)] at hm
        have hm2 : R = m := hm
        clear hm
        subst hm2
        have hKt : K = true := by rw [HK.out]; exact decide_eq_true (by omega)
        subst hKt
        clear HA HK hlen
        go_wp2
        refine bodyPost_ret (by simp [results, go_sem]; try rfl) rfl ?_
        exact ⟨rfl, rfl⟩
set_option maxHeartbeats 2000000 in
theorem dig_said : DigSaid7 := by
  intro k p n cap rs w hA hn ⟨hk63', hk63⟩
  have hP := product_run p n cap rs w hA (by omega)
  obtain ⟨hp0, hp1⟩ := prodI_le rs
  by_cases h0 : prodI rs = 0
  · have e1 : digE k rs = 2 := by unfold digE; rw [if_pos h0]
    have e2 : digL k rs = [] := by unfold digL; rw [e1]; rfl
    have e3 : okI rs = false := by unfold okI; rw [h0]; rfl
    rw [e1, e2]
    rw [h0, e3] at hP
    clear hA h0 hp0 hp1 e1 e2 e3
    go_enter Try.func10, Try.ntmps10
    go_wp2_with fail
    refine hP.mono ?_; rintro r w1 ⟨rfl, rfl⟩
    go_wp2
    refine bodyPost_ret (by simp [results, go_sem]; try rfl) rfl ?_
    exact ⟨none, 0, 0, rfl, IL.nil _ _, Bel.refl _⟩
  · have hmem := prodI_mem h0
    have e3 : okI rs = true := decide_eq_true h0
    obtain ⟨P, hPP⟩ : ∃ P, P = prodI rs := ⟨_, rfl⟩
    rw [e3] at hP
    clear e3
    rw [← hPP] at hP h0 hp0 hp1
    by_cases hb : k < 0 ∨ P ≤ k
    · have e1 : digE k rs = 3 := by unfold digE; rw [← hPP, if_neg h0, if_pos hb]
      have e2 : digL k rs = [] := by unfold digL; rw [e1]; rfl
      rw [e1, e2]
      by_cases hb1 : k < 0
      · clear hA h0 e1 e2 hPP hb hmem
        go_enter Try.func10, Try.ntmps10
        go_wp2_with fail
        refine hP.mono ?_; rintro r w1 ⟨rfl, rfl⟩
        go_wp2
        refine bodyPost_ret (by simp [results, go_sem]; try rfl) rfl ?_
        exact ⟨none, 0, 0, rfl, IL.nil _ _, Bel.refl _⟩
      · have hb2 : P ≤ k := by omega
        clear hA h0 e1 e2 hPP hb hmem
        go_enter Try.func10, Try.ntmps10
        go_wp2_with fail
        refine hP.mono ?_; rintro r w1 ⟨rfl, rfl⟩
        go_wp2
        refine bodyPost_ret (by simp [results, go_sem]; try rfl) rfl ?_
        exact ⟨none, 0, 0, rfl, IL.nil _ _, Bel.refl _⟩
    · have e1 : digE k rs = 0 := by unfold digE; rw [← hPP, if_neg h0, if_neg hb]
      have e2 : digL k rs = digs k rs := by unfold digL; rw [e1]; rfl
      rw [e1, e2]
      have hk0 : 0 ≤ k := by omega
      have hk1 : k < P := by omega
      have hn30 : n ≤ 30 := by rw [← hA.len]; exact hmem.1
      obtain ⟨D, hD⟩ : ∃ D, D = digs k rs := ⟨_, rfl⟩
      have hDl : D.length = n := by rw [hD, digs_len, hA.len]
      have hst : D.drop 0 = digs k (rs.drop 0) := by rw [hD]; rfl
      have hm := make_ints n (by omega)
      have sf := run_store_int Try.prog
      rw [← hD]
      have HA := Lib.hid hA
      have HM := Lib.hid hmem
      have HD := Lib.hid hDl
      clear hA h0 e1 e2 hPP hb hmem hD hDl
      go_enter Try.func10, Try.ntmps10
      go_wp2_with fail
      refine hP.mono ?_; rintro r w1 ⟨rfl, rfl⟩
      go_wp2
      obtain ⟨G, hG⟩ : ∃ G, G = w.heap.size := ⟨_, rfl⟩
      have W1 := made_ints w n 3 G hG
      obtain ⟨w1, hw1⟩ : ∃ w1, w1 = w.alloc (.cells (madeCells #[.int .i64 0] n) 3) := ⟨_, rfl⟩
      have B1 : Bel w w1 := by rw [hw1]; exact (Bel.refl w).alloc _
      have hG1 : w.heap.size ≤ G := by omega
      rw [← hw1] at W1 ⊢
      rw [← hG]
      clear hw1 hG hm
      go_loopw [0, 9, 10, 30] (fun a _ _ b wr => ∃ (x : Int) (j : Nat) (L : List Int), j ≤ n ∧ a = .int .i64 x ∧ b = .int .i64 (j : Int) ∧ 0 ≤ x ∧ x ≤ k ∧ D.drop j = digs x (rs.drop j) ∧ WL wr G 0 n L ∧ (∀ i, i < j → L[i]? = D[i]?) ∧ Bel w wr) (fun _ _ _ b _ => n - (intOf b).toNat)
      case atStart => exact ⟨k, 0, _, by omega, rfl, by simp, hk0, Int.le_refl _, hst, W1, fun i h => absurd h (Nat.not_lt_zero _), B1⟩
      case round =>
        obtain ⟨x, j, L, hj, rfl, rfl, x0, x1, hdr, hW, hL, hB⟩ := hrel
        clear hst W1 B1
        by_cases hlt : j < n
        · obtain ⟨A, oa, r, rfl, hAl, hr, hAc⟩ := HA.out.at hlt
          obtain ⟨r2, r3⟩ := HM.out.2 r (List.mem_of_getElem? hr)
          have hcj := (hB.cell (p := ⟨A, oa + j, none⟩) hAl).trans hAc
          rw [at_drop hr] at hdr
          have hdr : D.drop j = (x % r) :: digs (x / r) (rs.drop (j + 1)) := hdr
          obtain ⟨hg, hnx⟩ := drop_head hdr
          have HN := Lib.hid hnx
          have t1 : (r == 0) = false := by rw [beq_eq_false_iff_ne]; omega
          have y0 : 0 ≤ x / r := Int.ediv_nonneg x0 (by omega)
          have y1 : x / r ≤ x := Int.ediv_le_self _ x0
          obtain ⟨z0, hz0⟩ : ∃ z0, L[j]? = some z0 := ⟨_, List.getElem?_eq_getElem (by rw [hW.len]; exact hlt)⟩
          have q0 := hW.c j z0 hz0
          have q1 := hW.z j hlt
          rw [Nat.zero_add] at q0 q1
          obtain ⟨w7, hw7⟩ : ∃ w7, w7 = wr.setCell ⟨G, j, none⟩ (.int .i64 (x % r)) := ⟨_, rfl⟩
          have hW7 : WL w7 G 0 n (L.set j (x % r)) := by
            have k := hW.set hlt (x % r)
            rw [Nat.zero_add] at k
            rw [hw7]; exact k
          have hB7 : Bel w w7 := by rw [hw7]; exact hB.setCell (p := ⟨G, j, none⟩) hG1 _
          have hL7 : ∀ i, i < j + 1 → (L.set j (x % r))[i]? = D[i]? := by
            intro i hi
            by_cases e : i = j
            · subst e
              rw [List.getElem?_set_self (by rw [hW.len]; exact hlt), hg]
            · rw [List.getElem?_set_ne (fun k => e k.symm)]
              exact hL i (by omega)
          have HW7 := Lib.hid hw7
          have HL7 := Lib.hid hL7
          clear hw7 hr hAc hdr hg hnx hz0 hW hL hL7 HA HM HD
          go_wp2
          go_roundw
          case rel =>
            have e := HW7.out
            subst e
            exact ⟨x / r, j + 1, _, by omega, rfl, (by first | rfl | simp), y0, by omega, HN.out, hW7, HL7.out, hB7⟩
          case measure => first | (simp [intOf]; done) | (simp [intOf]; omega)
        · obtain rfl : j = n := by omega
          have hLT : L = D := by
            refine List.ext_getElem? fun i => ?_
            by_cases hi : i < j
            · exact hL i hi
            · rw [List.getElem?_eq_none (by rw [hW.len]; omega), List.getElem?_eq_none (by rw [HD.out]; omega)]
          subst hLT
          clear HA HD HM hL hdr
          go_wp2
          refine bodyPost_ret (by simp [results, go_sem]; try rfl) rfl ?_
          exact ⟨_, _, _, rfl, hW.il, hB⟩
end Go.Proofs.Ytniljnidpcgjgaa

/- Digits from the last one on, in plain numbers. -/
namespace Go.Proofs.Ytniljnidpcgjgaa
open Go.RowKit
set_option linter.unusedVariables false

theorem numFrom_bad : ∀ (ds rs : List Int) (k wt : Int), ds.length = rs.length → ¬ Vd ds rs → numFrom k wt ds rs = (0, 3)
  | [], [], _, _, _, h => absurd trivial h
  | [], _ :: _, _, _, h, _ => by simp at h
  | _ :: _, [], _, _, h, _ => by simp at h
  | d :: ds, r :: rs, k, wt, hl, h => by
    unfold numFrom
    by_cases c : d < 0 ∨ r ≤ d
    · rw [if_pos c]
    · rw [if_neg c]
      exact numFrom_bad ds rs _ _ (by simpa using hl) fun hv => h ⟨by omega, by omega, hv⟩
theorem Vd_drop : ∀ (j : Nat) (ds rs : List Int), Vd ds rs → Vd (ds.drop j) (rs.drop j)
  | 0, _, _, h => h
  | j + 1, [], [], h => trivial
  | j + 1, _ :: ds, _ :: rs, ⟨_, _, h⟩ => Vd_drop j ds rs h
theorem Vd_at {ds rs : List Int} {j : Nat} {d r : Int} (hd : ds[j]? = some d) (hr : rs[j]? = some r) : Vd (ds.drop j) (rs.drop j) ↔ 0 ≤ d ∧ d < r ∧ Vd (ds.drop (j + 1)) (rs.drop (j + 1)) := by
  rw [at_drop hd, at_drop hr]; exact Iff.rfl
theorem vl_at {ds rs : List Int} {j : Nat} {d r : Int} (hd : ds[j]? = some d) (hr : rs[j]? = some r) : vl (ds.drop j) (rs.drop j) = d + r * vl (ds.drop (j + 1)) (rs.drop (j + 1)) := by
  rw [at_drop hd, at_drop hr]; rfl
theorem prd_drop {rs : List Int} (h : AllR rs) (j : Nat) : prd (rs.drop j) ≤ prd rs := by
  have e := prd_append (rs.take j) (rs.drop j)
  rw [List.take_append_drop] at e
  have h1 := prd_pos (rs := rs.take j) fun x hx => h x (List.mem_of_mem_take hx)
  have h2 := prd_pos (rs := rs.drop j) fun x hx => h x (List.mem_of_mem_drop hx)
  have := Int.mul_le_mul h1 (Int.le_refl (prd (rs.drop j))) (by omega) (by omega)
  omega
end Go.Proofs.Ytniljnidpcgjgaa

/- The landed Number, from the first digit on. -/
namespace Go.Proofs.Ytniljnidpcgjgaa
open Go.RowKit
set_option linter.unusedVariables false

set_option maxHeartbeats 4000000 in
theorem num_said : NumSaid7 := by
  intro p q n m ca cb ds rs w hA hB hn hm
  have hP := product_run q m cb rs w hB (by omega)
  by_cases h0 : prodI rs = 0
  · have e1 : numR ds rs = (0, 2) := by unfold numR; rw [if_pos h0]
    have e3 : okI rs = false := by unfold okI; rw [h0]; rfl
    rw [e1]
    rw [h0, e3] at hP
    clear hA hB h0 e1 e3
    go_enter Try.func12, Try.ntmps12
    go_wp2_with fail
    refine hP.mono ?_; rintro r w1 ⟨rfl, rfl⟩
    go_wp2
    refine bodyPost_ret (by simp [results, go_sem]; try rfl) rfl ?_
    exact ⟨rfl, Bel.refl _⟩
  · have e3 : okI rs = true := decide_eq_true h0
    obtain ⟨P, hPP⟩ : ∃ P, P = prodI rs := ⟨_, rfl⟩
    rw [e3, ← hPP] at hP
    clear e3
    by_cases hl : n = m
    · have hst : numR ds rs = numFrom 0 1 (ds.drop 0) (rs.drop 0) := by unfold numR; rw [if_neg h0, if_neg (by rw [hA.len, hB.len]; omega)]; rfl
      have hpr : prodFrom 1 (rs.drop 0) ≠ 0 := by
        have h := h0
        rw [prodI_from] at h
        exact h
      have hn30 : m ≤ 30 := by rw [← hB.len]; exact (prodI_mem h0).1
      obtain ⟨R, hR⟩ : ∃ R, R = numR ds rs := ⟨_, rfl⟩
      rw [← hR] at hst ⊢
      subst hl
      have HA := Lib.hid hA
      have HB := Lib.hid hB
      clear hA hB h0 hPP hR
      go_enter Try.func12, Try.ntmps12
      go_wp2_with fail
      refine hP.mono ?_; rintro r w1 ⟨rfl, rfl⟩
      clear hP
      go_wp2
      go_loopw [8, 9, 10, 11, 26] (fun a b _ _ c wr => ∃ (k wt : Int) (j : Nat), j ≤ n ∧ a = .int .i64 k ∧ b = .int .i64 wt ∧ c = .int .i64 (j : Int) ∧ 0 ≤ k ∧ k < wt ∧ 1 ≤ wt ∧ wt ≤ 1048576 ∧ Hid (prodFrom wt (rs.drop j) ≠ 0 ∧ R = numFrom k wt (ds.drop j) (rs.drop j)) ∧ wr = w) (fun _ _ _ _ c _ => n - (intOf c).toNat)
      case atStart => exact ⟨0, 1, 0, by omega, rfl, rfl, (by first | rfl | simp), by omega, by omega, by omega, by omega, Lib.hid ⟨hpr, hst⟩, rfl⟩
      case round =>
        obtain ⟨k, wt, j, hj, rfl, rfl, rfl, k0, k1, w1, w2, HH, rfl⟩ := hrel
        clear hst hpr
        by_cases hlt : j < n
        · obtain ⟨A, oa, d, rfl, hAl, hd, kA⟩ := HA.out.at hlt
          obtain ⟨B, ob, r, rfl, hBl, hr, kB⟩ := HB.out.at hlt
          obtain ⟨hpj, hrj⟩ := HH.out
          rw [at_drop hr] at hpj hrj
          rw [at_drop hd] at hrj
          unfold numFrom at hrj
          unfold prodFrom at hpj
          by_cases c1 : d < 0
          · rw [if_pos (Or.inl c1)] at hrj
            subst hrj
            clear hpj hd hr HA HB HH
            go_wp2
            refine bodyPost_ret (by simp [results, go_sem]; try rfl) rfl ?_
            exact ⟨rfl, Bel.refl _⟩
          · by_cases c2 : r ≤ d
            · rw [if_pos (Or.inr c2)] at hrj
              subst hrj
              clear hpj hd hr HA HB HH
              go_wp2
              refine bodyPost_ret (by simp [results, go_sem]; try rfl) rfl ?_
              exact ⟨rfl, Bel.refl _⟩
            · rw [if_neg (by omega)] at hrj
              have hpj2 : ¬ 1048576 < wt * r ∧ prodFrom (wt * r) (rs.drop (j + 1)) ≠ 0 := by
                split at hpj
                · exact absurd rfl hpj
                · split at hpj
                  · exact absurd rfl hpj
                  · exact ⟨by assumption, hpj⟩
              obtain ⟨a1, a2, a3, a4⟩ := num_bounds (d := d) (r := r) w1 k0 k1 (by omega) (by omega) (by omega)
              have a5 : wt * r ≤ 1048576 := by omega
              rw [Int.mul_comm wt d] at a1 a2 a4 hrj
              have a6 : k + d * wt < 1048576 := by omega
              have HN : Hid (prodFrom (wt * r) (rs.drop (j + 1)) ≠ 0 ∧ R = numFrom (k + d * wt) (wt * r) (ds.drop (j + 1)) (rs.drop (j + 1))) := Lib.hid ⟨hpj2.2, hrj⟩
              clear hpj hpj2 hrj hd hr HA HB HH
              go_wp2
              go_roundw
              case rel => exact ⟨k + d * wt, wt * r, j + 1, by omega, (by first | rfl | simp), (by first | rfl | simp), (by first | rfl | simp), by omega, by omega, a3, a5, HN, (by first | rfl | trivial)⟩
              case measure => first | (simp [intOf]; done) | (simp [intOf]; omega)
        · obtain rfl : j = n := by omega
          have hl2 : ds.drop j = [] := List.drop_eq_nil_of_le (by have := HA.out.len; omega)
          have hrj := HH.out.2
          rw [hl2] at hrj
          have hrj2 : R = (k, 0) := hrj
          clear hrj HA HB HH hl2
          subst hrj2
          go_wp2
          refine bodyPost_ret (by simp [results, go_sem]; try rfl) rfl ?_
          exact ⟨rfl, Bel.refl _⟩
    · have e1 : numR ds rs = (0, 4) := by unfold numR; rw [if_neg h0, if_pos (by rw [hA.len, hB.len]; exact hl)]
      rw [e1]
      have t1 : ((n : Int) != (m : Int)) = true := by rw [bne_iff_ne]; omega
      clear hA hB h0 e1 hPP
      go_enter Try.func12, Try.ntmps12
      go_wp2_with fail
      refine hP.mono ?_; rintro r w1 ⟨rfl, rfl⟩
      go_wp2
      refine bodyPost_ret (by simp [results, go_sem]; try rfl) rfl ?_
      exact ⟨rfl, Bel.refl _⟩
end Go.Proofs.Ytniljnidpcgjgaa

/- The landed Reverse: each number turned about, digit by digit. -/
namespace Go.Proofs.Ytniljnidpcgjgaa
open Go.RowKit
set_option linter.unusedVariables false

theorem Vd_take : ∀ (j : Nat) (ds rs : List Int), Vd ds rs → Vd (ds.take j) (rs.take j)
  | 0, _, _, h => trivial
  | j + 1, [], [], h => trivial
  | j + 1, _ :: ds, _ :: rs, ⟨h1, h2, h⟩ => ⟨h1, h2, Vd_take j ds rs h⟩
theorem prd_take {rs : List Int} (h : AllR rs) (j : Nat) : prd (rs.take j) ≤ prd rs := by
  have e := prd_append (rs.take j) (rs.drop j)
  rw [List.take_append_drop] at e
  have h1 := prd_pos (rs := rs.take j) fun x hx => h x (List.mem_of_mem_take hx)
  have h2 := prd_pos (rs := rs.drop j) fun x hx => h x (List.mem_of_mem_drop hx)
  have := Int.mul_le_mul (Int.le_refl (prd (rs.take j))) h2 (by omega) (by omega)
  omega
theorem take_rev {l : List Int} {j : Nat} {x : Int} (h : l[j]? = some x) : (l.take (j + 1)).reverse = x :: (l.take j).reverse := by
  rw [List.take_add_one, h]; simp
/-- what the digits so far make, the other way round -/
def hv7 (ds rs : List Int) (j : Nat) : Int := vl (ds.take j).reverse (rs.take j).reverse
theorem hv7_next {ds rs : List Int} {j : Nat} {d r : Int} (hd : ds[j]? = some d) (hr : rs[j]? = some r) : hv7 ds rs (j + 1) = d + r * hv7 ds rs j := by
  unfold hv7
  rw [take_rev hd, take_rev hr]; rfl
theorem hv7_bound {ds rs : List Int} (h : Vd ds rs) (hA : AllR rs) (j : Nat) : 0 ≤ hv7 ds rs j ∧ hv7 ds rs j < prd rs := by
  have h1 := vl_bound (Vd_reverse (Vd_take j _ _ h))
  rw [prd_reverse] at h1
  have h2 := prd_take hA j
  unfold hv7
  omega
theorem hv7_all {rs : List Int} {k : Nat} (h : prodI rs ≠ 0) (hk : (k : Int) < prodI rs) : hv7 (digs (k : Int) rs) rs rs.length = revV rs k := by
  unfold hv7
  rw [List.take_of_length_le (by rw [digs_len]; exact Nat.le_refl _), List.take_of_length_le (Nat.le_refl _)]
  exact (rev_val h hk).1.symm
set_option maxHeartbeats 4000000 in
theorem turned_said (k : Nat) (p : Option Addr) (n cap : Nat) (rs : List Int) (w : World) (hA : IL w p n rs) (h0 : prodI rs ≠ 0) (hk : (k : Int) < prodI rs) :
    Calls Try.prog 27 #[.int .i64 (k : Int), .slice p n cap] w fun r w' => r = .returned (.int .i64 (revV rs k)) ∧ w = w' := by
  obtain ⟨hp0, hp1⟩ := prodI_le rs
  have hn30 : n ≤ 30 := by rw [← hA.len]; exact (prodI_mem h0).1
  obtain ⟨v1, v2, v3, v4⟩ := prodI_val h0
  have g1 : Vd (digs (k : Int) rs) rs := (vl_digs rs k v2 (by omega) (by omega)).1
  have g2 : hv7 (digs (k : Int) rs) rs n = revV rs k := by rw [← hA.len]; exact hv7_all h0 (by omega)
  rw [← g2]
  obtain ⟨D, hD⟩ : ∃ D, D = digs (k : Int) rs := ⟨_, rfl⟩
  have hst : D.drop 0 = digs (k : Int) (rs.drop 0) := by rw [hD]; rfl
  rw [← hD] at g1 ⊢
  have hbd := fun j => hv7_bound g1 v2 j
  have h00 : hv7 D rs 0 = 0 := rfl
  obtain ⟨T, hT⟩ : ∃ T, T = hv7 D rs n := ⟨_, rfl⟩
  rw [← hT]
  have hk2 : (k : Int) ≤ 1048576 := by omega
  have HA := Lib.hid hA
  have HV := Lib.hid (And.intro v2 v4)
  have HST := Lib.hid (And.intro hst h00)
  have HBD := Lib.hid hbd
  have HTK := Lib.hid hT
  have hp4 := v4
  clear hD hst hbd g1 h00 hT g2 hA h0 hk hp0 hp1 v1 v2 v3 v4
  go_enter Try.func27, Try.ntmps27
  go_wp2
  go_loopw [0, 5, 7, 10] (fun b a _ c wq => ∃ (x y : Int) (j : Nat), j ≤ n ∧ a = .int .i64 x ∧ b = .int .i64 y ∧ c = .int .i64 (j : Int) ∧ 0 ≤ y ∧ y ≤ 1048576 ∧ Hid (x = hv7 D rs j ∧ D.drop j = digs y (rs.drop j)) ∧ wq = w) (fun _ _ _ c _ => n - (intOf c).toNat)
  case atStart => exact ⟨0, (k : Int), 0, by omega, rfl, rfl, (by first | rfl | simp), by omega, by omega, Lib.hid ⟨HST.out.2.symm, HST.out.1⟩, rfl⟩
  case round =>
    obtain ⟨x, y, j, hj, rfl, rfl, rfl, y0, y1, HH, rfl⟩ := hrel
    by_cases hlt2 : j < n
    · obtain ⟨A, oa, r, rfl, hAl, hr, kA⟩ := HA.out.at hlt2
      obtain ⟨r2, r3⟩ := HV.out.1 r (List.mem_of_getElem? hr)
      obtain ⟨x1, hdr⟩ := HH.out
      rw [at_drop hr] at hdr
      have hdr : D.drop j = (y % r) :: digs (y / r) (rs.drop (j + 1)) := hdr
      obtain ⟨hg, hnxt⟩ := drop_head hdr
      have hvn := hv7_next hg hr
      have hb0 := HBD.out j
      have hb1 := HBD.out (j + 1)
      rw [hvn, ← x1] at hb1
      rw [← x1] at hvn hb0
      have t1 : (r == 0) = false := by rw [beq_eq_false_iff_ne]; omega
      have z0 : 0 ≤ y / r := Int.ediv_nonneg y0 (by omega)
      have z1 : y / r ≤ y := Int.ediv_le_self _ y0
      have z2 : 0 ≤ y % r := Int.emod_nonneg _ (by omega)
      have b0 : 0 ≤ r * x := Int.mul_nonneg (by omega) (by omega)
      rw [Int.mul_comm r x] at hvn hb1 b0
      have b1 : x * r ≤ 1048576 := by omega
      have b2 : x * r + y % r ≤ 1048576 := by omega
      have HN : Hid (x * r + y % r = hv7 D rs (j + 1) ∧ D.drop (j + 1) = digs (y / r) (rs.drop (j + 1))) := Lib.hid ⟨by rw [hvn, Int.add_comm], hnxt⟩
      clear hr x1 hdr hg hnxt hvn hb0 hb1 HA HV HST HBD HTK HH
      go_wp2
      go_roundw
      case rel => exact ⟨x * r + y % r, y / r, j + 1, by omega, (by first | rfl | simp), (by first | rfl | simp), (by first | rfl | simp), z0, by omega, HN, (by first | rfl | trivial)⟩
      case measure => first | (simp [intOf]; done) | (simp [intOf]; omega)
    · obtain rfl : j = n := by omega
      have x1 := HH.out.1
      rw [← HTK.out] at x1
      subst x1
      clear HA HV HST HBD HTK HH
      go_wp2
      go_ret
      exact ⟨rfl, rfl⟩
set_option maxHeartbeats 4000000 in
theorem rev_said : RevSaid7 := by
  intro p n cap rs w hA hn
  have hP := product_run p n cap rs w hA (by omega)
  obtain ⟨hp0, hp1⟩ := prodI_le rs
  by_cases h0 : prodI rs = 0
  · have e1 : revE rs = 2 := by unfold revE; rw [if_pos h0]
    have e2 : revI rs = [] := by unfold revI; rw [if_pos h0]
    have e3 : okI rs = false := by unfold okI; rw [h0]; rfl
    rw [e1, e2]
    rw [h0, e3] at hP
    clear hA h0 hp0 hp1 e1 e2 e3
    go_enter Try.func17, Try.ntmps17
    go_wp2_with fail
    refine hP.mono ?_; rintro r w1 ⟨rfl, rfl⟩
    go_wp2
    refine bodyPost_ret (by simp [results, go_sem]; try rfl) rfl ?_
    exact ⟨none, 0, 0, rfl, IL.nil _ _, Bel.refl _⟩
  · have e1 : revE rs = 0 := by unfold revE; rw [if_neg h0]
    have e3 : okI rs = true := decide_eq_true h0
    have hnx : ∀ k, k < (prodI rs).toNat → (revI rs)[k]? = some (revV rs k) := fun k h => rev_next h h0
    have hll := revI_len h0
    have htd : ∀ (k : Nat) (w' : World), k < (prodI rs).toNat → Bel w w' → Calls Try.prog 27 #[.int .i64 (k : Int), .slice p n cap] w' fun r w'' => r = .returned (.int .i64 (revV rs k)) ∧ w' = w'' := fun k w' hk g => turned_said k p n cap rs w' (hA.bel g) h0 (by omega)
    rw [e1]
    obtain ⟨P, hPP⟩ : ∃ P, P = (prodI rs).toNat := ⟨_, rfl⟩
    have hPi : prodI rs = (P : Int) := by omega
    rw [hPi, e3] at hP
    rw [← hPP] at hnx htd hll
    have hP1 : P ≤ 1048576 := by omega
    have hm := make_ints P (by omega)
    have sf := run_store_int Try.prog
    obtain ⟨T, hT⟩ : ∃ T, T = revI rs := ⟨_, rfl⟩
    rw [← hT] at hnx hll ⊢
    have HX := Lib.hid hnx
    have HL := Lib.hid hll
    have HTD := Lib.hid htd
    clear hA h0 hp0 hp1 e1 hPP hPi hnx hll hT htd e3
    go_enter Try.func17, Try.ntmps17
    go_wp2_with fail
    refine hP.mono ?_; rintro r w1 ⟨rfl, rfl⟩
    go_wp2
    obtain ⟨G, hG⟩ : ∃ G, G = w.heap.size := ⟨_, rfl⟩
    have W1 := made_ints w P 3 G hG
    obtain ⟨w1, hw1⟩ : ∃ w1, w1 = w.alloc (.cells (madeCells #[.int .i64 0] P) 3) := ⟨_, rfl⟩
    have B1 : Bel w w1 := by rw [hw1]; exact (Bel.refl w).alloc _
    have hG1 : w.heap.size ≤ G := by omega
    rw [← hw1] at W1 ⊢
    rw [← hG]
    clear hw1 hG hm hP
    go_loopw [7, 19] (fun _ b wr => ∃ (k : Nat) (L : List Int), k ≤ P ∧ b = .int .i64 (k : Int) ∧ WL wr G 0 P L ∧ (∀ i, i < k → L[i]? = T[i]?) ∧ Bel w wr) (fun _ b _ => P - (intOf b).toNat)
    case atStart => exact ⟨0, _, by omega, (by first | rfl | simp), W1, fun i h => absurd h (Nat.not_lt_zero _), B1⟩
    case round =>
      obtain ⟨k, L, hk, rfl, hW, hL, hB⟩ := hrel
      clear W1 B1
      by_cases hlt : k < P
      · have hTk := HX.out k hlt
        have hC := HTD.out k wr hlt hB
        obtain ⟨x, hx⟩ : ∃ x, x = revV rs k := ⟨_, rfl⟩
        rw [← hx] at hTk hC
        obtain ⟨z0, hz0⟩ : ∃ z0, L[k]? = some z0 := ⟨_, List.getElem?_eq_getElem (by rw [hW.len]; exact hlt)⟩
        have q0 := hW.c k z0 hz0
        have q1 := hW.z k hlt
        rw [Nat.zero_add] at q0 q1
        obtain ⟨w7, hw7⟩ : ∃ w7, w7 = wr.setCell ⟨G, k, none⟩ (.int .i64 x) := ⟨_, rfl⟩
        have hW7 : WL w7 G 0 P (L.set k x) := by
          have h := hW.set hlt x
          rw [Nat.zero_add] at h
          rw [hw7]; exact h
        have hB7 : Bel w w7 := by rw [hw7]; exact hB.setCell (p := ⟨G, k, none⟩) hG1 _
        have hL7 : ∀ i, i < k + 1 → (L.set k x)[i]? = T[i]? := by
          intro i hi
          by_cases e : i = k
          · subst e
            rw [List.getElem?_set_self (by rw [hW.len]; exact hlt), hTk]
          · rw [List.getElem?_set_ne (fun k => e k.symm)]
            exact hL i (by omega)
        have HW7 := Lib.hid hw7
        have HL7 := Lib.hid hL7
        clear hw7 hTk hx hz0 hW hL hL7 HX HL HTD
        go_wp2_with fail
        refine hC.mono ?_; rintro r w2 ⟨rfl, rfl⟩
        go_wp2
        go_roundw
        case rel =>
          have e := HW7.out
          subst e
          exact ⟨k + 1, _, by omega, (by first | rfl | simp), hW7, HL7.out, hB7⟩
        case measure => first | (simp [intOf]; done) | (simp [intOf]; omega)
      · obtain rfl : k = P := by omega
        have hLT : L = T := by
          refine List.ext_getElem? fun i => ?_
          by_cases hi : i < k
          · exact hL i hi
          · rw [List.getElem?_eq_none (by rw [hW.len]; omega), List.getElem?_eq_none (by rw [HL.out]; omega)]
        subst hLT
        clear HX HL HTD hL
        go_wp2
        refine bodyPost_ret (by simp [results, go_sem]; try rfl) rfl ?_
        exact ⟨_, _, _, rfl, hW.il, hB⟩
end Go.Proofs.Ytniljnidpcgjgaa

/- slices.Clone of ints: append onto an empty list. -/
namespace Go.Proofs.Ytniljnidpcgjgaa
open Go.RowKit
set_option linter.unusedVariables false

theorem empty_own (w : World) (t : TypeId) : (w.alloc (.cells #[] t)).ownsRow w.heap.size t 1 (.slice (some ⟨w.heap.size, 0, none⟩) 0 0) 0 [] :=
  ⟨rfl, Or.inr ⟨w.heap.size, 0, #[], rfl, Nat.le_refl _, (by show (w.heap.push _)[w.heap.size]? = _; simp), Nat.le_refl _, by unfold maxLen; omega, rfl, rfl⟩⟩
set_option maxHeartbeats 1000000 in
theorem clone_run (G off n cap : Nat) (zs : List Int) (w : World) (hW : WL w G off n zs) (hn : n * 8 ≤ 140737488355328) (hn0 : 0 < n) :
    Calls Try.prog 29 #[.slice (some ⟨G, off, none⟩) n cap] w fun r w' => ∃ q c, r = .returned (.slice q n c) ∧ GL w w' q n zs ∧ Bel w w' := by
  have qT : ∀ (w : World) (a : Option Addr) (n c n' c' : Nat), (binOp .eql 22 (.slice a n c) (.slice none n' c')).run Try.prog w = .ok (.bool a.isNone) w := fun w a n c n' c' => Lib.run_eql_slice_nil w _ _ a n c n' c' Try.underlying22
  obtain ⟨i0, hi, hz0, hz1, hz2⟩ := info_parts int_info
  have hlen := hW.len
  have hB1 := (Bel.refl w).alloc (.cells #[] 3)
  have hW1 := Lib.hid (hW.bel hB1)
  have HW := Lib.hid hW
  clear hW
  go_enter Try.func29, Try.ntmps29
  go_wp2_with (at_builtin; refine wpList_append_own _ rfl _ _ 22 rfl w.heap.size 3 i0 (.int .i64 0) 1 8 Try.underlying22 hi hz0 hz1 hz2 rfl (by decide) _ _ _ rfl (empty_own w 3) ⟨G, off, none⟩ n cap (zs.map (Value.int .i64)) rfl ?c0 ?c1 ?c2 ?c3 ?c4 ?c5 ?_)
  case c0 => rw [List.length_map, hlen, Nat.mul_one]
  case c1 =>
    intro j u hj
    rw [List.getElem?_map] at hj
    cases hz : zs[j]? with
    | none => rw [hz] at hj; cases hj
    | some z =>
      rw [hz] at hj
      obtain rfl := Option.some.inj hj
      rw [Go.WideShapes.add_plain]
      exact hW1.out.c j z hz
  case c2 =>
    intro u hu
    obtain ⟨z, _, rfl⟩ := List.mem_map.1 hu
    rfl
  case c3 => unfold maxLen; omega
  case c4 => omega
  case c5 => exact hB1.size
  intro v' w' hown hgrow _
  have hb : Bel w w' := hB1.grown hgrow (by intro k hk; simp [Value.ownBlock] at hk; omega)
  try simp only [Nat.zero_add, List.nil_append] at hown
  obtain ⟨G2, c, rfl, hG, hW2⟩ := WL.own hlen hn0 hown
  clear hown hgrow
  go_wp2
  go_ret
  exact ⟨_, _, rfl, ⟨hlen, Or.inr ⟨G2, 0, rfl, hG, hW2⟩⟩, hb⟩
end Go.Proofs.Ytniljnidpcgjgaa

/- The landed Transpose, by a clone. -/
namespace Go.Proofs.Ytniljnidpcgjgaa
open Go.RowKit
set_option linter.unusedVariables false

theorem trn_div {n R C : Nat} (hR : 1 ≤ R) : R * C = n ↔ ((n : Int) % (R : Int) = 0 ∧ (n : Int) / (R : Int) = (C : Int)) := by
  have e := Nat.div_add_mod n R
  rw [← Int.natCast_emod, ← Int.natCast_ediv]
  constructor
  · intro h
    subst h
    rw [Nat.mul_mod_right, Nat.mul_div_cancel_left _ (by omega)]
    exact ⟨rfl, rfl⟩
  · rintro ⟨h1, h2⟩
    have h1 : n % R = 0 := by omega
    have h2 : n / R = C := by omega
    rw [h1, h2] at e
    exact e
set_option maxHeartbeats 4000000 in
theorem trn_said : TrnSaid7 := by
  intro G off n cap zs r c w hW hn hr hc
  obtain ⟨hr0, hr1⟩ := hr
  obtain ⟨hc0, hc1⟩ := hc
  have hlen := hW.len
  by_cases hb : r < 1 ∨ c < 1
  · have e1 : trE n r c = 2 := by unfold trE; rw [if_pos hb]
    have e2 : trL zs r c = zs := by unfold trL; rw [hlen, e1]; rfl
    rw [e1, e2]
    by_cases b1 : r < 1
    · clear hb e1 e2
      go_enter Try.func20, Try.ntmps20
      go_wp2
      go_ret
      exact ⟨rfl, Touch.refl _ _, hW⟩
    · have b2 : c < 1 := by omega
      clear hb e1 e2
      go_enter Try.func20, Try.ntmps20
      go_wp2
      go_ret
      exact ⟨rfl, Touch.refl _ _, hW⟩
  · obtain ⟨R, rfl⟩ : ∃ R : Nat, r = (R : Int) := ⟨r.toNat, by omega⟩
    obtain ⟨C, rfl⟩ : ∃ C : Nat, c = (C : Int) := ⟨c.toNat, by omega⟩
    have hR1 : 1 ≤ R := by omega
    have hC1 : 1 ≤ C := by omega
    have hdv : R * C = n ↔ ((n : Int) % (C : Int) = 0 ∧ (n : Int) / (C : Int) = (R : Int)) := by rw [Nat.mul_comm]; exact trn_div hC1
    have t1 : ((C : Int) == 0) = false := by rw [beq_eq_false_iff_ne]; omega
    obtain ⟨u, hu⟩ : ∃ u, u = (n : Int) % (C : Int) := ⟨_, rfl⟩
    obtain ⟨v, hv⟩ : ∃ v, v = (n : Int) / (C : Int) := ⟨_, rfl⟩
    rw [← hu, ← hv] at hdv
    have u0 : 0 ≤ u := by rw [hu]; exact Int.emod_nonneg _ (by omega)
    have v0 : 0 ≤ v := by rw [hv]; exact Int.ediv_nonneg (by omega) (by omega)
    have v1 : v ≤ n := by rw [hv]; exact Int.ediv_le_self _ (by omega)
    have u2 : (n : Int) % (C : Int) = u := hu.symm
    have v2 : (n : Int) / (C : Int) = v := hv.symm
    clear hu hv
    by_cases h0 : R * C = n
    · have e1 : trE n R C = 0 := by unfold trE; rw [if_neg hb, if_pos (by rw [← h0, Int.natCast_mul])]
      have e2 : trL zs R C = (List.range n).map (trV zs R C) := by unfold trL; rw [hlen, e1, if_pos rfl]; rfl
      rw [e1, e2]
      obtain ⟨d1, d2⟩ := hdv.1 h0
      subst d1 d2
      clear hdv
      have g1 : R * 1 ≤ R * C := Nat.mul_le_mul_left _ hC1
      have g2 : 1 * C ≤ R * C := Nat.mul_le_mul_right _ hR1
      have hRn : R ≤ n := by omega
      have hCn : C ≤ n := by omega
      obtain ⟨T, hT⟩ : ∃ T, T = (List.range n).map (trV zs R C) := ⟨_, rfl⟩
      have hTa : ∀ i, i < n → T[i]? = some (trV zs R C i) := fun i hi => by rw [hT, List.getElem?_map, List.getElem?_range hi]; rfl
      have hTl : T.length = n := by rw [hT, List.length_map, List.length_range]
      have sf := run_store_int Try.prog
      rw [← hT]
      have HTA := Lib.hid hTa
      have HTL := Lib.hid hTl
      have HN := Lib.hid h0
      clear e1 e2 hb hT hTa hTl hr0 hc0 h0 g1 g2
      go_enter Try.func20, Try.ntmps20
      have hcl := clone_run G off n cap zs w hW (by omega) (by omega)
      go_wp2_with fail
      refine hcl.mono ?_; rintro e w1 ⟨q, cq, rfl, hGL, hB1⟩
      rcases hGL.form with h | ⟨G2, off2, rfl, hG2, hW2⟩
      · omega
      have hne : G2 ≠ G := by have := hW.lt; omega
      have hT1 : Touch G w w1 := hB1.touch (by have := hW.lt; omega)
      replace hW := hW.bel hB1
      have HC := Lib.hid hW2
      clear hGL hB1 hW2 hG2
      go_wp2
      go_loopw [8, 9, 32] (fun _ _ a wr => ∃ (x : Nat) (L : List Int), x ≤ R ∧ a = .int .i64 (x : Int) ∧ WL wr G off n L ∧ (∀ i, i < n → i % R < x → L[i]? = some (trV zs R C i)) ∧ Touch G w1 wr) (fun _ _ a _ => R - (intOf a).toNat)
      case atStart => exact ⟨0, _, by omega, by simp, hW, fun i _ h => absurd h (by omega), Touch.refl _ _⟩
      case round =>
        obtain ⟨x, L, hx, rfl, hWx, hL, hB⟩ := hrel
        clear hW
        by_cases hlt : x < R
        · go_wp2
          go_loopw [9, 36] (fun _ b wq => ∃ (y : Nat) (L : List Int), y ≤ C ∧ b = .int .i64 (y : Int) ∧ WL wq G off n L ∧ (∀ i, i < n → (i % R < x ∨ (i % R = x ∧ i / R < y)) → L[i]? = some (trV zs R C i)) ∧ Touch G w1 wq) (fun _ b _ => C - (intOf b).toNat)
          case atStart => exact ⟨0, L, by omega, by simp, hWx, fun i h1 h2 => hL i h1 (h2.elim id fun h => absurd h.2 (Nat.not_lt_zero _)), hB⟩
          case round =>
            obtain ⟨y, M, hy, rfl, hW2, hM, hB2⟩ := hrel
            clear hWx hL hB
            by_cases hlt2 : y < C
            · obtain ⟨d1, d2, d3, d4⟩ := tr_at hlt hlt2
              rw [HN.out] at d3 d4
              obtain ⟨a1, ha1⟩ : ∃ a1, a1 = y * R := ⟨_, rfl⟩
              obtain ⟨a2, ha2⟩ : ∃ a2, a2 = x * C := ⟨_, rfl⟩
              have f1 : ((y : Nat) : Int) * ((R : Nat) : Int) = (a1 : Int) := by rw [ha1, Int.natCast_mul]
              have f2 : ((x : Nat) : Int) * ((C : Nat) : Int) = (a2 : Int) := by rw [ha2, Int.natCast_mul]
              rw [← ha1] at d1 d2 d3
              rw [← ha2] at d4
              have hCq := HC.out.touch hB2 hne
              obtain ⟨z, hz⟩ : ∃ z, zs[a2 + y]? = some z := ⟨_, List.getElem?_eq_getElem (by rw [hlen]; exact d4)⟩
              have kA := hCq.c (a2 + y) z hz
              obtain ⟨z0, hz0⟩ : ∃ z0, M[a1 + x]? = some z0 := ⟨_, List.getElem?_eq_getElem (by rw [hW2.len]; exact d3)⟩
              have q0 := hW2.c (a1 + x) z0 hz0
              have q1 := hW2.z (a1 + x) d3
              obtain ⟨w7, hw7⟩ : ∃ w7, w7 = wr.setCell ⟨G, off + (a1 + x), none⟩ (.int .i64 z) := ⟨_, rfl⟩
              have hW7 : WL w7 G off n (M.set (a1 + x) z) := by rw [hw7]; exact hW2.set d3 z
              have hB7 : Touch G w1 w7 := by rw [hw7]; exact hB2.setCell (p := ⟨G, off + (a1 + x), none⟩) rfl _
              have hTz : trV zs R C (a1 + x) = z := by
                unfold trV
                rw [d1, d2, ← ha2, List.getD_eq_getElem?_getD, hz]; rfl
              have hM7 : ∀ i, i < n → (i % R < x ∨ (i % R = x ∧ i / R < y + 1)) → (M.set (a1 + x) z)[i]? = some (trV zs R C i) := by
                intro i h1 h2
                by_cases e : i = a1 + x
                · subst e
                  rw [List.getElem?_set_self (by rw [hW2.len]; exact d3), hTz]
                · rw [List.getElem?_set_ne (fun k => e k.symm)]
                  refine hM i h1 ?_
                  rcases h2 with h2 | ⟨h2, h3⟩
                  · exact Or.inl h2
                  · refine Or.inr ⟨h2, ?_⟩
                    refine Classical.byContradiction fun hc => e ?_
                    rw [ha1]
                    exact tr_one h2 (by omega)
              have HW7 := Lib.hid hw7
              have HM7 := Lib.hid hM7
              clear hw7 hz hz0 hW2 hM hM7 hB2 hTz d1 d2 ha1 ha2 HC HTA HTL HN hCq hT1
              go_wp2
              go_roundw
              case rel =>
                rw [← HW7.out]
                exact ⟨y + 1, _, by omega, (by first | rfl | simp), hW7, HM7.out, hB7⟩
              case measure => first | (simp [intOf]; done) | (simp [intOf]; omega)
            · have hyC : y = C := by omega
              have hM2 : ∀ i, i < n → i % R < x + 1 → M[i]? = some (trV zs R C i) := by
                intro i h1 h2
                refine hM i h1 ?_
                rcases Nat.lt_or_ge (i % R) x with h | h
                · exact Or.inl h
                · exact Or.inr ⟨by omega, by rw [hyC]; exact tr_div (by omega) (by rw [HN.out]; exact h1)⟩
              have HM2 := Lib.hid hM2
              clear hM hM2 HC HTA HTL HN hyC hT1
              go_wp2
              go_roundw
              case rel => exact ⟨x + 1, M, by omega, (by first | rfl | simp), hW2, HM2.out, hB2⟩
              case measure => first | (simp [intOf]; done) | (simp [intOf]; omega)
        · have hxR : x = R := by omega
          have hLT : L = T := by
            refine List.ext_getElem? fun i => ?_
            by_cases hi : i < n
            · rw [HTA.out i hi]
              exact hL i hi (by rw [hxR]; exact Nat.mod_lt _ (by omega))
            · rw [List.getElem?_eq_none (by rw [hWx.len]; omega), List.getElem?_eq_none (by rw [HTL.out]; omega)]
          subst hLT
          have hT2 := hT1.trans hB
          clear hL HC HTA HTL HN hxR hT1 hB
          go_wp2
          go_ret
          exact ⟨rfl, hT2, hWx⟩
    · have e1 : trE n R C = 4 := by unfold trE; rw [if_neg hb, if_neg (fun h => h0 (by rw [← Int.natCast_mul] at h; omega))]
      have e2 : trL zs R C = zs := by unfold trL; rw [hlen, e1]; rfl
      rw [e1, e2]
      have hno : ¬ (u = 0 ∧ v = (R : Int)) := fun h => h0 (hdv.2 h)
      clear hdv h0 e1 e2 hb
      by_cases c1 : u = 0
      · have c2 : v ≠ (R : Int) := fun h => hno ⟨c1, h⟩
        have t2 : (v != (R : Int)) = true := by rw [bne_iff_ne]; exact c2
        have t2' : (v == (R : Int)) = false := by rw [beq_eq_false_iff_ne]; exact c2
        subst c1
        clear hno
        go_enter Try.func20, Try.ntmps20
        go_wp2
        go_ret
        exact ⟨rfl, Touch.refl _ _, hW⟩
      · have t2 : (u != 0) = true := by rw [bne_iff_ne]; exact c1
        have t2' : (u == 0) = false := by rw [beq_eq_false_iff_ne]; exact c1
        clear hno
        go_enter Try.func20, Try.ntmps20
        go_wp2
        go_ret
        exact ⟨rfl, Touch.refl _ _, hW⟩
set_option maxHeartbeats 1000000 in
theorem trn_nil : TrnNil7 := by
  intro q cap r c w hr hc
  obtain ⟨hr0, hr1⟩ := hr
  obtain ⟨hc0, hc1⟩ := hc
  by_cases b1 : r < 1
  · have e1 : trE 0 r c = 2 := by unfold trE; rw [if_pos (Or.inl b1)]
    rw [e1]
    clear e1
    go_enter Try.func20, Try.ntmps20
    go_wp2
    go_ret
    exact ⟨rfl, Bel.refl _⟩
  · by_cases b2 : c < 1
    · have e1 : trE 0 r c = 2 := by unfold trE; rw [if_pos (Or.inr b2)]
      rw [e1]
      clear e1
      go_enter Try.func20, Try.ntmps20
      go_wp2
      go_ret
      exact ⟨rfl, Bel.refl _⟩
    · have h0 : 1 * 1 ≤ r * c := Int.mul_le_mul (by omega) (by omega) (by omega) (by omega)
      have e1 : trE 0 r c = 4 := by unfold trE; rw [if_neg (by omega), if_neg (by omega)]
      rw [e1]
      have t1 : (c == 0) = false := by rw [beq_eq_false_iff_ne]; omega
      have t2 : ((0 : Int) != r) = true := by rw [bne_iff_ne]; omega
      clear e1 h0
      go_enter Try.func20, Try.ntmps20
      go_wp2
      go_ret
      exact ⟨rfl, Bel.refl _⟩
end Go.Proofs.Ytniljnidpcgjgaa

/- Circles by a table of what has been met, in plain numbers. -/
namespace Go.Proofs.Ytniljnidpcgjgaa
open Go.RowKit
set_option linter.unusedVariables false

/-- the circle of x has a number below k -/
def Seen (f : Nat → Nat) (k x : Nat) : Prop := ∃ i, it f i x < k
theorem Seen.zero {f : Nat → Nat} {x : Nat} : ¬ Seen f 0 x := fun ⟨_, h⟩ => absurd h (Nat.not_lt_zero _)
theorem Seen.step {f : Nat → Nat} {k x j : Nat} (h : Seen f k (it f j x)) : Seen f k x := by
  obtain ⟨i, hi⟩ := h
  exact ⟨j + i, by rw [it_add]; exact hi⟩
theorem Seen.least {f : Nat → Nat} {k t : Nat} (hp : Per f k t) (h : Seen f k k) : ∃ j, j < t ∧ it f j k < k := by
  obtain ⟨i, hi⟩ := h
  rw [hp.mod i] at hi
  exact ⟨i % t, Nat.mod_lt _ (by have := hp.1; omega), hi⟩
theorem Seen.no {f : Nat → Nat} {k : Nat} (h : ¬ Seen f k k) (j : Nat) : k ≤ it f j k := by
  refine Classical.byContradiction fun c => h ⟨j, by omega⟩
/-- k's circle was met: nothing new -/
theorem Seen.old {f : Nat → Nat} {k x : Nat} (h : Seen f k k) : Seen f (k + 1) x ↔ Seen f k x := by
  constructor
  · rintro ⟨i, hi⟩
    by_cases e : it f i x = k
    · obtain ⟨j, hj⟩ := h
      exact ⟨i + j, by rw [it_add, e]; exact hj⟩
    · exact ⟨i, by omega⟩
  · rintro ⟨i, hi⟩
    exact ⟨i, by omega⟩
/-- on the way round: not met before -/
theorem Seen.fresh {f : Nat → Nat} {n k t j : Nat} (hf : Turns f n) (hk : k < n) (hp : Per f k t) (h : ¬ Seen f k k) (hj : j < t) : ¬ (Seen f k (it f j k) ∨ ∃ i, i < j ∧ it f j k = it f i k) := by
  rintro (h1 | ⟨i, hi, e⟩)
  · exact h h1.step
  · have := hp.inj hf hk hj (by omega) e
    omega
/-- k's circle is new: it, and no more, is met -/
theorem Seen.new {f : Nat → Nat} {n k t x : Nat} (hf : Turns f n) (hk : k < n) (hx : x < n) (hp : Per f k t) : Seen f (k + 1) x ↔ (Seen f k x ∨ ∃ i, i < t ∧ x = it f i k) := by
  constructor
  · rintro ⟨i, hi⟩
    by_cases e : it f i x = k
    · right
      -- the way back from k to x
      have hpx := hf.per hx
      obtain ⟨s, _, hs⟩ := hpx
      have h1 : it f (s * (i + 1) - i) k = x := by
        rw [← e, ← it_add, show i + (s * (i + 1) - i) = s * (i + 1) from by
          have := Nat.mul_le_mul (show 1 ≤ s from hs.1) (Nat.le_refl (i + 1))
          omega]
        exact hs.mul _
      rw [hp.mod] at h1
      exact ⟨_, Nat.mod_lt _ (by have := hp.1; omega), h1.symm⟩
    · exact Or.inl ⟨i, by omega⟩
  · rintro (⟨i, hi⟩ | ⟨i, hi, rfl⟩)
    · exact ⟨i, by omega⟩
    · refine ⟨t - i, ?_⟩
      rw [hp.round (by omega)]; omega
/-- a table: x is marked in F -/
def Marks (f : Nat → Nat) (n : Nat) (F : Nat → Bool) (P : Nat → Prop) : Prop := ∀ x, x < n → (F x = true ↔ P x)
theorem Circs.met {f : Nat → Nat} {k t : Nat} {ls : List (List Nat)} (h : Circs f k ls) (hp : Per f k t) (hs : Seen f k k) : Circs f (k + 1) ls := ⟨ls, t, h, hp, Or.inr ⟨hs.least hp, rfl⟩⟩
theorem Circs.more {f : Nat → Nat} {k t : Nat} {ls : List (List Nat)} (h : Circs f k ls) (hp : Per f k t) (hs : ¬ Seen f k k) : Circs f (k + 1) (ls ++ [circ f k t]) := ⟨ls, t, h, hp, Or.inl ⟨fun j _ => Seen.no hs j, rfl⟩⟩
end Go.Proofs.Ytniljnidpcgjgaa

/- The landed Cycles: is it a permutation; a circle; a table of what has been told. -/
namespace Go.Proofs.Ytniljnidpcgjgaa
open Go.RowKit
set_option linter.unusedVariables false

theorem ownsRow_touch {w w' : World} {base G : Nat} {e : TypeId} {size : Nat} {v : Value} {n : Nat} {xs : List Value} (h : w.ownsRow base e size v n xs) (g : Touch G w w') (hG : G < base) : w'.ownsRow base e size v n xs := by
  refine ⟨h.1, ?_⟩
  rcases h.2 with hn | ⟨b, cap, cur, rfl, hb, hgg, rest⟩
  · exact .inl hn
  · exact .inr ⟨b, cap, cur, rfl, hb, by rw [g.only b (Array.getElem?_eq_some_iff.1 hgg).1 (by omega)]; exact hgg, rest⟩
theorem BArr.same {w w' : World} {G n : Nat} {F : Nat → Bool} (h : BArr w G n F) (hl : w.heap.size ≤ w'.heap.size) (e : w'.heap[G]? = w.heap[G]?) : BArr w' G n F :=
  ⟨Nat.lt_of_lt_of_le h.lt hl, fun j hj => (World.cell?_of_block (a := ⟨G, j, none⟩) e).trans (h.c j hj), fun j hj => (World.frozen?_of_block (a := ⟨G, j, none⟩) e).trans (h.z j hj)⟩
theorem Touch.grown {G : Nat} {a w w' : World} {row : Option Nat} (h : Touch G a w) (hg : w.grownBy w' row) (hr : ∀ k, row = some k → a.heap.size ≤ k) (hG : G < a.heap.size) : Touch G a w' :=
  ⟨h.below.grown hg (Nat.le_trans (Nat.le_of_lt hG) h.below.size) (fun k hk => Nat.le_trans (Nat.le_of_lt hG) (hr k hk)), fun k hk hne => (hg.block k (Nat.lt_of_lt_of_le hk h.below.size) (fun e => absurd (hr k e.symm) (by omega))).trans (h.only k hk hne)⟩
theorem InnerAt.touch {w w' : World} {G : Nat} {v u : Value} {l : List Nat} (h : InnerAt w v u l) (k : Touch G w w') (hne : ∀ B n c, u = .slice (some ⟨B, 0, none⟩) n c → B ≠ G) : InnerAt w' v u l := by
  obtain ⟨B, n, c, h1, h2, h3, h4⟩ := h
  exact ⟨B, n, c, h1, h2.touch k (fun B' off e => by injection e with e; injection e with e; rw [← e]; exact hne B n c h1), Nat.lt_of_lt_of_le h3 k.below.size, h4⟩
def slen : Value → Nat
  | .slice _ n _ => n
  | _ => 0
theorem ints_info : (Try.prog.info? 22).map (fun i => (i.zero, i.size, i.bytes)) = some (some (.slice none 0 0), 1, 24) := by kernel_rfl
theorem slen_own {w : World} {base size n : Nat} {e : TypeId} {v : Value} {xs : List Value} (h : w.ownsRow base e size v n xs) : slen v = n := by
  rcases ownsRow_form' h with ⟨rfl, h2⟩ | ⟨g, cap, rfl, _⟩
  · exact h2.symm
  · rfl
theorem BArr.bel {w w' : World} {G n : Nat} {F : Nat → Bool} (h : BArr w G n F) (k : Bel w w') : BArr w' G n F :=
  ⟨Nat.lt_of_lt_of_le h.lt k.size, fun j hj => (k.cell (p := ⟨G, j, none⟩) h.lt).trans (h.c j hj), fun j hj => (k.frozen (p := ⟨G, j, none⟩) h.lt).trans (h.z j hj)⟩
theorem circ_cell {w : World} {B t k : Nat} {f : Nat → Nat} (h : IL w (some ⟨B, 0, none⟩) t (ints (circ f k t))) {j : Nat} (hj : j < t) : w.cell? ⟨B, j, none⟩ = some (.int .i64 ((it f j k : Nat) : Int)) := by
  obtain ⟨A, oa, z, e, _, hz, hc⟩ := h.at hj
  injection e with e
  injection e with e1 e2
  subst e1 e2
  unfold ints circ at hz
  rw [List.getElem?_map, List.getElem?_map, List.getElem?_range hj] at hz
  obtain rfl := Option.some.inj hz
  rw [Nat.zero_add] at hc
  exact hc
set_option maxHeartbeats 4000000 in
theorem isperm_run (p : Option Addr) (n cap : Nat) (zs : List Int) (w : World) (hA : IL w p n zs) (hn : n ≤ 1048576) :
    Calls Try.prog 31 #[.slice p n cap] w fun r w' => ∃ b, r = .returned (.bool b) ∧ (b = true ↔ Perm7 zs) ∧ Bel w w' := by
  have hlen := Lib.hid hA.len
  have HA := Lib.hid hA
  have hm := make_bools n (by omega)
  have sb := run_store_bool Try.prog
  clear hA
  go_enter Try.func31, Try.ntmps31
  go_wp2
  obtain ⟨G, hG⟩ : ∃ G, G = w.heap.size := ⟨_, rfl⟩
  have W1 := made_bools w n 4 G hG
  obtain ⟨w1, hw1⟩ : ∃ w1, w1 = w.alloc (.cells (madeCells #[.bool false] n) 4) := ⟨_, rfl⟩
  have B1 : Bel w w1 := by rw [hw1]; exact (Bel.refl w).alloc _
  have hG1 : w.heap.size ≤ G := by omega
  rw [← hw1] at W1 ⊢
  rw [← hG]
  clear hw1 hG hm
  go_loopw [5, 11] (fun _ a wr => ∃ (i : Nat) (F : Nat → Bool), i ≤ n ∧ a = .int .i64 (i : Int) ∧ BArr wr G n F ∧ Good zs i F ∧ Bel w wr) (fun _ a _ => n - (intOf a).toNat)
  case atStart => exact ⟨0, _, by omega, (by first | rfl | simp), W1, Good.zero zs, B1⟩
  case round =>
    obtain ⟨i, F, hi, rfl, hW, hF, hB⟩ := hrel
    clear W1 B1
    by_cases hlt : i < n
    · obtain ⟨A, oa, z, rfl, hAl, hz, hAc⟩ := HA.out.at hlt
      have kA := (hB.cell (p := ⟨A, oa + i, none⟩) hAl).trans hAc
      by_cases c0 : z < 0
      · have hnp : ¬ Perm7 zs := fun h => by have := (h.1 z (List.mem_of_getElem? hz)).1; omega
        have HN := Lib.hid hnp
        clear hF hz hAc HA hlen hW hnp
        go_wp2
        go_ret
        first | exact ⟨false, rfl, ⟨fun h => absurd h Bool.false_ne_true, fun h => absurd h HN.out⟩, hB⟩ | exact Or.inl ⟨rfl, HN.out, hB⟩
      · obtain ⟨x, rfl⟩ : ∃ x : Nat, z = (x : Int) := ⟨z.toNat, by omega⟩
        by_cases c1 : n ≤ x
        · have hnp : ¬ Perm7 zs := fun h => by have := (h.1 _ (List.mem_of_getElem? hz)).2; have := hlen.out; omega
          have HN := Lib.hid hnp
          clear hF hz hAc HA hlen hW hnp
          go_wp2
          go_ret
          first | exact ⟨false, rfl, ⟨fun h => absurd h Bool.false_ne_true, fun h => absurd h HN.out⟩, hB⟩ | exact Or.inl ⟨rfl, HN.out, hB⟩
        · have hx : x < n := by omega
          have q0 := hW.c x hx
          have q1 := hW.z x hx
          cases hf : F x with
          | true =>
            have hnp : ¬ Perm7 zs := fun h => by
              obtain ⟨j, hj, hjx⟩ := (hF.2.2 x).1 hf
              have hl := hlen.out
              have := (List.getElem_inj (h₀ := show j < zs.length by omega) (h₁ := show i < zs.length by omega) h.2).1 (by
                have e1 := List.getElem?_eq_getElem (l := zs) (i := j) (by omega)
                have e2 := List.getElem?_eq_getElem (l := zs) (i := i) (by omega)
                rw [hjx] at e1
                rw [hz] at e2
                exact (Option.some.inj e1).symm.trans (Option.some.inj e2))
              omega
            rw [hf] at q0
            have HN := Lib.hid hnp
            clear hF hz hAc HA hlen hW hnp hf
            go_wp2
            go_ret
            first | exact ⟨false, rfl, ⟨fun h => absurd h Bool.false_ne_true, fun h => absurd h HN.out⟩, hB⟩ | exact Or.inl ⟨rfl, HN.out, hB⟩
          | false =>
            rw [hf] at q0
            have hF7 := hF.next hz (by rw [hlen.out]; exact hx) hf
            obtain ⟨w7, hw7⟩ : ∃ w7, w7 = wr.setCell ⟨G, x, none⟩ (.bool true) := ⟨_, rfl⟩
            have hW7 : BArr w7 G n (fun y => if y = x then true else F y) := by rw [hw7]; exact hW.set hx true
            have hB7 : Bel w w7 := by rw [hw7]; exact hB.setCell (p := ⟨G, x, none⟩) hG1 _
            have HW7 := Lib.hid hw7
            have HF7 := Lib.hid hF7
            clear hw7 hF7 hF hz hAc HA hlen hW hf hB
            go_wp2
            go_roundw
            case rel =>
              rw [← HW7.out]
              exact ⟨i + 1, _, by omega, (by first | rfl | simp), hW7, HF7.out, hB7⟩
            case measure => first | (simp [intOf]; done) | (simp [intOf]; omega)
    · have hin : i = n := by omega
      have hperm : Perm7 zs := by rw [hin, ← hlen.out] at hF; exact hF.perm
      have HP := Lib.hid hperm
      clear hF HA hlen hW hperm hin
      go_wp2
      go_ret
      first | exact ⟨true, rfl, ⟨fun _ => HP.out, fun _ => rfl⟩, hB⟩ | exact Or.inr ⟨rfl, HP.out, hB⟩
set_option maxHeartbeats 4000000 in
theorem circle_run (p : Option Addr) (n cap k t : Nat) (f : Nat → Nat) (zs : List Int) (w : World) (hA : IL w p n zs) (hn : n ≤ 1048576) (hft : Turns f n) (hfa : ∀ i, i < n → zs[i]? = some ((f i : Nat) : Int)) (hkn : k < n) (htn : t ≤ n) (hper : Per f k t) :
    Calls Try.prog 32 #[.slice p n cap, .int .i64 (k : Int)] w fun r w' => ∃ B c, r = .returned (.slice (some ⟨B, 0, none⟩) t c) ∧ w.heap.size ≤ B ∧ B < w'.heap.size ∧ IL w' (some ⟨B, 0, none⟩) t (ints (circ f k t)) ∧ Bel w w' := by
  obtain ⟨i0, hi0, hz0, hz1, hz2⟩ := info_parts int_info
  obtain ⟨A, oa, z, rfl, hAl, hz, hAc⟩ := hA.at hkn
  obtain rfl : ((f k : Nat) : Int) = z := by rw [hfa k hkn] at hz; exact Option.some.inj hz
  have hat : ∀ (x : Nat) (w' : World), x < n → Bel w w' → w'.cell? ⟨A, oa + x, none⟩ = some (.int .i64 ((f x : Nat) : Int)) := by
    intro x w' hx g
    obtain ⟨A', oa', z', e1, h1, h2, h3⟩ := hA.at hx
    injection e1 with e1
    injection e1 with e1 e2
    subst e1 e2
    obtain rfl : ((f x : Nat) : Int) = z' := by rw [hfa x hx] at h2; exact Option.some.inj h2
    exact (g.cell (p := ⟨A, oa + x, none⟩) h1).trans h3
  have b1 : Bel w (w.alloc (Obj.cells #[.int .i64 (k : Int)] 3)) := (Bel.refl w).alloc _
  have kA := hat k _ hkn b1
  have o1 : (w.alloc (Obj.cells #[.int .i64 (k : Int)] 3)).ownsRow w.heap.size 3 1 (.slice (some ⟨w.heap.size, 0, none⟩) 1 1) 1 ((List.range 1).map fun i => Value.int .i64 ((it f i k : Nat) : Int)) := World.ownsRow_lit w #[.int .i64 (k : Int)] 1 (Nat.le_refl _) (by decide) rfl
  have O1 := Lib.hid o1
  have B1 := Lib.hid b1
  have HT := Lib.hid hft
  have HAT := Lib.hid hat
  have HPER := Lib.hid hper
  clear hz hA hfa hft hat hper hAc b1 o1
  go_enter Try.func32, Try.ntmps32
  go_wp2
  go_loopw [5, 6] (fun v a wx => ∃ j : Nat, 1 ≤ j ∧ j ≤ t ∧ a = .int .i64 ((it f j k : Nat) : Int) ∧ wx.ownsRow w.heap.size 3 1 v j ((List.range j).map fun i => Value.int .i64 ((it f i k : Nat) : Int)) ∧ Bel w wx) (fun v _ _ => t - slen v)
  case atStart => exact ⟨1, Nat.le_refl _, HPER.out.1, rfl, O1.out, B1.out⟩
  case round =>
    obtain ⟨j, j1, hjt, rfl, ho, hB⟩ := hrel
    clear kA O1 B1
    have hlj := HT.out.it_lt hkn j
    by_cases hj : j < t
    · have hne := HPER.out.2.2 j j1 hj
      have t1 : (((it f j k : Nat) : Int) != (k : Int)) = true := by rw [bne_iff_ne]; omega
      have hslj : slen _ = j := slen_own ho
      have hblk := ownsRow_block ho
      have hs4 := hB.size
      obtain ⟨a, ha⟩ : ∃ a, a = it f j k := ⟨_, rfl⟩
      have hfa' : it f (j + 1) k = f a := by rw [ha]; rfl
      have hnextH := Lib.hid (range_next f k j)
      rw [← ha] at hlj hnextH t1 hne ⊢
      obtain ⟨L, hL⟩ : ∃ L, L = (List.range j).map fun i => Value.int .i64 ((it f i k : Nat) : Int) := ⟨_, rfl⟩
      rw [← hL] at ho hnextH
      have HFF2 := Lib.hid hfa'
      have HSL := Lib.hid hslj
      clear ha hfa' hL hslj HPER HT hne
      go_wp2_with (at_builtin; refine wpList_append_own _ rfl _ _ 22 rfl w.heap.size 3 i0 (.int .i64 0) 1 8 Try.underlying22 hi0 hz0 hz1 hz2 rfl (by decide) _ _ _ rfl (ho.alloc _) ⟨wr.heap.size, 0, none⟩ 1 1 [.int .i64 ((a : Nat) : Int)] rfl rfl ?h1 ?h2 ?h3 ?h4 ?h5 ?_)
      case h1 =>
        intro i x hi
        match i, hi with
        | 0, hi =>
          simp at hi; subst hi
          rw [Go.WideShapes.add_plain]
          exact World.cell?_alloc_at _ _ _ _ (by simp)
        | i + 1, hi => simp at hi
      case h2 => intro x hx; simp at hx; subst hx; rfl
      case h3 => first | omega | (unfold maxLen; omega)
      case h4 => omega
      case h5 => first | omega | (simp; omega)
      intro v' w5 ho5 hgrow _
      have hB5 : Bel w w5 := (hB.alloc (Obj.cells #[.int .i64 ((a : Nat) : Int)] 3)).grown hgrow hblk
      have kA5 := HAT.out a w5 hlj hB5
      rw [hnextH.out] at ho5
      have hs5 := hB5.size
      clear hgrow ho hblk hB
      go_wp2
      go_roundw
      case rel => exact ⟨j + 1, by omega, by omega, by rw [HFF2.out], ho5, hB5⟩
      case measure =>
        have e1 := HSL.out
        have e2 := slen_own ho5
        rw [e1, e2]; omega
    · have ejt : j = t := by omega
      subst ejt
      have ek : it f j k = k := HPER.out.2.1
      rw [ek]
      rcases ownsRow_form' ho with ⟨_, h2⟩ | ⟨B, cc, rfl, hBw, hBl, _, _⟩
      · omega
      have hil := il_circ ho hBl
      have HIL := Lib.hid hil
      clear ho hil HAT HPER HT
      go_wp2
      go_ret
      exact ⟨B, cc, rfl, hBw, hBl, HIL.out, hB⟩
set_option maxHeartbeats 8000000 in
theorem cyc_said : CycSaid7 := by
  intro p n cap zs w hA hn
  have hlen := Lib.hid hA.len
  have hP := isperm_run p n cap zs w hA hn
  have HA := Lib.hid hA
  have hm := make_bools n (by omega)
  have sb := run_store_bool Try.prog
  clear hA
  go_enter Try.func24, Try.ntmps24
  go_wp2_with fail
  refine hP.mono ?_; rintro r w0 ⟨b, rfl, hbp, g0⟩
  clear hP
  cases b with
  | false =>
    have HN := Lib.hid (fun h => Bool.false_ne_true (hbp.2 h) : ¬ Perm7 zs)
    clear hbp HA hlen hm
    go_wp2
    refine bodyPost_ret (by simp [results, go_sem]; try rfl) rfl ?_
    first | exact Or.inr ⟨HN.out, _, _, rfl, g0⟩ | exact Or.inr ⟨HN.out, ⟨_, _, rfl⟩, g0⟩ | exact Or.inr ⟨HN.out, ⟨_, rfl⟩, g0⟩ | exact Or.inr ⟨HN.out, ⟨⟨_, rfl⟩, _, rfl⟩, g0⟩
  | true =>
    have hperm : Perm7 zs := hbp.1 rfl
    obtain ⟨f, hf⟩ : ∃ f, f = pf zs := ⟨_, rfl⟩
    have hft : Turns f n := by rw [hf, ← hlen.out]; exact hperm.turns
    have hfa : ∀ i, i < n → zs[i]? = some ((f i : Nat) : Int) := fun i hi => by rw [hf]; exact (pf_at hperm (by rw [hlen.out]; exact hi)).1
    have HP := Lib.hid hperm
    have HT := Lib.hid hft
    have HFA := Lib.hid hfa
    have HFF := Lib.hid hf
    obtain ⟨i1, hj0, hj1, hj2, hj3⟩ := info_parts ints_info
    clear hbp hperm hft hfa hf
    go_wp2
    obtain ⟨G, hG⟩ : ∃ G, G = w0.heap.size := ⟨_, rfl⟩
    have W1 := made_bools w0 n 4 G hG
    obtain ⟨w2, hw1⟩ : ∃ w1, w1 = w0.alloc (.cells (madeCells #[.bool false] n) 4) := ⟨_, rfl⟩
    have B1 : Bel w w2 := by rw [hw1]; exact g0.alloc _
    have hG1 : w.heap.size ≤ G := by have := g0.size; omega
    have hG2 : G < w2.heap.size := by rw [hw1, hG]; simp
    have hMK : Hid (Marks f n (fun _ => false) (Seen f 0)) := Lib.hid fun x _ => ⟨fun h => absurd h Bool.false_ne_true, fun h => absurd h Seen.zero⟩
    rw [← hw1] at W1 ⊢
    rw [← hG]
    clear hw1 hG hm g0
    go_loopw [4, 6, 7, 9, 18] (fun v _ _ _ a wr => ∃ (k : Nat) (ls : List (List Nat)) (vs : List Value) (F : Nat → Bool), k ≤ n ∧ a = .int .i64 (k : Int) ∧ Circs f k ls ∧ ls.length ≤ k ∧ vs.length = ls.length ∧ wr.ownsRow w2.heap.size 22 1 v ls.length vs ∧ (∀ (i : Nat) u l, vs[i]? = some u → ls[i]? = some l → InnerAt wr v u l ∧ ∀ B n c, u = .slice (some ⟨B, 0, none⟩) n c → B ≠ G) ∧ BArr wr G n F ∧ Hid (Marks f n F (Seen f k)) ∧ w2.heap.size ≤ wr.heap.size ∧ Bel w wr) (fun _ _ _ _ a _ => n - (intOf a).toNat)
    case atStart => exact ⟨0, [], [], _, by omega, (by first | rfl | simp), rfl, by simp, rfl, ⟨by simp, Or.inl ⟨rfl, rfl⟩⟩, fun i u l h => by simp at h, W1, hMK, Nat.le_refl _, B1⟩
    case round =>
      obtain ⟨k, ls, vs, F1, hk, rfl, hcs, hlk, hvl, hown, hin', hW1, HM, hsz, hB2⟩ := hrel
      clear W1 hMK B1
      by_cases hkn : k < n
      · obtain ⟨t, htn, hper⟩ := HT.out.per hkn
        have q0 := hW1.c k hkn
        have hmk := HM.out k hkn
        cases hfk : F1 k with
        | true =>
          have hs : Seen f k k := hmk.1 hfk
          rw [hfk] at q0
          have HCS := Lib.hid (hcs.met hper hs)
          have HM2 : Hid (Marks f n F1 (Seen f (k + 1))) := Lib.hid fun x hx => (HM.out x hx).trans hs.old.symm
          have HI := Lib.hid hin'
          have HW1 := Lib.hid hW1
          clear hcs hper hs hmk hfk HA HFA HM hin' hW1 htn
          go_wp2
          go_roundw
          case rel => exact ⟨k + 1, ls, vs, F1, by omega, (by first | rfl | simp), HCS.out, by omega, hvl, hown, HI.out, HW1.out, HM2, hsz, hB2⟩
          case measure => first | (simp [intOf]; done) | (simp [intOf]; omega)
        | false =>
          have hs : ¬ Seen f k k := fun h => by
            have := hmk.2 h
            rw [hfk] at this
            cases this
          rw [hfk] at q0
          have hcr := circle_run p n cap k t f zs wr (HA.out.bel hB2) hn HT.out HFA.out hkn htn hper
          have hnw := fun x (hx : x < n) => Seen.new (x := x) HT.out hkn hx hper
          have HCS := Lib.hid (hcs.more hper hs)
          have HNW := Lib.hid hnw
          have HI := Lib.hid hin'
          have ht1 := hper.1
          obtain ⟨w4, rfl⟩ : ∃ w4 : World, w4 = wr := ⟨_, rfl⟩
          clear hcs hper hs hmk hfk hnw hin'
          go_wp2_with fail
          refine hcr.mono ?_; rintro r w6 ⟨B, cc, rfl, hBw, hBl, hil, g6⟩
          have hBG : B ≠ G := by omega
          have hBB6 := hB2.trans g6
          have hown6 := ownsRow_bel hown g6
          have hW6 := hW1.bel g6
          have hi6 : ∀ (i : Nat) u l, vs[i]? = some u → ls[i]? = some l → InnerAt w6 _ u l ∧ ∀ B n c, u = .slice (some ⟨B, 0, none⟩) n c → B ≠ G := fun i u l h1 h2 => ⟨((HI.out i u l h1 h2).1).bel g6, (HI.out i u l h1 h2).2⟩
          have hvb := ownsRow_lt7 hown
          have hs6 := g6.size
          have HI6 := Lib.hid hi6
          have HIL := Lib.hid hil
          have hms : Hid (Marks f n F1 (fun x => Seen f k x ∨ ∃ i, i < 0 ∧ x = it f i k)) := Lib.hid fun x hx => (HM.out x hx).trans ⟨fun h => Or.inl h, fun h => h.elim id (fun ⟨i, hi, _⟩ => absurd hi (Nat.not_lt_zero _))⟩
          clear hcr hown hW1 hi6 HI hil g6 HM q0
          have hB62 : Hid (Bel w w6) := Lib.hid hBB6
          go_wp2
          go_loopw [9, 30] (fun _ a wx => ∃ (j : Nat) (F2 : Nat → Bool), j ≤ t ∧ a = .int .i64 (j : Int) ∧ BArr wx G n F2 ∧ Hid (Marks f n F2 (fun x => Seen f k x ∨ ∃ i, i < j ∧ x = it f i k)) ∧ Touch G w6 wx) (fun _ a _ => t - (intOf a).toNat)
          case atStart => exact ⟨0, F1, Nat.zero_le _, (by first | rfl | simp), hW6, hms, Touch.refl _ _⟩
          case round =>
            obtain ⟨j, F2, hjt, rfl, hW2, HM2, hT⟩ := hrel
            clear hW6 hms
            by_cases hj : j < t
            · have hlj := HT.out.it_lt hkn j
              have kC := (hT.cell (p := ⟨B, j, none⟩) hBl hBG).trans (circ_cell HIL.out hj)
              have q0 := hW2.c _ hlj
              have q1 := hW2.z _ hlj
              have hW3 := hW2.set hlj true
              have hT3 := hT.setCell (p := ⟨G, it f j k, none⟩) rfl (.bool true)
              have HM3 : Hid (Marks f n (fun x => if x = it f j k then true else F2 x) (fun x => Seen f k x ∨ ∃ i, i < j + 1 ∧ x = it f i k)) := Lib.hid fun x hx => by
                show ((if x = it f j k then true else F2 x) = true) ↔ _
                by_cases e : x = it f j k
                · rw [if_pos e]
                  exact ⟨fun _ => Or.inr ⟨j, by omega, e⟩, fun _ => rfl⟩
                · rw [if_neg e]
                  refine (HM2.out x hx).trans (or_congr Iff.rfl ⟨fun ⟨i, hi, h⟩ => ⟨i, by omega, h⟩, fun ⟨i, hi, h⟩ => ⟨i, ?_, h⟩⟩)
                  by_cases c : i = j
                  · rw [c] at h; exact absurd h e
                  · omega
              obtain ⟨a, ha⟩ : ∃ a, a = it f j k := ⟨_, rfl⟩
              rw [← ha] at hlj kC q0 q1 hW3 hT3 HM3
              have HW3 := Lib.hid hW3
              have HT3 := Lib.hid hT3
              clear ha hW2 HM2 hT hW3 hT3 HA HFA HIL HI6 HNW HCS hown6 hBB6
              go_wp2
              go_roundw
              case rel => exact ⟨j + 1, _, by omega, (by first | rfl | simp), HW3.out, HM3, HT3.out⟩
              case measure => first | (simp [intOf]; done) | (simp [intOf]; omega)
            · have ejt : j = t := by omega
              subst ejt
              have HM3 : Hid (Marks f n F2 (Seen f (k + 1))) := Lib.hid fun x hx => (HM2.out x hx).trans (HNW.out x hx).symm
              have hil : IL wr (some ⟨B, 0, none⟩) j (ints (circ f k j)) := HIL.out.touch hT (fun B' off e => by injection e with e; injection e with e; rw [← e]; exact hBG)
              have hGw2 : G < w2.heap.size := hG2
              have hown7 := ownsRow_touch hown6 hT hGw2
              have hin6 : ∀ (i : Nat) u l, vs[i]? = some u → ls[i]? = some l → InnerAt wr _ u l ∧ ∀ B n c, u = .slice (some ⟨B, 0, none⟩) n c → B ≠ G := fun i u l h1 h2 => ⟨((HI6.out i u l h1 h2).1).touch hT (HI6.out i u l h1 h2).2, (HI6.out i u l h1 h2).2⟩
              have hvw := ownsRow_block hown7
              have s46 := hT.below.size
              have sw2 : w.heap.size ≤ w2.heap.size := by omega
              have hG6 : G < wr.heap.size := by omega
              have hBx : Bel w _ := hB62.out.then hT hG1
              have HW2 := Lib.hid hW2
              clear hW2 HA HFA HNW HM2 hown6 HI6 hT HIL hBB6 hB62
              go_wp2_with (at_builtin; refine wpList_append_lies _ rfl _ _ 47 rfl w2.heap.size 22 i1 (.slice none 0 0) 1 24 Try.underlying47 hj0 hj1 hj2 hj3 rfl (by decide) _ _ _ rfl (hown7.alloc _) ⟨wr.heap.size, 0, none⟩ 1 1 [.slice (some ⟨B, 0, none⟩) j cc] rfl rfl ?k1 ?k2 (by decide) ?k3 ?k4 ?k5 (wr.heap.size + 1) (by simp) ?_)
              case k1 =>
                intro i x hi
                match i, hi with
                | 0, hi => simp at hi; subst hi; simp [Addr.add]
                | i + 1, hi => simp at hi
              case k2 => intro x hx; simp at hx; subst hx; rfl
              case k3 => unfold maxLen; omega
              case k4 => omega
              case k5 => simp; omega
              intro g cap' w7 ho7 hgrow hg hgl
              have b7 := (hBx.alloc (Obj.cells #[.slice (some ⟨B, 0, none⟩) j cc] 22)).grown hgrow (fun k hk => Nat.le_trans sw2 (hvw k hk))
              have l7 : (wr.alloc (Obj.cells #[.slice (some ⟨B, 0, none⟩) j cc] 22)).heap.size = wr.heap.size + 1 := by simp
              have hW7 := HW2.out.same (w' := w7) (Nat.le_trans ((Bel.refl _).alloc _).size hgrow.size) ((hgrow.block G (by simp; omega) (fun e => absurd (hvw G e.symm) (by omega))).trans (((Bel.refl wr).alloc _).block G hG6))
              have hin7 : ∀ (i : Nat) u l, (vs ++ [.slice (some ⟨B, 0, none⟩) j cc])[i]? = some u → (ls ++ [circ f k j])[i]? = some l → InnerAt w7 (.slice (some ⟨g, 0, none⟩) (ls.length + 1) cap') u l ∧ ∀ B n c, u = .slice (some ⟨B, 0, none⟩) n c → B ≠ G := by
                intro i u l h1 h2
                by_cases hi : i < ls.length
                · rw [List.getElem?_append_left (by omega)] at h1
                  rw [List.getElem?_append_left hi] at h2
                  obtain ⟨⟨B', n', c', e1, e2, e3, e4⟩, e5⟩ := hin6 i u l h1 h2
                  exact ⟨⟨B', n', c', e1, (e2.bel ((Bel.refl _).alloc _)).grown hgrow e4, by have := hgrow.size; omega, ne_own hg (by omega) e4⟩, e5⟩
                · have hi2 : i = ls.length := by
                    have := (List.getElem?_eq_some_iff.1 h2).1
                    simp at this
                    omega
                  rw [List.getElem?_append_right (by omega), hi2, hvl, Nat.sub_self] at h1
                  rw [List.getElem?_append_right (by omega), hi2, Nat.sub_self] at h2
                  obtain rfl := Option.some.inj h1
                  obtain rfl := Option.some.inj h2
                  refine ⟨⟨B, j, cc, rfl, (hil.bel ((Bel.refl _).alloc _)).grown hgrow (fun e => absurd (hvb B e) (by omega)), by have := hgrow.size; omega, ne_own hg (by omega) (fun e => absurd (hvb B e) (by omega))⟩, ?_⟩
                  intro B' n' c' e
                  injection e with e
                  injection e with e
                  injection e with e
                  omega
              have ho8 : w7.ownsRow w2.heap.size 22 1 (.slice (some ⟨g, 0, none⟩) (ls.length + 1) cap') (ls ++ [circ f k j]).length (vs ++ [.slice (some ⟨B, 0, none⟩) j cc]) := by
                rw [List.length_append]; exact ho7
              have HI := Lib.hid hin7
              have s7 : w2.heap.size ≤ w7.heap.size := by have := hgrow.size; omega
              clear hin7 hgrow hil hown7 hin6 hvw ho7 hg hvb
              go_wp2
              go_roundw
              case rel => exact ⟨k + 1, ls ++ [circ f k j], vs ++ [.slice (some ⟨B, 0, none⟩) j cc], F2, by omega, (by first | rfl | simp), HCS.out, by rw [List.length_append]; simp; omega, by rw [List.length_append, List.length_append, hvl]; rfl, ho8, HI.out, hW7, HM3, s7, b7⟩
              case measure => first | (simp [intOf]; done) | (simp [intOf]; omega)
      · have hkn2 : k = n := by omega
        have HC := Lib.hid hcs
        rcases ownsRow_form' hown with ⟨rfl, h2⟩ | ⟨g, co, rfl, _, hg, _, _⟩
        · have hl0 : LL wr none 0 ls := ⟨h2, Or.inl rfl⟩
          clear hown hin' HA HFA hcs HM hW1
          go_wp2
          refine bodyPost_ret (by simp [results, go_sem]; try rfl) rfl ?_
          exact Or.inl ⟨HP.out, ls, _, _, _, by rw [hlen.out, ← HFF.out, ← hkn2]; exact HC.out, rfl, hl0, hB2⟩
        · have hl0 : LL wr (some ⟨g, 0, none⟩) ls.length ls := by
            refine ⟨rfl, Or.inr ⟨g, rfl, hg, fun i l hl => ?_⟩⟩
            have hi := (List.getElem?_eq_some_iff.1 hl).1
            have hu : vs[i]? = some vs[i] := List.getElem?_eq_getElem (by omega)
            obtain ⟨⟨B, n', c', e1, e2, _, _⟩, _⟩ := hin' i _ l hu hl
            exact ⟨_, n', c', by rw [hown.cellAt i (by omega), hu, e1], e2⟩
          clear hown hin' HA HFA hcs HM hW1
          go_wp2
          refine bodyPost_ret (by simp [results, go_sem]; try rfl) rfl ?_
          exact Or.inl ⟨HP.out, ls, _, _, _, by rw [hlen.out, ← HFF.out, ← hkn2]; exact HC.out, rfl, hl0, hB2⟩
end Go.Proofs.Ytniljnidpcgjgaa

/- What the landed index is asked: over an index.go of my own (write the imported texts anew for the landed one). -/

/- Arrays of two or three integers that come in by value: what they hold, and that they read the same in every world. Over any program. -/
namespace Go.Proofs.Ytniljnidpcgjgaa
open Go.ChangeShapes Go.WideShapes Go.ChangeAt Go.RowKit

section
variable {H : Type} {enc : TypeId × Value → H} {P : Program} {w : World} {base : Nat} {spare : Nat → Bool} {held : Bool} {k : IntKind}

theorem shut_arr2 {t e : TypeId} (ht : P.underlying t = some (.array 2 e)) (he : P.underlying e = some (.int k)) (hc : P.cellsOf e = 1) (hC : P.cellsOf t = 2) {x y : Int} (wx : (Lit.int k x).wf = true) (wy : (Lit.int k y).wf = true) :
    DataW.Trod enc P w base spare held t (.agg #[.int k x, .int k y]) (.agg [.lit (.int k x), .lit (.int k y)]) [] := by
  have r2 : List.range 2 = [0, 1] := rfl
  exact ⟨2, by simp [DataW.trod, Value.cells, ht, he, hc, hC, r2, wx, wy]⟩
theorem shut_arr3 {t e : TypeId} (ht : P.underlying t = some (.array 3 e)) (he : P.underlying e = some (.int k)) (hc : P.cellsOf e = 1) (hC : P.cellsOf t = 3) {x y z : Int} (wx : (Lit.int k x).wf = true) (wy : (Lit.int k y).wf = true) (wz : (Lit.int k z).wf = true) :
    DataW.Trod enc P w base spare held t (.agg #[.int k x, .int k y, .int k z]) (.agg [.lit (.int k x), .lit (.int k y), .lit (.int k z)]) [] := by
  have r3 : List.range 3 = [0, 1, 2] := rfl
  exact ⟨2, by simp [DataW.trod, Value.cells, ht, he, hc, hC, r3, wx, wy, wz]⟩

theorem okWide_array {r : Reach} {b0 : Nat} {t e : TypeId} {n : Nat} {v : Value} (ht : P.underlying t = some (.array n e)) (h : Value.okWide P w r b0 t v) : ∃ cs, v = .agg cs ∧ cs.size = P.cellsOf t := by
  unfold Value.okWide at h
  rw [ht] at h
  obtain ⟨cs, h1, h2, _⟩ : ∃ cs, v = .agg cs ∧ cs.size = P.cellsOf t ∧ Row.okWide P w r b0 t cs := by simpa using h
  exact ⟨cs, h1, h2⟩

theorem open_arr2 {r : Reach} {b0 : Nat} {t e : TypeId} {v : Value} {d : DataW H} {p : List MemPlace} (ht : P.underlying t = some (.array 2 e)) (he : P.underlying e = some (.int k)) (hc : P.cellsOf e = 1) (hC : P.cellsOf t = 2)
    (hv : Value.okWide P w r b0 t v) (h : DataW.Trod enc P w base spare held t v d p) :
    ∃ x y : Int, v = .agg #[.int k x, .int k y] ∧ d = .agg [.lit (.int k x), .lit (.int k y)] ∧ p = [] ∧ (Lit.int k x).wf = true ∧ (Lit.int k y).wf = true := by
  obtain ⟨cs, rfl, hsz⟩ := okWide_array ht hv
  obtain ⟨c0, c1, rfl⟩ := Joins.array2 (hsz.trans hC)
  obtain ⟨fuel, hf⟩ := h
  obtain ⟨xs, m, _, hx, _, hl, hi⟩ := DataW.trod_array ht hf
  simp only [hc, Value.cells] at hi
  have i0 := hi 0 (by omega)
  have i1 := hi 1 (by omega)
  match xs, hl with
  | [y0, y1], _ =>
    simp at i0 i1
    obtain ⟨a0, e0, z0, w0⟩ := DataW.trod_int he i0
    obtain ⟨a1, e1, z1, w1⟩ := DataW.trod_int he i1
    simp at e0 e1
    subst e0 e1 z0 z1
    simp at hx
    exact ⟨a0, a1, rfl, hx.1, hx.2, w0, w1⟩
theorem open_arr3 {r : Reach} {b0 : Nat} {t e : TypeId} {v : Value} {d : DataW H} {p : List MemPlace} (ht : P.underlying t = some (.array 3 e)) (he : P.underlying e = some (.int k)) (hc : P.cellsOf e = 1) (hC : P.cellsOf t = 3)
    (hv : Value.okWide P w r b0 t v) (h : DataW.Trod enc P w base spare held t v d p) :
    ∃ x y z : Int, v = .agg #[.int k x, .int k y, .int k z] ∧ d = .agg [.lit (.int k x), .lit (.int k y), .lit (.int k z)] ∧ p = [] ∧ (Lit.int k x).wf = true ∧ (Lit.int k y).wf = true ∧ (Lit.int k z).wf = true := by
  obtain ⟨cs, rfl, hsz⟩ := okWide_array ht hv
  obtain ⟨c0, c1, c2, rfl⟩ := Joins.array3 (hsz.trans hC)
  obtain ⟨fuel, hf⟩ := h
  obtain ⟨xs, m, _, hx, _, hl, hi⟩ := DataW.trod_array ht hf
  simp only [hc, Value.cells] at hi
  have i0 := hi 0 (by omega)
  have i1 := hi 1 (by omega)
  have i2 := hi 2 (by omega)
  match xs, hl with
  | [y0, y1, y2], _ =>
    simp at i0 i1 i2
    obtain ⟨a0, e0, z0, w0⟩ := DataW.trod_int he i0
    obtain ⟨a1, e1, z1, w1⟩ := DataW.trod_int he i1
    obtain ⟨a2, e2, z2, w2⟩ := DataW.trod_int he i2
    simp at e0 e1 e2
    subst e0 e1 e2 z0 z1 z2
    simp at hx
    exact ⟨a0, a1, a2, rfl, hx.1, hx.2, w0, w1, w2⟩
end

end Go.Proofs.Ytniljnidpcgjgaa

/- A slice of pairs of integers that came in; how much a slice that came in can hold. -/
namespace Go.Proofs.Ytniljnidpcgjgaa
open Go.RowKit Go.ChangeShapes Go.WideShapes Go.ChangeAt

/-- a slice of pairs of integers as a call reads it -/
inductive PRow (w : World) : Value → List (Int × Int) → Prop
  | nil : PRow w (.slice none 0 0) []
  | none (a : Addr) (cap : Nat) : PRow w (.slice (some a) 0 cap) []
  | some (b off cap : Nat) (zs : List (Int × Int)) (h0 : 0 < zs.length) (hc : zs.length ≤ cap) (hm : cap ≤ maxLen) (hb : b < w.heap.size) (hcell : ∀ (i : Nat) z, zs[i]? = Option.some z → w.cell? ⟨b, off + i * 2, Option.none⟩ = Option.some (.int .i64 z.1) ∧ w.cell? ⟨b, off + i * 2 + 1, Option.none⟩ = Option.some (.int .i64 z.2)) : PRow w (.slice (Option.some ⟨b, off, Option.none⟩) zs.length cap) zs
theorem cells_two {w : World} {base : Nat} {a : Addr} {cs : List Value} (h : w.cells? base a 2 = some cs) : ∃ x y, cs = [x, y] ∧ w.cell? a = some x ∧ w.cell? (a.add 1) = some y := by
  unfold World.cells? at h
  split at h
  · have e : List.range 2 = [0, 1] := rfl
    have e0 : a.add 0 = a := by cases a; rfl
    rw [e] at h
    simp only [List.mapM_cons, List.mapM_nil, e0, Option.bind_eq_bind, Option.bind_eq_some_iff] at h
    obtain ⟨x, hx, ys, ⟨y, hy, _, hn, hz⟩, hcs⟩ := h
    cases hn
    cases hz
    cases hcs
    exact ⟨x, y, rfl, hx, hy⟩
  · cases h
theorem open_prow {H : Type} {enc : TypeId × Value → H} {P : Program} {w : World} {t e e' : TypeId} {v : Value} {d : DataW H} {ps : List MemPlace} {r : Reach} {b0 : Nat} (ht : P.underlying t = some (.slice e)) (he : P.underlying e = some (.array 2 e')) (he' : P.underlying e' = some (.int .i64)) (hc : P.cellsOf e = 2) (hc' : P.cellsOf e' = 1)
    (hval : Value.okWide P w r b0 t v) (h : DataW.Trod enc P w 0 (fun _ => true) true t v d ps) : ∃ zs, PRow w v zs := by
  obtain ⟨a0, len, cap, rfl⟩ := okWide_slice ht hval
  obtain ⟨fuel, hf⟩ := h
  rcases DataW.trod_slice ht hf with ⟨hcs, _⟩ | ⟨a, len', cap', elems, rest, n, _, hcs, _, _, hl, hm, hlen, hel, _, _⟩
  · simp [Value.cells] at hcs
    obtain ⟨rfl, rfl, rfl⟩ := hcs
    exact ⟨[], .nil⟩
  · simp [Value.cells] at hcs
    obtain ⟨rfl, rfl, rfl⟩ := hcs
    have key : ∀ i, i < len → ∃ z : Int × Int, w.cell? (a.add (i * 2)) = some (.int .i64 z.1) ∧ w.cell? ((a.add (i * 2)).add 1) = some (.int .i64 z.2) := by
      intro i hi
      have k := hel i hi
      rw [List.getElem?_eq_getElem (by omega), hc, Option.bind_eq_some_iff] at k
      obtain ⟨cs, k1, k2⟩ := k
      obtain ⟨x, y, rfl, hx, hy⟩ := cells_two k1
      obtain ⟨xs, m, _, _, _, hl2, hi2⟩ := DataW.trod_array he k2
      simp only [hc'] at hi2
      have i0 := hi2 0 (by omega)
      have i1 := hi2 1 (by omega)
      match xs, hl2 with
      | [y0, y1], _ =>
        simp at i0 i1
        obtain ⟨z0, e0, _, _⟩ := DataW.trod_int he' i0
        obtain ⟨z1, e1, _, _⟩ := DataW.trod_int he' i1
        simp at e0 e1
        subst e0 e1
        exact ⟨(z0, z1), hx, hy⟩
    by_cases h0 : len = 0
    · subst h0
      exact ⟨[], .none a cap⟩
    · obtain ⟨b, off, spot⟩ := a
      obtain ⟨z0, hz0, _⟩ := key 0 (by omega)
      have hspot : spot = none := by simpa [Addr.add] using World.cell?_spot hz0
      subst hspot
      have hb : b < w.heap.size := World.block_lt_of_cell? w _ hz0
      obtain ⟨f, hf⟩ : ∃ f : Nat → Int × Int, ∀ i, i < len → w.cell? ⟨b, off + i * 2, none⟩ = some (.int .i64 (f i).1) ∧ w.cell? ⟨b, off + i * 2 + 1, none⟩ = some (.int .i64 (f i).2) := by
        have key2 : ∀ i, i < len → ∃ z : Int × Int, w.cell? ⟨b, off + i * 2, none⟩ = some (.int .i64 z.1) ∧ w.cell? ⟨b, off + i * 2 + 1, none⟩ = some (.int .i64 z.2) := by
          intro i hi
          have k := key i hi
          rw [Go.WideShapes.add_plain, Go.WideShapes.add_plain] at k
          exact k
        refine ⟨fun i => if h : i < len then Classical.choose (key2 i h) else (0, 0), fun i hi => ?_⟩
        simp only [dif_pos hi]
        exact Classical.choose_spec (key2 i hi)
      have hlen2 : ((List.range len).map f).length = len := by simp
      refine ⟨(List.range len).map f, ?_⟩
      have k := PRow.some (w := w) b off cap ((List.range len).map f) (by omega) (by omega) hm hb (fun i z hz => by
        have hi := (List.getElem?_eq_some_iff.1 hz).1
        rw [hlen2] at hi
        rw [List.getElem?_map, List.getElem?_range hi] at hz
        obtain rfl : f i = z := by simpa using hz
        exact hf i hi)
      rw [hlen2] at k
      exact k
/-- what a slice that came in can hold -/
theorem slice_weight {H : Type} {enc : TypeId × Value → H} {P : Program} {w : World} {t e : TypeId} {d : DataW H} {ps : List MemPlace} {p : Option Addr} {len cap : Nat} {ts : List TypeId} {ds : List (DataW H)} {j : Nat} (ht : P.underlying t = some (.slice e)) (h : DataW.Trod enc P w 0 (fun _ => true) true t (.slice p len cap) d ps)
    (hs : (DataW.weightsEach P ts ds).all (· ≤ reachBytes) = true) (hj : ts[j]? = some t) (hd : ds[j]? = some d) : len * P.bytesOf e ≤ 140737488351232 := by
  obtain ⟨fuel, hf⟩ := h
  rcases DataW.trod_slice ht hf with ⟨hcs, _⟩ | ⟨a, len', cap', elems, rest, n, _, hcs, hx, _, hl, hm, hlen, hel, _, _⟩
  · simp [Value.cells] at hcs
    obtain ⟨_, rfl, _⟩ := hcs
    omega
  · simp [Value.cells] at hcs
    obtain ⟨_, rfl, _⟩ := hcs
    have hd' : d = .slice (elems.map (·.1)) (rest.map (·.1)) := congrArg Prod.fst hx
    rw [hd'] at hd
    have k := sized_slice hs hj hd ht
    simp only [List.length_map, hlen] at k
    have e : reachBytes = 140737488351232 := by decide
    rw [e] at k
    exact Nat.le_trans (Nat.mul_le_mul_right _ (Nat.le_add_right _ _)) k
theorem PA.len {w : World} {v : Value} {zs : List (Int × Int)} {k : Nat} (h : PRow w v zs) (hb : ∀ q l c, v = .slice q l c → l * k ≤ 140737488351232) : zs.length * k ≤ 140737488351232 := by
  cases h with
  | nil => simp
  | none a cap => simp
  | some b off cap _ h0 hc hm hb' hcell => exact hb _ _ _ rfl
theorem PB.len {w : World} {v : Value} {zs : List Int} {k : Nat} (h : IRow w v zs) (hb : ∀ q l c, v = .slice q l c → l * k ≤ 140737488351232) : zs.length * k ≤ 140737488351232 := by
  cases h with
  | nil => simp
  | none a cap => simp
  | some b off cap _ h0 hc hm hb' hcell => exact hb _ _ _ rfl
end Go.Proofs.Ytniljnidpcgjgaa

/- What the bound of an '..UptoSaid' gives of a slice that came in. -/
namespace Go.Proofs.Ytniljnidpcgjgaa
open Go.RowKit Go.ChangeShapes Go.WideShapes Go.ChangeAt

theorem bulk_one {H : Type} (d : DataW H) : 1 ≤ Rows.uptoBulk d := by
  cases d with
  | lit l => cases l <;> simp [Rows.uptoBulk]
  | nil => simp [Rows.uptoBulk]
  | ptr d => simp [Rows.uptoBulk]
  | slice elems spare => simp [Rows.uptoBulk]
  | agg parts => simp [Rows.uptoBulk]
  | iface t d => simp [Rows.uptoBulk]
  | map entries => simp [Rows.uptoBulk]
  | held h => simp [Rows.uptoBulk]
theorem bulk_part {H : Type} : ∀ {l : List (DataW H)} {j : Nat} {d : DataW H}, l[j]? = some d → Rows.uptoBulk d ≤ Rows.uptoBulkAll l
  | [], _, _, h => by simp at h
  | x :: l, 0, d, h => by
    obtain rfl : x = d := by simpa using h
    simp only [Rows.uptoBulkAll]; omega
  | x :: l, j + 1, d, h => by
    have := bulk_part (l := l) (j := j) (d := d) (by simpa using h)
    simp only [Rows.uptoBulkAll]; omega
theorem bulk_len {H : Type} : ∀ (l : List (DataW H)), l.length ≤ Rows.uptoBulkAll l
  | [] => by simp [Rows.uptoBulkAll]
  | x :: l => by
    have h1 := bulk_one x
    have h2 := bulk_len l
    simp only [Rows.uptoBulkAll, List.length_cons]; omega
theorem slice_bulk {H : Type} {enc : TypeId × Value → H} {P : Program} {w : World} {t e : TypeId} {d : DataW H} {ps : List MemPlace} {p : Option Addr} {len cap : Nat} {ds : List (DataW H)} {j : Nat} (ht : P.underlying t = some (.slice e)) (h : DataW.Trod enc P w 0 (fun _ => true) true t (.slice p len cap) d ps)
    (hk : Rows.uptoSmall H ds = true) (hd : ds[j]? = some d) : len ≤ 1048576 := by
  have hb : Rows.uptoBulkAll ds ≤ 1048576 := of_decide_eq_true hk
  obtain ⟨fuel, hf⟩ := h
  rcases DataW.trod_slice ht hf with ⟨hcs, _⟩ | ⟨a, len', cap', elems, rest, n, _, hcs, hx, _, hl, hm, hlen, hel, _, _⟩
  · simp [Value.cells] at hcs
    obtain ⟨_, rfl, _⟩ := hcs
    omega
  · simp [Value.cells] at hcs
    obtain ⟨_, rfl, _⟩ := hcs
    have hd' : d = .slice (elems.map (·.1)) (rest.map (·.1)) := congrArg Prod.fst hx
    have k := bulk_part hd
    rw [hd'] at k
    have k2 := bulk_len (elems.map (·.1))
    rw [List.length_map, hlen] at k2
    simp only [Rows.uptoBulk] at k
    omega
theorem PC.len {w : World} {v : Value} {zs : List Int} {b : Nat} (h : IRow w v zs) (hb : ∀ q l c, v = .slice q l c → l ≤ b) : zs.length ≤ b := by
  cases h with
  | nil => simp
  | none a cap => simp
  | some b off cap _ h0 hc hm hb' hcell => exact hb _ _ _ rfl
end Go.Proofs.Ytniljnidpcgjgaa
